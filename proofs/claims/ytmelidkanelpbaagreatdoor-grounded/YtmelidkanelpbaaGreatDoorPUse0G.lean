import Derived.Test.YtmelidkanelpbaaGreatDoorRPrim0G
import Derived.Test.YtmelidkanelpbaaGreatDoorPCl0G
import Derived.Test.YtmelidkanelpbaaGreatDoorStepAppG
import Derived.StringKeys
import Derived.Sort.QuietIn
open Array renaming getElem_setIfInBounds→zu,getElem?_eq_some_iff→zt,replicate→zn
open Bool renaming and_eq_true→zs
open List renaming replicate→zz,getElem?_toArray→zy,length_append→zw,getElem?_eq_getElem→zr,take_succ_eq_append_getElem→zq,all_eq_true→zj,take_of_length_le→zi,range→za
open Nat renaming add_right_comm→zg,zero_le→zf,le_refl→ze
namespace Go.Proofs.YtmelidkanelpbaaGreatDoor
open Region renaming ready→zv,binds→zm,wanted→zh,lexB→zc
open _root_.Go.Proofs.Tryz renaming prog→zx,underlying9→zo,underlying90→zk
open Go.RowKit Go.Shelf Go.WideMaps
set_option maxHeartbeats 2000000
set_option maxRecDepth 100000
variable{w:World}
abbrev Us:=ByteArray×Bool×Int
def lV(b:Nat)(a:Nd):List Us:=if aK a then [] else [(a.1,decide (b=0),a.2)]
def jY(a:List Nd):Nat->List Us
 |0=>[]
 |k+1=>jY a k++((a[k]?).map (lV k)).getD []
def nY(a:List Lt):Nat->List Us
 |0=>[]
 |k+1=>nY a k++((a[k]?).map λb=>jY b.2 b.2.length).getD []
def pR(a:List Lt):List Us:=nY a a.length
theorem aKm(b:List Nd)(a:Nat)(c:a<b.length):jY b (a+1)=jY b a++lV a b[a]:=by simp [jY,c]
theorem aDx(a:List Lt)(b:Nat)(c:b<a.length):nY a (b+1)=nY a b++jY a[b].2 a[b].2.length:=by simp [nY,c]
theorem aKn(b:List Nd)(a:Nat):(jY b a).length<=a:=by
 induction a with
 |zero=>simp [jY]
 |succ a ih=>
  simp only [jY,zw];have:(((b[a]?).map (lV a)).getD []).length<=1:=by
   cases b[a]? with
   |none=>simp
   |some n=>simp [lV];split<;>simp
  omega
theorem aVg(b:List Lt)(a:Nat):(nY b a).length<=aS (b.take a):=by
 induction a with
 |zero=>simp [nY]
 |succ a ih=>
  by_cases c:a<b.length
  ·rw [aDx b a c,zq c,rD,zw];have:=aKn b[a].2 b[a].2.length;omega
  ·have d:b[a]?=none:=List.getElem?_eq_none (by omega);have e:b.take (a+1)=b.take a:=by rw [zi (by omega),zi (by omega)]
   simp only [nY,d,e];simpa using ih
def wJ(a:List Us):Prop:=∀b (d:b<a.length),a[b].2.2<=5/\∀c (e:c<b),(a[c]'(by omega)).1=a[b].1->(a[c]'(by omega)).2=a[b].2
theorem aVh(a:Nat):((a:Int)==0)=decide (a=0):=by rw [Bool.eq_iff_iff];simp
def jP(a:Pl):Us:=(a.1,a.2.1,a.2.2.1)
def gH(b:List Us):List Value:=b.flatMap λa=>[.string a.1,.bool a.2.1,.int .i64 a.2.2]
theorem aVi(b:List Us)(a:Us):gH (b++[a])=gH b++[.string a.1,.bool a.2.1,.int .i64 a.2.2]:=by simp [gH]
theorem aDy(b:List Us):∀a (c:a<b.length),(gH b)[a*3]?=some (.string b[a].1)/\(gH b)[a*3+1]?=some (.bool b[a].2.1)/\(gH b)[a*3+2]?=some (.int .i64 b[a].2.2):=by
 induction b with
 |nil=>intro a c;simp at c
 |cons x r ih=>
  intro a c;cases a with
  |zero=>simp [gH]
  |succ a=>
   have:=ih a (by simpa using c);have d:(a+1)*3=a*3+3:=by omega
   rw [d];simp only [gH,List.flatMap_cons,List.cons_append,List.nil_append,List.getElem_cons_succ] at this ⊢;have e:a*3+3+1=a*3+1+3:=by omega
   have f:a*3+3+2=a*3+2+3:=by omega
   rw [e,f];simp only [List.getElem?_cons_succ];exact this
structure aKo(w:World)(a:Option Addr)(U:List Us):Prop where
 few:U.length<=1000000
 short:∀k (h:k<U.length),U[k].1.size<=140737488355328
 cell:∀k (h:k<U.length),∃b,a=some ⟨b,0,none⟩/\w.cell? ⟨b,k*3,none⟩=some (.string U[k].1)/\w.cell? ⟨b,k*3+1,none⟩=some (.bool U[k].2.1)/\w.cell? ⟨b,k*3+2,none⟩=some (.int .i64 U[k].2.2)
theorem aVj{g:Nat}{m:Value}{a:List Us}(j:w.ownsRow g 92 3 m a.length (gH a))(k:a.length<=1000000)(l:∀b (j:b<a.length),a[b].1.size<=140737488355328):∃i c,m=.slice i a.length c/\aKo w i a:=by
 obtain ⟨o,⟨rfl,p⟩|⟨e,c,n,rfl,q,s,r,t,v,u⟩⟩:=j
 ·exact ⟨none,0,by rw [p],k,l,λb d=>by omega⟩
 ·have f:w.ownsRow g 92 3 (.slice (some ⟨e,0,none⟩) a.length c) a.length (gH a):=⟨o,Or.inr ⟨e,c,n,rfl,q,s,r,t,v,u⟩⟩;refine ⟨_,_,rfl,k,l,λb d=>⟨e,rfl,?_,?_,?_⟩⟩
  ·rw [f.cellAt (b*3) (by omega),(aDy a b d).1]
  ·rw [f.cellAt (b*3+1) (by omega),(aDy a b d).2.1]
  ·rw [f.cellAt (b*3+2) (by omega),(aDy a b d).2.2]
theorem aKp:(zx.info? 92).map (λa=>(a.zero,a.size,a.bytes))=some (some (.agg #[.string ⟨#[]⟩,.bool false,.int .i64 0]),3,32):=by kernel_rfl
theorem aVk{c b:World}{e f:Value}{a:List Us}{x:Us}(j:c.ownsRow w.heap.size 92 3 e a.length (gH a))(d:aB w c)
  (k:b.ownsRow w.heap.size 92 3 f (a.length+1) (gH a++[.string x.1,.bool x.2.1,.int .i64 x.2.2])) (i:c.grownBy b e.ownBlock):b.ownsRow w.heap.size 92 3 f (a++[x]).length (gH (a++[x]))/\aB w b:=by
 refine ⟨?_,d.grown i d.size λl g=>(cO j l g).1⟩;rw [aVi,zw];exact k
theorem aVl(w:World)(d e x:Value)(g:TypeId)(c:Nat)(f:c=w.heap.size):∀j b,[d,e,x][j]?=some b->(w.alloc (.cells #[d,e,x] g)).cell? ((⟨c,0,none⟩ : Addr).add j)=some b:=by
 subst f;intro j b a;match j,a with
 |0,a=>simp at a;subst a;simp [Addr.add]
 |1,a=>simp at a;subst a;simp [Addr.add]
 |2,a=>simp at a;subst a;simp [Addr.add]
 |j+3,a=>simp at a
theorem aVm(d:ByteArray)(c:Bool)(x:Int):∀b∈[Value.string d,Value.bool c,Value.int .i64 x],b.oneCell'=true:=by intro b a;simp at a;rcases a with rfl|rfl|rfl<;>rfl
theorem aVn(H:Option Addr)(a3:Nat)(b:List Lt)(w:World)(v:cH w H b)(c8:aS b<=100000):Calls zx 41 #[.slice H b.length a3] w λu U=>∃T,u=.returned T/\U.ownsRow w.heap.size 92 3 T (pR b).length (gH (pR b))/\aB w U:=by
 obtain ⟨b3,a6,a7,a8,a9⟩:=info_parts aKp;have c9:=v.few;have a0:=aA v;clear v;go_enter Tryz.func41,Tryz.ntmps41;go_wp2;go_loopw [3,10] (λD B wr=>∃c:Nat,c<=b.length/\B=.int .i64 c/\wr.ownsRow w.heap.size 92 3 D (nY b c).length (gH (nY b c))/\aB w wr) (λ_ B _=>b.length-(intOf B).toNat);case atStart=>exact ⟨0,zf _,rfl,World.ownsRow_nil _ _ _ _,Below.refl _ _⟩
 case round=>
  obtain ⟨c,d0,rfl,y,l⟩:=hrel;by_cases x:c<b.length
  ·obtain ⟨c6,d7,b9,c0,rfl,I,L,r⟩:=a0.o.cell c x;have a4:=aC l I;have a5:=aC l L;have e:=aDx b c x;have d4:=aVg b c;have P:=xS b (c+1);rw [zq x,rD] at P;generalize b[c]=z at *;obtain ⟨e0,d⟩:=z;simp only at a4 a5 r e P;generalize nY b c=U0 at *;have F:=aA e;have Z:=aA r;have d5:=r.few;have b0:=l.size;clear I L r e;go_wp2;go_loopw [3,17] (λD C X=>∃a:Nat,a<=d.length/\C=.int .i64 a/\X.ownsRow w.heap.size 92 3 D (U0++jY d a).length (gH (U0++jY d a))/\aB w X) (λ_ C _=>d.length-(intOf C).toNat);case atStart=>exact ⟨0,zf _,rfl,by simpa [jY] using y.alloc _,l.alloc b0 _⟩
   case round=>
    obtain ⟨a,d2,rfl,m,i⟩:=hrel;by_cases R:a<d.length
    ·obtain ⟨c7,d6,rfl,J,M⟩:=Z.o.cell a R;have b4:=aC i J;have b5:=aC i M;have j:=aKm d a R;have d3:=aKn d a;generalize d[a]=nd at *;obtain ⟨f,k⟩:=nd;simp only at b4 b5;have o:=aA (λb8=>pQ f k b8);have O:=i.size;have q:=aA i;clear J M i;cases hv:f.toList.isEmpty
     ·have e:lV a (f,k)=[(f,((a:Int)==0),k)]:=by simp [lV,aK,hv,aVh]
      rw [e] at j;rw [hv] at o;have t:=aA j;have d1:(U0++jY d a).length<=200000:=by rw [zw];omega
      have a2:aM (U0++jY d (a+1)=(U0++jY d a)++[(f,((a:Int)==0),k)]):=aA (by rw [j,List.append_assoc]);clear j t;generalize U0++jY d a=V at *;clear e hv;go_wp2_with (first
       |(go_at_call 67;refine (aD o _).mono ?_;rintro u W ⟨rfl,g⟩;obtain ⟨b6,b7,n⟩:=jD g;have A:=bK (m.alloc _) g (ze _);have p:=aA (q.o.trans (n.mono O));have N:=p.o.size;clear g n)
       |(at_builtin;refine wpList_append_own _ rfl (.tmp 25) (.tmp 33) 67 rfl w.heap.size 92 b3 (.agg #[.string ⟨#[]⟩,.bool false,.int .i64 0]) 3 32 Tryz.underlying67 a6 a7 a8 a9 rfl (by decide) _ _ _ rfl (A.alloc _) ⟨W.heap.size,0,none⟩ 1 1 [.string f,.bool ((a:Int)==0),.int .i64 k] rfl rfl ?c1 ?c2 ?c3 ?c4 ?c5 ?_)
       |go_in)
      case c1=>exact aVl _ _ _ _ _ _ (by simp)
      case c2=>first|exact aVm _ _ _|exact ⟨rfl,rfl,rfl⟩
      case c3=>unfold maxLen;omega
      case c4=>omega
      case c5=>exact Nat.le_trans N (World.grownBy_alloc _ _ none).size
      intro d8 d9 S Q _;have G:=aVk (x:=(f,((a:Int)==0),k)) (A.alloc _) (p.o.alloc N _) S Q;have E:=aA G;clear S Q A G;go_wp2;go_roundw;case rel=>exact ⟨a+1,by omega,by go_num,by rw [a2.o];exact E.o.1,E.o.2⟩
      case measure=>simp [intOf];omega
     ·have e:lV a (f,k)=[]:=by simp [lV,aK,hv]
      rw [e,List.append_nil] at j;rw [hv] at o;have t:=aA j;have s:=aA m;clear j e hv m;go_wp2_with (first
       |(go_at_call 67;refine (aD o _).mono ?_;rintro u W ⟨rfl,g⟩;obtain ⟨b6,b7,n⟩:=jD g;have a1:=aA (bK (s.o.alloc _) g (ze _));have p:=aA (q.o.trans (n.mono O));clear g n)
       |go_in)
      go_roundw;case rel=>exact ⟨a+1,by omega,by go_num,by rw [t.o];exact a1.o,p.o⟩
      case measure=>simp [intOf];omega
    ·have b2:a=d.length:=by omega
     subst b2;rw [<-F.o] at m;have s:=aA m;have q:=aA i;clear m i F;go_wp2;go_roundw;case rel=>exact ⟨c+1,by omega,by go_num,s.o,q.o⟩
     case measure=>simp [intOf];omega
  ·have b1:c=b.length:=by omega
   subst b1;have Y:=aA (And.intro y l);clear y l;go_wp2;go_ret;exact ⟨_,rfl,Y.o⟩
def wK(a:Value):Option (DataW Unit×List MemPlace):=
 match a with
 | .agg cs=>match cs.toList with
  |[.string s,.bool b,.int .i64 n]=>some (.agg [.lit (.string s.data.toList),.lit (.bool b),.lit (.int .i64 n)],[])
  |_=>none
 |_=>none
def qP(a:Us):DataW Unit:=.agg [.lit (.string a.1.data.toList),.lit (.bool a.2.1),.lit (.int .i64 a.2.2)]
theorem bEl(a:Us):wK (.agg #[.string a.1,.bool a.2.1,.int .i64 a.2.2])=some (qP a,[]):=rfl
theorem aKq{e:Value}{c:Us}{j:List MemPlace}(a:wK e=some (qP c,j)):e=.agg #[.string c.1,.bool c.2.1,.int .i64 c.2.2]:=by
 unfold wK at a;split at a
 ·next cs=>
  split at a
  ·next s b n hcs=>
   have i:cs=#[.string s,.bool b,.int .i64 n]:=by have:=congrArg List.toArray hcs;simpa using this
   subst i;simp only [qP,Option.some.injEq,Prod.mk.injEq,DataW.agg.injEq,List.cons.injEq,DataW.lit.injEq,Lit.string.injEq,Lit.bool.injEq,Lit.int.injEq,and_true,true_and] at a;obtain ⟨⟨d,f,g⟩,_⟩:=a;have:s=c.1:=by obtain ⟨⟨k⟩⟩:=s;obtain ⟨⟨⟨l⟩⟩,m⟩:=c;simp at d;rw [d]
   rw [this,f,g]
  ·simp at a
 ·simp at a
structure yL(D:DataW Unit)(U:List Us)(k:Nat):Prop where
 isMap:Maps.IsMap D
 old:∀j (h:j<U.length),j<k->Maps.has D (.string U[j].1.data.toList)=true/\∀z,D.atKey (.string U[j].1.data.toList) z=qP U[j]
 new:∀s:ByteArray,(∀j (h:j<U.length),j<k->U[j].1≠s)->Maps.has D (.string s.data.toList)=false
theorem aKr{a b:ByteArray}(c:a.data.toList=b.data.toList):a=b:=by obtain ⟨⟨d⟩⟩:=a;obtain ⟨⟨e⟩⟩:=b;simp at c;rw [c]
theorem aVo(a:List Us):yL (.map []) a 0:=⟨Maps.isMap_empty,λc _ b=>by omega,λd _=>rfl⟩
theorem aVp{k:DataW Unit}{a:List Us}{b:Nat}(d:yL k a b)(r:b<a.length)(s:∀c (e:c<a.length),c<b->a[c].1=a[b].1->a[c]=a[b]):yL (k.put (.string a[b].1.data.toList) (qP a[b])) a (b+1):=by
 have l:WideAt.IsKeyLit (.string a[b].1.data.toList):=trivial;refine ⟨d.isMap.put _ _,λc e q=>?_,λo n=>?_⟩
 ·by_cases i:a[c].1=a[b].1
  ·have t:a[c]=a[b]:=by
    by_cases j:c=b
    ·subst j;rfl
    ·exact s c e (by omega) i
   rw [t];exact ⟨Maps.has_put_same d.isMap l _,λp=>Maps.atKey_put_same d.isMap l _ _⟩
  ·have f:(Lit.string a[c].1.data.toList)≠.string a[b].1.data.toList:=λg=>i (aKr (by simpa using g))
   have j:c<b:=by
    rcases Nat.lt_or_ge c b with h1|h1
    ·exact h1
    ·have:c=b:=by omega
     subst this;exact absurd rfl i
   have m:=d.old c e j;exact ⟨by rw [Maps.has_put_other f];exact m.1,λp=>by rw [Maps.atKey_put_other f];exact m.2 p⟩
 ·have f:(Lit.string o.data.toList)≠.string a[b].1.data.toList:=λg=>n b r (by omega) (aKr (by simpa using g)).symm
  rw [Maps.has_put_other f];exact d.new o λc e q=>n c e (by omega)
def tB(a:List Us)(d:Nat):Prop:=∀b (e:b<a.length),b<d->a[b].2.2<=5/\∀c (f:c<b),(a[c]'(by omega)).1=a[b].1->(a[c]'(by omega)).2=a[b].2
theorem aVq{a:List Us}(c:tB a a.length):wJ a:=λd b=>c d b b
theorem aVr:zx.stoodInHeld 92=false:=by kernel_rfl
theorem aVs:zx.eqGuardType zx.depth 92=false:=by kernel_rfl
theorem aVt:zx.underlying 92=some (.struct (zx.fieldsOf 92)):=by kernel_rfl
def wL(a b:Us):Bool:=decide (a=b)
theorem aVu(a b:Us)(w:World):(Op.equalIn 10000 92 (.agg #[.string a.1,.bool a.2.1,.int .i64 a.2.2]) (.agg #[.string b.1,.bool b.2.1,.int .i64 b.2.2])).run zx w=.ok (wL a b) w:=by rw [show (10000:Nat)=9999+1 from rfl,run_equalIn_agg w 9999 92 _ _ aVt aVr];simp only [Program.fieldsOf,Tryz.underlying92];go_simp;obtain ⟨k,c,j⟩:=a;obtain ⟨l,d,i⟩:=b;simp only [wL,zW];by_cases e:k=l<;>by_cases f:c=d<;>by_cases g:j=i<;>simp [e,f,g]
def tC(a:List Us)(c:Int):Prop:=(c=-1/\wJ a)\/∃b:Nat,b<a.length/\c=b/\tB a b/\¬tB a (b+1)
theorem tC.of{b:List Us}{a:Nat}(c:tB b a)(d:a<b.length)(e:¬tB b (a+1)):tC b a:=Or.inr ⟨a,d,rfl,c,e⟩
theorem aVv(a3:Option Addr)(b1:Nat)(a:List Us)(w:World)(V:aKo w a3 a):Calls zx 25 #[.slice a3 a.length b1] w λb2 c1=>∃b0:Int,b2=.returned (.int .i64 b0)/\tC a b0/\aB w c1:=by
 have c7:=V.few;have a2:=aA V;have c9:=@run_makeMap zx;have c6:=aVs;clear V;go_enter Tryz.func25,Tryz.ntmps25;go_wp2;go_loopw [11] (λd wr=>∃(b:Nat) (n:DataW Unit),b<=a.length/\d=.int .i64 b/\wr.ownsMap zx 9 wK w.heap.size b n/\yL n a b/\tB a b/\aB w wr) (λd _=>a.length-(intOf d).toNat);case atStart=>exact ⟨0,.map [],zf _,rfl,World.ownsMap_made _ _ _ _,aVo a,λd _ O=>by omega,(Below.refl _ _).alloc (ze _) _⟩
 case round=>
  obtain ⟨b,n,c8,rfl,s,W,X,p⟩:=hrel;have N:=p.size;have E:=aA W;have z:=aA X;have C:=aA p;by_cases r:b<a.length
  ·obtain ⟨c5,rfl,a4,a5,a6⟩:=a2.o.cell b r;have Q:=aC p a4;have R:=aC p a5;have S:=aC p a6;have Y:=a2.o.short b r;have D:aM (5<a[b].2.2->tC a b):=λk=>tC.of z.o r λi=>by have:=(i b r (by omega)).1;omega
   have F:aM (∀c (e:c<a.length),c<b->a[c].1=a[b].1->a[c]≠a[b]->tC a b):=λc e g f b9=>tC.of z.o r λi=>by
    have b3:=(i b r (by omega)).2 c g f;exact b9 (Prod.ext f b3)
   have B:aM (a[b].2.2<=5->(∀c (e:c<a.length),c<b->a[c].1=a[b].1->a[c]=a[b])->tB a (b+1)/\yL (n.put (.string a[b].1.data.toList) (qP a[b])) a (b+1)):=λk a9=>by
    refine ⟨λd O a8=>?_,aVp E.o r a9⟩;by_cases b6:d=b
    ·subst b6;exact ⟨k,λc e f=>by rw [a9 c (by omega) e f]⟩
    ·exact z.o d O (by omega)
   have q:keyOf zx 9 (.string a[b].1)=some (.string a[b].1.data.toList):=keyOf_string_mk zo (by unfold maxLen;omega);clear a4 a5 a6 p W X;by_cases k:5<a[b].2.2
   ·have G:=aA (D.o k);clear D F B q s;generalize a[b]=u at *;obtain ⟨j,x,v⟩:=u;simp only at Q R S k;go_wp2;go_ret;exact ⟨_,rfl,G.o,C.o.alloc N _⟩
   ·have H:a[b].2.2<=5:=by omega
    have b4:=(s.alloc (.cells #[.string a[b].1,.bool a[b].2.1,.int .i64 a[b].2.2] 92)).look_ok (Maps.string_keyed zo) zk (Tryz.zeroValue92 _) (zd:=qP (⟨#[]⟩,false,0)) (zp:=[]) rfl q;obtain ⟨d4,d1,l,t⟩:=b4;cases hhas:Maps.has n (.string a[b].1.data.toList)
    ·rw [aBc E.o.isMap hhas] at t;have Z:=aKq t;subst Z;rw [hhas] at l;have o:=aA (B.o H (λc e g f=>by
      have:=(E.o.old c e g).1;rw [f,hhas] at this;simp at this))
     have A:=aA q;clear D F B t hhas q;generalize i:a[b]=u at *;obtain ⟨j,x,v⟩:=u;simp only at Q R S k H Y l o A;clear i;go_wp2_with (first
      |(at_mapUpdate;refine wpList_mapUpdate_own _ rfl _ _ _ 90 rfl 9 92 (Maps.string_keyed zo) zk wK w.heap.size b n rfl ((s.alloc _).alloc _) (by unfold maxLen;omega) _ _ (.string j.data.toList) rfl rfl (aD A) (qP (j,x,v)) [] rfl ?_)
      |go_in)
     intro c2 L I;have U:=aA L;have T:=aA (((C.o.alloc N (.cells #[.string j,.bool x,.int .i64 v] 92)).alloc (by simp;omega) _).grown I (by simp;omega) (λc4 a0=>by simp at a0;omega));clear L I s l;go_wp2;go_roundw;case rel=>exact ⟨b+1,_,by omega,by go_num,U.o,o.o.2,o.o.1,T.o⟩
     case measure=>simp [intOf];omega
    ·obtain ⟨c,e,g,J⟩ : ∃c,∃e:c<a.length,c<b/\a[c].1=a[b].1:=Classical.byContradiction λc0=>by
      have:=E.o.new a[b].1 (λc e g f=>c0 ⟨c,e,g,f⟩);rw [hhas] at this;simp at this
     have M:=(E.o.old c e g).2 (qP (⟨#[]⟩,false,0));rw [J] at M;rw [M] at t;have Z:=aKq t;subst Z;rw [hhas] at l;have a1:=λc3=>aVu a[c] a[b] c3
     have A:=aA q;by_cases m:a[c]=a[b]
     ·have a7:wL a[c] a[b]=true:=by simp [wL,m]
      have o:=aA (B.o H (λd O a8 f=>by
       by_cases b5:d=c
       ·subst b5;exact m
       ·have P:a[d].1=a[c].1:=f.trans J.symm;have:a[d]=a[c]:=by
         rcases Nat.lt_or_ge d c with b8|hge
         ·exact Prod.ext P ((z.o c e g).2 d b8 P)
         ·exact (Prod.ext P.symm ((z.o d O a8).2 c (by omega) P.symm)).symm
        rw [this,m]))
      rw [m] at l a1 a7;clear D F B t hhas q M m J;generalize i:a[b]=u at *;obtain ⟨j,x,v⟩:=u;simp only at Q R S k H Y l o A a1;clear i;go_wp2_with (first
       |(at_mapUpdate;refine wpList_mapUpdate_own _ rfl _ _ _ 90 rfl 9 92 (Maps.string_keyed zo) zk wK w.heap.size b n rfl ((s.alloc _).alloc _) (by unfold maxLen;omega) _ _ (.string j.data.toList) rfl rfl (aD A) (qP (j,x,v)) [] rfl ?_)
       |go_in)
      intro c2 L I;have U:=aA L;have T:=aA (((C.o.alloc N (.cells #[.string j,.bool x,.int .i64 v] 92)).alloc (by simp;omega) _).grown I (by simp;omega) (λc4 a0=>by simp at a0;omega));clear L I s l;go_wp2;go_roundw;case rel=>exact ⟨b+1,_,by omega,by go_num,U.o,o.o.2,o.o.1,T.o⟩
      case measure=>simp [intOf];omega
     ·have a7:wL a[c] a[b]=false:=by simp [wL,m]
      have G:=aA (F.o c e g J m);clear D F B t hhas q M J m A;generalize a[c]=y at *;generalize i:a[b]=u at *;obtain ⟨j,x,v⟩:=u;obtain ⟨d2,d3,d0⟩:=y;simp only at Q R S k H Y l a1;clear i;go_wp2;go_ret;exact ⟨_,rfl,G.o,(C.o.alloc N _).alloc (by simp;omega) _⟩
  ·have b7:b=a.length:=by omega
   subst b7;have G:=aA (aVq z.o);clear W X s p;go_wp2;go_ret;exact ⟨_,rfl,Or.inl ⟨rfl,G.o⟩,C.o⟩
section
variable {F:Fence}{n:Nat}{P:Program}{md:Region.Mode}{Q:Exit->Act->World->Prop}{l1 l2:List Oper}{C:World->Prop}{Q1:Act->Prop}
def yM(md:Region.Mode)(b:List Oper):Nat->Nat->Nat->Bool
 |0,_,_=>false
 |f+1,j,i=>match b[j]? with
  |none=>false
  |some o=>o.after.any λa=>zm md a && (a.on==i || yM md b f a.on i)
def tD(md:Region.Mode)(l1 l2:List Oper):Bool:=
 ((za l1.length).all λb=>match l1[b]? with
  |none=>true
  |some o=>(o.after.all λa=>!zm md a || decide (a.on<b)) && (match o.guard with|none=>true|some g=>decide (g.1<l1.length))) &&
 ((za l2.length).all λd=>(za l1.length).all λc=>yM md (l1++l2) (l1.length+l2.length) (l1.length+d) c)
theorem aDz(f:tD md l1 l2=true){d:Nat}{e:Oper}(g:l1[d]?=some e):(∀b∈e.after,zm md b=true->b.on<d)/\∀c,e.guard=some c->c.1<l1.length:=by
 have l:=(List.getElem?_eq_some_iff.1 g).1;simp only [tD,zs,zj,List.mem_range] at f;have:=f.1 d l;rw [g] at this;simp only [zs] at this;refine ⟨λb j i=>?_,λc k=>?_⟩
 ·have a:=this.1;rw [Array.all_eq_true_iff_forall_mem] at a;have:=a b j;simpa [i] using this
 ·have a:=this.2;rw [k] at a;simpa using a
theorem aVw(c:tD md l1 l2=true){a b:Nat}(e:l1.length<=a)(f:a<l1.length+l2.length)(d:b<l1.length):yM md (l1++l2) (l1.length+l2.length) a b=true:=by simp only [tD,zs,zj,List.mem_range] at c;have:=c.2 (a-l1.length) (by omega) b d;rwa [show l1.length+(a-l1.length)=a by omega] at this
def aKs(md:Region.Mode)(e:List Oper)(a:Array Bool):Prop:=∀c d,e[c]?=some d->a.getD c false=true->∀b∈d.after,zm md b=true->a.getD b.on false=true
theorem aKt{e:List Oper}{g:Array Bool}(i:aKs md e g):∀(f c b:Nat),yM md e f c b=true->(∀d,e[c]?=some d->∀a∈d.after,zm md a=true->g.getD a.on false=true)->g.getD b false=true
 |0,_,_,h,_=>by cases h
 |f+1,c,b,h,hd=>by
  unfold yM at h;cases ho:e[c]? with
  |none=>rw [ho] at h;cases h
  |some d=>
   rw [ho] at h;simp only [Array.any_eq_true',zs,Bool.or_eq_true,beq_iff_eq] at h;obtain ⟨a,l,k,hr⟩:=h;have j:=hd d ho a l k;rcases hr with rfl|hr
   ·exact j
   ·exact aKt i f a.on b hr (λo m=>i a.on o m j)
structure rP(md:Region.Mode)(l1 l2:List Oper)(L' L:Array Bool):Prop where
 s1:L'.size=l1.length
 s2:L.size=l1.length+l2.length
 same:∀j (h1:j<L'.size) (h2:j<L.size),L[j]=L'[j]
 rest:∀j (h:j<L.size),l1.length<=j->L[j]=false
 closed:aKs md (l1++l2) L
theorem wM{a:Array Bool}{b:Nat}(d:b<a.size)(c:Bool):a.getD b c=a[b]:=by simp [d]
theorem rP.get{d c:Array Bool}(b:rP md l1 l2 d c){a:Nat}(f:a<l1.length)(e:Bool):c.getD a e=d.getD a e:=by rw [wM (by rw [b.s2];omega),wM (by rw [b.s1];omega)];exact b.same a _ _
theorem aE0{a:Nat}(b:a<l1.length):(l1++l2)[a]?=l1[a]?:=List.getElem?_append_left b
theorem aKu{e:Array Oper}:∀(f:Nat) (c:Array Bool) (a:Act) (w:World),wpAnyIn F n P md e Q f c a w->wpAnyIn F n P md e Q (f+1) c a w
 |0,_,_,_,h=>⟨λ_=>h.2,λd b=>by rw [h.1] at b;cases b⟩
 |f+1,_,_,_,h=>⟨h.1,λd b=>wpOpIn_mono (λa w g=>aKu f _ a w g) (h.2 d b)⟩
theorem aKv{e:Array Oper}{c:Nat}{a:Array Bool}{b:Act}{w:World}(d:wpAnyIn F n P md e Q c a b w):∀k,wpAnyIn F n P md e Q (k+c) a b w
 |0=>by rw [Nat.zero_add];exact d
 |k+1=>by rw [zg];exact aKu _ _ _ _ (aKv d k)
theorem aVx(c:tD md l1 l2=true){i:Nat}{a:Oper}(f:l1[i]?=some a)(b:Array Value):zh a (yielded (l1++l2).toArray b)=zh a (yielded l1.toArray b):=by
 have d:=(aDz c f).2;unfold zh;cases hq:a.guard with
 |none=>rfl
 |some g=>
  obtain ⟨j,k⟩:=g;have e:j<l1.length:=d _ hq;simp only [yielded,zy,aE0 (l2:=l2) e]
theorem rP.set{e a:Array Bool}(b:rP md l1 l2 e a){d:Nat}(y:d<l1.length)(v:d∈zv md (l1++l2).toArray a):rP md l1 l2 (e.setIfInBounds d true) (a.setIfInBounds d true):=by
 refine ⟨by simpa using b.s1,by simpa using b.s2,λj k l=>?_,λj c u=>?_,λj x p c g o m=>?_⟩
 ·have q:j<e.size:=by simpa using k
  have r:j<a.size:=by simpa using l
  rw [zu (by simpa using l),zu (by simpa using k)];split
  ·rfl
  ·exact b.same j q r
 ·have t:j<a.size:=by simpa using c
  rw [zu (by simpa using c),aH (by omega)];exact b.rest j t u
 ·refine getD_set_true ?_;by_cases i:d=j
  ·subst i;obtain ⟨_,z,f,s⟩:=mem_ready.1 v;simp only [zy] at f;rw [p] at f;cases f;exact s g o m
  ·rw [getD_set_ne false i] at c;exact b.closed j x p c g o m
theorem aVy{c:Oper}{b:Act}{K:Act->Prop}{j:Act->World->Prop}{k:Exit->Act->World->Prop}(t:c.semAt F.round b.eval=execOp b.eval c)(e:C w)(g:∀b d,C d->K b->j b d)
  (m:c.askedIn F P b C) (s:c.quietIn F n P b C K):c.wpIn F n P b w j k:=by
 obtain ⟨y,l,i⟩:=s;have a:=l w e;unfold Oper.quietAtIn at a;refine ⟨m w e,?_⟩;rw [t];revert a;generalize (execOp b.eval c).run P w=r;intro a;match r,a with
 | .ok (.value u) d,a=>
  obtain ⟨rfl,rfl⟩:=a;exact g _ _ e i
 | .ok .skip d,a=>
  obtain ⟨rfl,rfl⟩:=a;exact g _ _ e i
 | .ok (.enter f args) d,a=>
  obtain ⟨rfl,p,o⟩:=a;exact ⟨p,o.mono λx z q=>by
   obtain ⟨rfl,v⟩:=q;exact g _ _ v i⟩
theorem aVz(X:∀r∈l1,∀M,r.semAt F.round M=execOp M r)(t:tD md l1 l2=true)
  (E:∀g w,C w->Q1 g->wpAnyIn F n P md (l1++l2).toArray Q l2.length ((zz l1.length true++zz l2.length false).toArray) g w):∀(p:Nat) (a c:Array Bool) (g:Act) (w:World),rP md l1 l2 a c->C w->wpAnyQIn F n P md l1.toArray C Q1 p a g->wpAnyIn F n P md (l1++l2).toArray Q (p+l2.length) c g w:=by
 have S:∀(a c:Array Bool),rP md l1 l2 a c->zv md l1.toArray a=[]->∀d,d<l1.length->a.getD d true=true:=by
  intro a c b i d;induction d using Nat.strongRecOn with
  |_ d ih=>
   intro o;cases hx:a.getD d true with
   |true=>rfl
   |false=>
    have:d∈zv md l1.toArray a:=by refine mem_ready.2 ⟨hx,l1[d],by simp [o],λs v u=>?_⟩;have W:=(aDz t (zr o)).1 s v u;have:=ih s.on W (by omega);rw [wM (by rw [b.s1];omega)] at this ⊢;exact this
    rw [i] at this;cases this
 have I:∀(a c:Array Bool),rP md l1 l2 a c->zv md l1.toArray a=[]->c=(zz l1.length true++zz l2.length false).toArray:=by
  intro a c b i;refine Array.ext (by simp [b.s2]) (λd D _=>?_);by_cases o:d<l1.length
  ·have:=S a c b i d o;rw [wM (by rw [b.s1];omega)] at this;rw [b.same d (by rw [b.s1];omega) D,this];simp [o]
  ·rw [b.rest d D (by omega)];simp [List.getElem_append,o]
 have L:∀(a c:Array Bool),rP md l1 l2 a c->∀f,f<l1.length->(f∈zv md (l1++l2).toArray c↔f∈zv md l1.toArray a):=by intro a c b f l;rw [mem_ready,mem_ready,b.get l true];simp only [zy,aE0 (l2:=l2) l];refine and_congr Iff.rfl (exists_congr λr=>and_congr_right λj=>forall_congr' λs=>forall_congr' λv=>forall_congr' λu=>?_);rw [b.get (by have:=(aDz t j).1 s v u;omega) false]
 intro p;induction p with
 |zero=>
  intro a c g w b k q;rw [Nat.zero_add,I a c b q.1];exact E g w k q.2
 |succ p ih=>
  intro a c g w b k q;by_cases i:zv md l1.toArray a=[]
  ·rw [I a c b i];exact aKv (E g w k (q.1 i)) _
  ·obtain ⟨B,x⟩:=List.exists_mem_of_ne_nil _ i;have y:B<l1.length:=by
    obtain ⟨_,r,j,_⟩:=mem_ready.1 x;simpa using (zt.1 j).1
   rw [zg];refine ⟨λO=>?_,λf l=>?_⟩
   ·have:=(L a c b B y).2 x;rw [O] at this;cases this
   ·by_cases m:f<l1.length
    ·have U:=(L a c b f m).1 l;have e:=q.2 f U;have G:=b.set m l;unfold qOpIn at e;unfold wpOpIn;simp only [zy,aE0 (l2:=l2) m] at e ⊢;rw [zr m] at e ⊢;simp only at e ⊢;rw [aVx t (zr m)];obtain ⟨H,e⟩:=e;split
     ·rename_i A;simp only [A,if_true] at e;exact aVy (X _ (List.getElem_mem m) _) k (λN Y R hK=>ih _ _ N Y G R hK) H e
     ·rename_i A;simp only [A] at e;exact ⟨H w k,ih _ _ _ w G k e⟩
    ·exfalso;obtain ⟨_,r,j,T⟩:=mem_ready.1 l;have V:f<l1.length+l2.length:=by simpa using (zt.1 j).1
     have:=aKt b.closed _ f B (aVw t (by omega) V y) (λZ J=>by
      simp only [zy] at j;rw [j] at J;cases J;exact T)
     rw [b.get y false] at this;have z:=(mem_ready.1 x).1;rw [wM (by rw [b.s1];omega)] at this z;rw [this] at z;cases z
theorem aW0(a b:Nat):(zn a false).getD b false=false:=by unfold Array.getD;split<;>simp
theorem aE1{s:Nat}{b:Act}{g:Array Oper}(l1 l2:List Oper)(p:g=(l1++l2).toArray)(r:∀d∈l1,∀i,d.semAt F.round i=execOp i d)(o:P.follows .mixedOrders=true)(m:tD .any l1 l2=true)(c:zc .any l1.toArray=true)
  (j:wpQuietIn F n P l1.toArray (λa=>∃n,a=w.drewN n) (λe=>∀a,(∃n,a=w.drewN n)->wpAnyIn F n P .any (l1++l2).toArray Q l2.length ((zz l1.length true++zz l2.length false).toArray) e a) l1 b):(Code.region s g true).wpIn F n P Q b w:=by
 subst p;refine wpIn_region_any o ?_;simp only [zc,zs] at c;have q:=wpAnyQIn_lex (F:=F) (n:=n) (P:=P) (C:=λa=>∃n,a=w.drewN n) (md:=.any) c.1 l1 0 (zn l1.toArray.size false) b (by simp) (by simpa using c.2) j;have:=aVz (l2:=l2) r m (λe a k l=>l a k) l1.length (zn l1.toArray.size false) (zn (l1++l2).toArray.size false) b (w.drewN 1) ⟨by simp,by simp,by simp,by simp,λt d _ f=>by rw [aW0] at f;cases f⟩ ⟨1,rfl⟩ q;simp only [List.size_toArray,zw] at this ⊢;exact this
theorem aKw(c:F.round=none):∀a∈l1,∀b,a.semAt F.round b=execOp b a:=λa _ b=>by rw [c,Oper.semAt_none]
def aKx(a:List Oper):Bool:=a.all λb=>match b.op with | .defer _=>false|_=>true
theorem aW1(c:aKx l1=true):∀a∈l1,∀b,a.semAt F.round b=execOp b a:=λa e b=>Oper.semAt_eq _ _ _ (λf d=>by
 have:=zj.1 c a e;rw [d] at this;cases this)
theorem yN{t:Nat}{b:Act}{k:Array Oper}(l1:List Oper)(i:k=l1.toArray)(s:aKx l1=true)(q:P.follows .mixedOrders=true)(m:tD .any l1 []=true)(l:zc .any l1.toArray=true)
  (c:wpQuietIn F n P l1.toArray (λa=>∃n,a=w.drewN n) (λd=>∀a,(∃n,a=w.drewN n)->Q .normal d a) l1 b):(Code.region t k true).wpIn F n P Q b w:=by
 refine aE1 l1 [] (by rw [i,List.append_nil]) (aW1 s) q m l ?_;have r:zv .any (l1++[]).toArray ((zz l1.length true++zz ([]:List Oper).length false).toArray)=[]:=by
  refine List.eq_nil_iff_forall_not_mem.2 (λu o=>?_);obtain ⟨j,x,i,_⟩:=mem_ready.1 o;have p:u<l1.length:=by simpa using (zt.1 i).1
  rw [wM (by simpa using p)] at j;simp at j
 have v:∀(f:List Oper) (b:Act),wpQuietIn F n P l1.toArray (λa=>∃n,a=w.drewN n) (λd=>∀a,(∃n,a=w.drewN n)->Q .normal d a) f b->wpQuietIn F n P l1.toArray (λa=>∃n,a=w.drewN n) (λd=>∀a,(∃n,a=w.drewN n)->wpAnyIn F n P .any (l1++[]).toArray Q ([]:List Oper).length ((zz l1.length true++zz ([]:List Oper).length false).toArray) d a) f b:=by
  intro f;induction f with
  |nil=>exact λb c a e=>wpAnyIn_done r (c a e) _
  |cons x f ih=>
   intro b c;refine ⟨c.1,?_⟩;have g:=c.2;split at g
   ·rename_i e;rw [aI e];exact Oper.quietIn_mono ih g
   ·rename_i e;rw [aH e];exact ih _ g
 exact v l1 b c
end
