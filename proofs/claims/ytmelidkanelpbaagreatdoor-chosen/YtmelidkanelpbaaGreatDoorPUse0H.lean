import Derived.Test.YtmelidkanelpbaaGreatDoorRPrim0H
import Derived.Test.YtmelidkanelpbaaGreatDoorPCl0H
import Derived.Test.YtmelidkanelpbaaGreatDoorONum0H
import Derived.StringKeys
open List renaming length_append→zy,take_succ_eq_append_getElem→zx,take_of_length_le→zu
open Nat renaming zero_le→zt,le_refl→zs
namespace Go.Proofs.YtmelidkanelpbaaGreatDoor
open _root_.Go.Proofs.Tryz renaming prog→zz,underlying9→zw,underlying90→zv
open Go.RowKit Go.Shelf Go.WideMaps
set_option maxHeartbeats 2000000
set_option maxRecDepth 100000
abbrev Us:=ByteArray×Bool×Int
def lY(b:Nat)(a:Nd):List Us:=if aL a then [] else [(a.1,decide (b=0),a.2)]
def kB(a:List Nd):Nat->List Us
 |0=>[]
 |k+1=>kB a k++((a[k]?).map (lY k)).getD []
def nV(a:List Lt):Nat->List Us
 |0=>[]
 |k+1=>nV a k++((a[k]?).map λb=>kB b.2 b.2.length).getD []
def pU(a:List Lt):List Us:=nV a a.length
theorem aL0(b:List Nd)(a:Nat)(c:a<b.length):kB b (a+1)=kB b a++lY a b[a]:=by simp [kB,c]
theorem aEe(a:List Lt)(b:Nat)(c:b<a.length):nV a (b+1)=nV a b++kB a[b].2 a[b].2.length:=by simp [nV,c]
theorem aL1(b:List Nd)(a:Nat):(kB b a).length<=a:=by
 induction a with
 |zero=>simp [kB]
 |succ a ih=>
  simp only [kB,zy];have:(((b[a]?).map (lY a)).getD []).length<=1:=by
   cases b[a]? with
   |none=>simp
   |some n=>simp [lY];split<;>simp
  omega
theorem aXr(b:List Lt)(a:Nat):(nV b a).length<=aR (b.take a):=by
 induction a with
 |zero=>simp [nV]
 |succ a ih=>
  by_cases c:a<b.length
  ·rw [aEe b a c,zx c,rH,zy];have:=aL1 b[a].2 b[a].2.length;omega
  ·have d:b[a]?=none:=List.getElem?_eq_none (by omega);have e:b.take (a+1)=b.take a:=by rw [zu (by omega),zu (by omega)]
   simp only [nV,d,e];simpa using ih
def wP(a:List Us):Prop:=∀b (d:b<a.length),a[b].2.2<=5/\∀c (e:c<b),(a[c]'(by omega)).1=a[b].1->(a[c]'(by omega)).2=a[b].2
theorem aXs(a:Nat):((a:Int)==0)=decide (a=0):=by rw [Bool.eq_iff_iff];simp
def jO(a:Pl):Us:=(a.1,a.2.1,a.2.2.1)
def gH(b:List Us):List Value:=b.flatMap λa=>[.string a.1,.bool a.2.1,.int .i64 a.2.2]
theorem aXt(b:List Us)(a:Us):gH (b++[a])=gH b++[.string a.1,.bool a.2.1,.int .i64 a.2.2]:=by simp [gH]
theorem aEf(b:List Us):∀a (c:a<b.length),(gH b)[a*3]?=some (.string b[a].1)/\(gH b)[a*3+1]?=some (.bool b[a].2.1)/\(gH b)[a*3+2]?=some (.int .i64 b[a].2.2):=by
 induction b with
 |nil=>intro a c;simp at c
 |cons x r ih=>
  intro a c;cases a with
  |zero=>simp [gH]
  |succ a=>
   have:=ih a (by simpa using c);have d:(a+1)*3=a*3+3:=by omega
   rw [d];simp only [gH,List.flatMap_cons,List.cons_append,List.nil_append,List.getElem_cons_succ] at this ⊢;have e:a*3+3+1=a*3+1+3:=by omega
   have f:a*3+3+2=a*3+2+3:=by omega
   rw [e,f];simp only [List.getElem?_cons_succ];exact this
structure aL2(w:World)(a:Option Addr)(U:List Us):Prop where
 few:U.length<=1000000
 short:∀k (h:k<U.length),U[k].1.size<=140737488355328
 cell:∀k (h:k<U.length),∃b,a=some ⟨b,0,none⟩/\w.cell? ⟨b,k*3,none⟩=some (.string U[k].1)/\w.cell? ⟨b,k*3+1,none⟩=some (.bool U[k].2.1)/\w.cell? ⟨b,k*3+2,none⟩=some (.int .i64 U[k].2.2)
theorem aXu{g:World}{i:Nat}{n:Value}{a:List Us}(k:g.ownsRow i 92 3 n a.length (gH a))(l:a.length<=1000000)(m:∀b (k:b<a.length),a[b].1.size<=140737488355328):∃j c,n=.slice j a.length c/\aL2 g j a:=by
 obtain ⟨p,⟨rfl,q⟩|⟨e,c,o,rfl,r,t,s,u,w,v⟩⟩:=k
 ·exact ⟨none,0,by rw [q],l,m,λb d=>by omega⟩
 ·have f:g.ownsRow i 92 3 (.slice (some ⟨e,0,none⟩) a.length c) a.length (gH a):=⟨p,Or.inr ⟨e,c,o,rfl,r,t,s,u,w,v⟩⟩;refine ⟨_,_,rfl,l,m,λb d=>⟨e,rfl,?_,?_,?_⟩⟩
  ·rw [f.cellAt (b*3) (by omega),(aEf a b d).1]
  ·rw [f.cellAt (b*3+1) (by omega),(aEf a b d).2.1]
  ·rw [f.cellAt (b*3+2) (by omega),(aEf a b d).2.2]
theorem aL3:(zz.info? 92).map (λa=>(a.zero,a.size,a.bytes))=some (some (.agg #[.string ⟨#[]⟩,.bool false,.int .i64 0]),3,32):=by kernel_rfl
theorem aXv{b d c:World}{f g:Value}{a:List Us}{x:Us}(k:d.ownsRow b.heap.size 92 3 f a.length (gH a))(e:aB b d)
  (l:c.ownsRow b.heap.size 92 3 g (a.length+1) (gH a++[.string x.1,.bool x.2.1,.int .i64 x.2.2])) (j:d.grownBy c f.ownBlock):c.ownsRow b.heap.size 92 3 g (a++[x]).length (gH (a++[x]))/\aB b c:=by
 refine ⟨?_,e.grown j e.size λm i=>(cU k m i).1⟩;rw [aXt,zy];exact l
theorem aXw(f:World)(d e x:Value)(i:TypeId)(c:Nat)(g:c=f.heap.size):∀j b,[d,e,x][j]?=some b->(f.alloc (.cells #[d,e,x] i)).cell? ((⟨c,0,none⟩ : Addr).add j)=some b:=by
 subst g;intro j b a;match j,a with
 |0,a=>simp at a;subst a;simp [Addr.add]
 |1,a=>simp at a;subst a;simp [Addr.add]
 |2,a=>simp at a;subst a;simp [Addr.add]
 |j+3,a=>simp at a
theorem aXx(d:ByteArray)(c:Bool)(x:Int):∀b∈[Value.string d,Value.bool c,Value.int .i64 x],b.oneCell'=true:=by intro b a;simp at a;rcases a with rfl|rfl|rfl<;>rfl
theorem aXy(H:Option Addr)(a3:Nat)(b:List Lt)(f:World)(w:cH f H b)(c8:aR b<=100000):Calls zz 41 #[.slice H b.length a3] f λv U=>∃T,v=.returned T/\U.ownsRow f.heap.size 92 3 T (pU b).length (gH (pU b))/\aB f U:=by
 obtain ⟨b3,a6,a7,a8,a9⟩:=info_parts aL3;have c9:=w.few;have a0:=aA w;clear w;go_enter Tryz.func41,Tryz.ntmps41;go_wp2;go_loopw [3,10] (λD B wr=>∃c:Nat,c<=b.length/\B=.int .i64 c/\wr.ownsRow f.heap.size 92 3 D (nV b c).length (gH (nV b c))/\aB f wr) (λ_ B _=>b.length-(intOf B).toNat);case atStart=>exact ⟨0,zt _,rfl,World.ownsRow_nil _ _ _ _,Below.refl _ _⟩
 case round=>
  obtain ⟨c,d0,rfl,y,m⟩:=hrel;by_cases x:c<b.length
  ·obtain ⟨c6,d7,b9,c0,rfl,I,L,s⟩:=a0.o.cell c x;have a4:=aC m I;have a5:=aC m L;have e:=aEe b c x;have d4:=aXr b c;have P:=xV b (c+1);rw [zx x,rH] at P;generalize b[c]=z at *;obtain ⟨e0,d⟩:=z;simp only at a4 a5 s e P;generalize nV b c=U0 at *;have F:=aA e;have Z:=aA s;have d5:=s.few;have b0:=m.size;clear I L s e;go_wp2;go_loopw [3,17] (λD C X=>∃a:Nat,a<=d.length/\C=.int .i64 a/\X.ownsRow f.heap.size 92 3 D (U0++kB d a).length (gH (U0++kB d a))/\aB f X) (λ_ C _=>d.length-(intOf C).toNat);case atStart=>exact ⟨0,zt _,rfl,by simpa [kB] using y.alloc _,m.alloc b0 _⟩
   case round=>
    obtain ⟨a,d2,rfl,n,j⟩:=hrel;by_cases R:a<d.length
    ·obtain ⟨c7,d6,rfl,J,M⟩:=Z.o.cell a R;have b4:=aC j J;have b5:=aC j M;have k:=aL0 d a R;have d3:=aL1 d a;generalize d[a]=nd at *;obtain ⟨g,l⟩:=nd;simp only at b4 b5;have p:=aA (λb8=>pT g l b8);have O:=j.size;have r:=aA j;clear J M j;cases hv:g.toList.isEmpty
     ·have e:lY a (g,l)=[(g,((a:Int)==0),l)]:=by simp [lY,aL,hv,aXs]
      rw [e] at k;rw [hv] at p;have u:=aA k;have d1:(U0++kB d a).length<=200000:=by rw [zy];omega
      have a2:aM (U0++kB d (a+1)=(U0++kB d a)++[(g,((a:Int)==0),l)]):=aA (by rw [k,List.append_assoc]);clear k u;generalize U0++kB d a=V at *;clear e hv;go_wp2_with (first
       |(go_at_call 67;refine (aD p _).mono ?_;rintro v W ⟨rfl,i⟩;obtain ⟨b6,b7,o⟩:=jC i;have A:=bG (n.alloc _) i (zs _);have q:=aA (r.o.trans (o.mono O));have N:=q.o.size;clear i o)
       |(at_builtin;refine wpList_append_own _ rfl (.tmp 25) (.tmp 33) 67 rfl f.heap.size 92 b3 (.agg #[.string ⟨#[]⟩,.bool false,.int .i64 0]) 3 32 Tryz.underlying67 a6 a7 a8 a9 rfl (by decide) _ _ _ rfl (A.alloc _) ⟨W.heap.size,0,none⟩ 1 1 [.string g,.bool ((a:Int)==0),.int .i64 l] rfl rfl ?c1 ?c2 ?c3 ?c4 ?c5 ?_)
       |go_in)
      case c1=>exact aXw _ _ _ _ _ _ (by simp)
      case c2=>first|exact aXx _ _ _|exact ⟨rfl,rfl,rfl⟩
      case c3=>unfold maxLen;omega
      case c4=>omega
      case c5=>exact Nat.le_trans N (World.grownBy_alloc _ _ none).size
      intro d8 d9 S Q _;have G:=aXv (x:=(g,((a:Int)==0),l)) (A.alloc _) (q.o.alloc N _) S Q;have E:=aA G;clear S Q A G;go_wp2;go_roundw;case rel=>exact ⟨a+1,by omega,by go_num,by rw [a2.o];exact E.o.1,E.o.2⟩
      case measure=>simp [intOf];omega
     ·have e:lY a (g,l)=[]:=by simp [lY,aL,hv]
      rw [e,List.append_nil] at k;rw [hv] at p;have u:=aA k;have t:=aA n;clear k e hv n;go_wp2_with (first
       |(go_at_call 67;refine (aD p _).mono ?_;rintro v W ⟨rfl,i⟩;obtain ⟨b6,b7,o⟩:=jC i;have a1:=aA (bG (t.o.alloc _) i (zs _));have q:=aA (r.o.trans (o.mono O));clear i o)
       |go_in)
      go_roundw;case rel=>exact ⟨a+1,by omega,by go_num,by rw [u.o];exact a1.o,q.o⟩
      case measure=>simp [intOf];omega
    ·have b2:a=d.length:=by omega
     subst b2;rw [<-F.o] at n;have t:=aA n;have r:=aA j;clear n j F;go_wp2;go_roundw;case rel=>exact ⟨c+1,by omega,by go_num,t.o,r.o⟩
     case measure=>simp [intOf];omega
  ·have b1:c=b.length:=by omega
   subst b1;have Y:=aA (And.intro y m);clear y m;go_wp2;go_ret;exact ⟨_,rfl,Y.o⟩
def wQ(a:Value):Option (DataW Unit×List MemPlace):=
 match a with
 | .agg cs=>match cs.toList with
  |[.string s,.bool b,.int .i64 n]=>some (.agg [.lit (.string s.data.toList),.lit (.bool b),.lit (.int .i64 n)],[])
  |_=>none
 |_=>none
def qR(a:Us):DataW Unit:=.agg [.lit (.string a.1.data.toList),.lit (.bool a.2.1),.lit (.int .i64 a.2.2)]
theorem bF9(a:Us):wQ (.agg #[.string a.1,.bool a.2.1,.int .i64 a.2.2])=some (qR a,[]):=rfl
theorem aL4{e:Value}{c:Us}{j:List MemPlace}(a:wQ e=some (qR c,j)):e=.agg #[.string c.1,.bool c.2.1,.int .i64 c.2.2]:=by
 unfold wQ at a;split at a
 ·next cs=>
  split at a
  ·next s b n hcs=>
   have i:cs=#[.string s,.bool b,.int .i64 n]:=by have:=congrArg List.toArray hcs;simpa using this
   subst i;simp only [qR,Option.some.injEq,Prod.mk.injEq,DataW.agg.injEq,List.cons.injEq,DataW.lit.injEq,Lit.string.injEq,Lit.bool.injEq,Lit.int.injEq,and_true,true_and] at a;obtain ⟨⟨d,f,g⟩,_⟩:=a;have:s=c.1:=by obtain ⟨⟨k⟩⟩:=s;obtain ⟨⟨⟨l⟩⟩,m⟩:=c;simp at d;rw [d]
   rw [this,f,g]
  ·simp at a
 ·simp at a
structure yM(D:DataW Unit)(U:List Us)(k:Nat):Prop where
 isMap:Maps.IsMap D
 old:∀j (h:j<U.length),j<k->Maps.has D (.string U[j].1.data.toList)=true/\∀z,D.atKey (.string U[j].1.data.toList) z=qR U[j]
 new:∀s:ByteArray,(∀j (h:j<U.length),j<k->U[j].1≠s)->Maps.has D (.string s.data.toList)=false
theorem aL5{a b:ByteArray}(c:a.data.toList=b.data.toList):a=b:=by obtain ⟨⟨d⟩⟩:=a;obtain ⟨⟨e⟩⟩:=b;simp at c;rw [c]
theorem aXz(a:List Us):yM (.map []) a 0:=⟨Maps.isMap_empty,λc _ b=>by omega,λd _=>rfl⟩
theorem aY0{k:DataW Unit}{a:List Us}{b:Nat}(d:yM k a b)(r:b<a.length)(s:∀c (e:c<a.length),c<b->a[c].1=a[b].1->a[c]=a[b]):yM (k.put (.string a[b].1.data.toList) (qR a[b])) a (b+1):=by
 have l:WideAt.IsKeyLit (.string a[b].1.data.toList):=trivial;refine ⟨d.isMap.put _ _,λc e q=>?_,λo n=>?_⟩
 ·by_cases i:a[c].1=a[b].1
  ·have t:a[c]=a[b]:=by
    by_cases j:c=b
    ·subst j;rfl
    ·exact s c e (by omega) i
   rw [t];exact ⟨Maps.has_put_same d.isMap l _,λp=>Maps.atKey_put_same d.isMap l _ _⟩
  ·have f:(Lit.string a[c].1.data.toList)≠.string a[b].1.data.toList:=λg=>i (aL5 (by simpa using g))
   have j:c<b:=by
    rcases Nat.lt_or_ge c b with h1|h1
    ·exact h1
    ·have:c=b:=by omega
     subst this;exact absurd rfl i
   have m:=d.old c e j;exact ⟨by rw [Maps.has_put_other f];exact m.1,λp=>by rw [Maps.atKey_put_other f];exact m.2 p⟩
 ·have f:(Lit.string o.data.toList)≠.string a[b].1.data.toList:=λg=>n b r (by omega) (aL5 (by simpa using g)).symm
  rw [Maps.has_put_other f];exact d.new o λc e q=>n c e (by omega)
def tH(a:List Us)(d:Nat):Prop:=∀b (e:b<a.length),b<d->a[b].2.2<=5/\∀c (f:c<b),(a[c]'(by omega)).1=a[b].1->(a[c]'(by omega)).2=a[b].2
theorem aY1{a:List Us}(c:tH a a.length):wP a:=λd b=>c d b b
theorem aY2:zz.stoodInHeld 92=false:=by kernel_rfl
theorem aY3:zz.eqGuardType zz.depth 92=false:=by kernel_rfl
theorem aY4:zz.underlying 92=some (.struct (zz.fieldsOf 92)):=by kernel_rfl
def wR(a b:Us):Bool:=decide (a=b)
theorem aY5(a b:Us)(c:World):(Op.equalIn 10000 92 (.agg #[.string a.1,.bool a.2.1,.int .i64 a.2.2]) (.agg #[.string b.1,.bool b.2.1,.int .i64 b.2.2])).run zz c=.ok (wR a b) c:=by rw [show (10000:Nat)=9999+1 from rfl,run_equalIn_agg c 9999 92 _ _ aY4 aY2];simp only [Program.fieldsOf,Tryz.underlying92];go_simp;obtain ⟨l,d,k⟩:=a;obtain ⟨m,e,j⟩:=b;simp only [wR,zY];by_cases f:l=m<;>by_cases g:d=e<;>by_cases i:k=j<;>simp [f,g,i]
def tI(a:List Us)(c:Int):Prop:=(c=-1/\wP a)\/∃b:Nat,b<a.length/\c=b/\tH a b/\¬tH a (b+1)
theorem tI.of{b:List Us}{a:Nat}(c:tH b a)(d:a<b.length)(e:¬tH b (a+1)):tI b a:=Or.inr ⟨a,d,rfl,c,e⟩
theorem aY6(a3:Option Addr)(b1:Nat)(a:List Us)(x:World)(V:aL2 x a3 a):Calls zz 25 #[.slice a3 a.length b1] x λb2 c1=>∃b0:Int,b2=.returned (.int .i64 b0)/\tI a b0/\aB x c1:=by
 have c7:=V.few;have a2:=aA V;have c9:=@run_makeMap zz;have c6:=aY3;clear V;go_enter Tryz.func25,Tryz.ntmps25;go_wp2;go_loopw [11] (λd wr=>∃(b:Nat) (n:DataW Unit),b<=a.length/\d=.int .i64 b/\wr.ownsMap zz 9 wQ x.heap.size b n/\yM n a b/\tH a b/\aB x wr) (λd _=>a.length-(intOf d).toNat);case atStart=>exact ⟨0,.map [],zt _,rfl,World.ownsMap_made _ _ _ _,aXz a,λd _ O=>by omega,(Below.refl _ _).alloc (zs _) _⟩
 case round=>
  obtain ⟨b,n,c8,rfl,s,W,X,p⟩:=hrel;have N:=p.size;have E:=aA W;have z:=aA X;have C:=aA p;by_cases r:b<a.length
  ·obtain ⟨c5,rfl,a4,a5,a6⟩:=a2.o.cell b r;have Q:=aC p a4;have R:=aC p a5;have S:=aC p a6;have Y:=a2.o.short b r;have D:aM (5<a[b].2.2->tI a b):=λk=>tI.of z.o r λi=>by have:=(i b r (by omega)).1;omega
   have F:aM (∀c (e:c<a.length),c<b->a[c].1=a[b].1->a[c]≠a[b]->tI a b):=λc e g f b9=>tI.of z.o r λi=>by
    have b3:=(i b r (by omega)).2 c g f;exact b9 (Prod.ext f b3)
   have B:aM (a[b].2.2<=5->(∀c (e:c<a.length),c<b->a[c].1=a[b].1->a[c]=a[b])->tH a (b+1)/\yM (n.put (.string a[b].1.data.toList) (qR a[b])) a (b+1)):=λk a9=>by
    refine ⟨λd O a8=>?_,aY0 E.o r a9⟩;by_cases b6:d=b
    ·subst b6;exact ⟨k,λc e f=>by rw [a9 c (by omega) e f]⟩
    ·exact z.o d O (by omega)
   have q:keyOf zz 9 (.string a[b].1)=some (.string a[b].1.data.toList):=keyOf_string_mk zw (by unfold maxLen;omega);clear a4 a5 a6 p W X;by_cases k:5<a[b].2.2
   ·have G:=aA (D.o k);clear D F B q s;generalize a[b]=u at *;obtain ⟨j,w,v⟩:=u;simp only at Q R S k;go_wp2;go_ret;exact ⟨_,rfl,G.o,C.o.alloc N _⟩
   ·have H:a[b].2.2<=5:=by omega
    have b4:=(s.alloc (.cells #[.string a[b].1,.bool a[b].2.1,.int .i64 a[b].2.2] 92)).look_ok (Maps.string_keyed zw) zv (Tryz.zeroValue92 _) (zd:=qR (⟨#[]⟩,false,0)) (zp:=[]) rfl q;obtain ⟨d4,d1,l,t⟩:=b4;cases hhas:Maps.has n (.string a[b].1.data.toList)
    ·rw [aAt E.o.isMap hhas] at t;have Z:=aL4 t;subst Z;rw [hhas] at l;have o:=aA (B.o H (λc e g f=>by
      have:=(E.o.old c e g).1;rw [f,hhas] at this;simp at this))
     have A:=aA q;clear D F B t hhas q;generalize i:a[b]=u at *;obtain ⟨j,w,v⟩:=u;simp only at Q R S k H Y l o A;clear i;go_wp2_with (first
      |(at_mapUpdate;refine wpList_mapUpdate_own _ rfl _ _ _ 90 rfl 9 92 (Maps.string_keyed zw) zv wQ x.heap.size b n rfl ((s.alloc _).alloc _) (by unfold maxLen;omega) _ _ (.string j.data.toList) rfl rfl (aD A) (qR (j,w,v)) [] rfl ?_)
      |go_in)
     intro c2 L I;have U:=aA L;have T:=aA (((C.o.alloc N (.cells #[.string j,.bool w,.int .i64 v] 92)).alloc (by simp;omega) _).grown I (by simp;omega) (λc4 a0=>by simp at a0;omega));clear L I s l;go_wp2;go_roundw;case rel=>exact ⟨b+1,_,by omega,by go_num,U.o,o.o.2,o.o.1,T.o⟩
     case measure=>simp [intOf];omega
    ·obtain ⟨c,e,g,J⟩ : ∃c,∃e:c<a.length,c<b/\a[c].1=a[b].1:=Classical.byContradiction λc0=>by
      have:=E.o.new a[b].1 (λc e g f=>c0 ⟨c,e,g,f⟩);rw [hhas] at this;simp at this
     have M:=(E.o.old c e g).2 (qR (⟨#[]⟩,false,0));rw [J] at M;rw [M] at t;have Z:=aL4 t;subst Z;rw [hhas] at l;have a1:=λc3=>aY5 a[c] a[b] c3
     have A:=aA q;by_cases m:a[c]=a[b]
     ·have a7:wR a[c] a[b]=true:=by simp [wR,m]
      have o:=aA (B.o H (λd O a8 f=>by
       by_cases b5:d=c
       ·subst b5;exact m
       ·have P:a[d].1=a[c].1:=f.trans J.symm;have:a[d]=a[c]:=by
         rcases Nat.lt_or_ge d c with b8|hge
         ·exact Prod.ext P ((z.o c e g).2 d b8 P)
         ·exact (Prod.ext P.symm ((z.o d O a8).2 c (by omega) P.symm)).symm
        rw [this,m]))
      rw [m] at l a1 a7;clear D F B t hhas q M m J;generalize i:a[b]=u at *;obtain ⟨j,w,v⟩:=u;simp only at Q R S k H Y l o A a1;clear i;go_wp2_with (first
       |(at_mapUpdate;refine wpList_mapUpdate_own _ rfl _ _ _ 90 rfl 9 92 (Maps.string_keyed zw) zv wQ x.heap.size b n rfl ((s.alloc _).alloc _) (by unfold maxLen;omega) _ _ (.string j.data.toList) rfl rfl (aD A) (qR (j,w,v)) [] rfl ?_)
       |go_in)
      intro c2 L I;have U:=aA L;have T:=aA (((C.o.alloc N (.cells #[.string j,.bool w,.int .i64 v] 92)).alloc (by simp;omega) _).grown I (by simp;omega) (λc4 a0=>by simp at a0;omega));clear L I s l;go_wp2;go_roundw;case rel=>exact ⟨b+1,_,by omega,by go_num,U.o,o.o.2,o.o.1,T.o⟩
      case measure=>simp [intOf];omega
     ·have a7:wR a[c] a[b]=false:=by simp [wR,m]
      have G:=aA (F.o c e g J m);clear D F B t hhas q M J m A;generalize a[c]=y at *;generalize i:a[b]=u at *;obtain ⟨j,w,v⟩:=u;obtain ⟨d2,d3,d0⟩:=y;simp only at Q R S k H Y l a1;clear i;go_wp2;go_ret;exact ⟨_,rfl,G.o,(C.o.alloc N _).alloc (by simp;omega) _⟩
  ·have b7:b=a.length:=by omega
   subst b7;have G:=aA (aY1 z.o);clear W X s p;go_wp2;go_ret;exact ⟨_,rfl,Or.inl ⟨rfl,G.o⟩,C.o⟩
