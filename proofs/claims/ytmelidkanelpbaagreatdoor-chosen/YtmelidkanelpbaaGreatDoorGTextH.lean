import Derived.Test.YtmelidkanelpbaaGreatDoorGPartsH
import Derived.Test.YtmelidkanelpbaaGreatDoorPUse0H
import Derived.Laws.AppendOwnNone
import Derived.Test.YtmelidkanelpbaaGreatDoorONumberH
import Derived.Deep.Slices
import Derived.Deep.SlicePairs
import Derived.ChangeArms
open List renaming take_succ_eq_append_getElem→zy,mem_append→zx,length_append→zw,append_assoc→zu,map_append→zt,map_singleton→zs,flatMap_singleton→zr,take_length→zp,flatMap_append→zo,getElem_map→zn,getD_eq_getElem?_getD→zm,flatMap_cons→zl,mem_cons→zk,cons_append→zj,getElem_mem→zi,mem_map→zg,nil_append→zf,length_nil→ze,length_singleton→zd,mem_cons_of_mem→zc,mem_cons_self→za,mem_filterMap→z0,getElem_range→z4,nodup_append→z6,getElem_take→z7,mem_flatMap→z8,length_cons→z9,length_take→yz
open Nat renaming le_refl→zz,add_assoc→zb,zero_le→yy
open Prod renaming fst→zv
namespace Go.Proofs.YtmelidkanelpbaaGreatDoor
open _root_.Go.Proofs.Tryz renaming prog→zq,underlying3→zh
set_option maxHeartbeats 4000000
set_option maxRecDepth 100000
variable{s:ByteArray}{brk:Int}{CV:List Pc}{L T:List Tk}{B:Nat}{vC:Value}{w:World}
section
open Go.RowKit Go.WideMaps
def aRw(B f:Nat)(w:World)(s:ByteArray)(T:List Tk)(d:Nat)(g:Except Nat (bE×List (Nat×List Lt)))(c:Ending)(b:World):Prop:=
 Below B w b/\
  match g with
  | .ok (s1,cs)=>∃vC a CV,c=.returned (.bool true)/\sT B b f s T s1 d vC a CV/\CV.map jK=cs
  | .error p=>∃e vC a i,c=.returned (.bool false)/\dH B b f s T e d vC a i/\(aJ T e).pos=p
structure TLq(B pb:Nat)(w:World)(s:ByteArray)(T:List Tk)(g:Nat)(r:Except Nat (bE×List (Nat×List Lt)))(k:Nat)(wr:World)(st:bE)(vC vP:Value)(CV:List Pc):Prop where
 t:sT B wr pb s T st g vC vP CV
 low:Below B w wr
 eq:r=iC T k st (CV.map jK)
 fuel:T.length<st.i+k
 pl:st.pz.length<=st.i
 few:CV.length<=st.i
theorem aRx{l:Nat}{q:Nat}{D:Value}{a:bE}(J:∀C,(aJ T C).kind∈gX)(Q:∀C,(aJ T C).txt.size<=1000000)(b0:s.size<=3000)(a5:T.length<=1000000)(H:∀a b x,kP T a=.ok (b,x)->a.i<T.length->a.i<b.i/\b.pz.length<=a.pz.length+(b.i-a.i))(G:sT B w l s T a q vC D CV)(a4:B<=w.heap.size)(k:a.pz.length<=a.i)(M:CV.length<=a.i):Calls zq 24 #[.pointer (some ⟨l,0,none⟩)] w λg b3=>aRw B l w s T q (iC T (T.length+1) a (CV.map jK)) g b3:=by
 have u:aM (TLq B l w s T q (iC T (T.length+1) a (CV.map jK)) (T.length+1) w a vC D CV):=aA ⟨G,Below.refl _ _,rfl,by omega,k,M⟩;obtain ⟨d,z⟩ : ∃d,iC T (T.length+1) a (CV.map jK)=d:=⟨_,rfl⟩;rw [z] at u;simp only [z];have E:=aA J;have a3:=aA Q;have Y:=aA H;clear G z J Q k M H;go_enter Tryz.func24,Tryz.ntmps24;go_wp2;go_loopg [] (T.length+1) (λb2 wr=>∃b U W n,TLq B l w s T q d b2 wr b U W n);case atStart=>exact ⟨a,vC,D,CV,u.o⟩
 case round=>
  clear u;obtain ⟨b,U,W,n,c⟩:=hrel;obtain ⟨c0,r⟩:=c.t.pp;have a7:=r.lt;obtain ⟨left,A,b6⟩:=r.box;have b7:=c.fuel;have a9:=c.pl;have a6:=c.few;have b1:=c.low.size;have F:=A.c1;obtain ⟨t,rfl⟩ : ∃t,gk=t+1:=⟨gk-1,by omega⟩;by_cases i:(aJ T b.i).kind=101
  ·rw [i,show dN 101=-1 from rfl] at F;have f:aM (d=.ok (b,n.map jK)):=aA (by rw [c.eq,iC,aH i]);have e:=aA c;clear c A r;go_wp2_with fail;go_ret;refine ⟨e.o.low,?_⟩;rw [f.o];exact ⟨_,_,_,rfl,e.o.t,rfl⟩
  ·have a8:(dN (aJ T b.i).kind != -1)=true:=by
    simp only [bne_iff_ne];intro g;exact i (aD1 _ (E.o b.i) 101 (by decide) (by rw [g];rfl))
   have m:=aA (aRa E.o a3.o b0 a5 c.t (Nat.le_trans a4 b1) a9 a6);have o:=aA c.eq;have e:=aA c;clear c A r;obtain ⟨R,N⟩ : ∃R,dN (aJ T b.i).kind=R:=⟨_,rfl⟩;rw [N] at F a8;clear N;cases hq:kP T b with
   |error p=>
    rw [hq] at m;have f:aM (d=.error p):=aA (by rw [o.o,iC,aI i,hq]);clear hq o;go_wp2_with (first
     |(go_at_call 40;refine (aD m).mono ?_;rintro g b4 ⟨j,b9,V,X,c1,rfl,k,O⟩;have v:=aA j;have Z:=aA k;have a1:=aA O;clear j k O)
     |go_in)
    go_ret;refine ⟨e.o.low.trans v.o,?_⟩;rw [f.o];exact ⟨_,_,_,_,rfl,Z.o,a1.o⟩
   |ok y=>
    obtain ⟨S,x⟩:=y;have b8:=Y.o _ _ _ hq a7;rw [hq] at m;have f:aM (d=iC T t S (n.map jK++[((aJ T b.i).pos,x)])):=aA (by rw [o.o,iC,aI i,hq]);clear hq o;go_wp2_with (first
     |(go_at_call 40;refine (aD m).mono ?_;rintro g b4 ⟨j,V,X,b5,c2,rfl,P,I⟩;have v:=aA j;have a2:=aA P;have a0:=aA I;clear j P I)
     |go_in)
    go_roundg t;case measure=>omega
    case rel=>exact ⟨S,V,X,_,a2.o,e.o.low.trans v.o,by rw [f.o,zt,zs,jK,a0.o],by omega,by omega,by simp;omega⟩
theorem aRy{w:World}{H:Array Oper}{I:List Oper}{m:Oper}{l:Act}{v:Exit->Act->World->Prop}(y:m.guard=none)(s o:Operand)(i:TypeId)
  (C:m.op=.call {callee:=.builtin .append,args:=#[s,o],argTypes:=#[i,i]})
  (f:Nat) (b:TypeId) (c:TypeInfo) (u:Value) (a q:Nat) (F:zq.underlying i=some (.slice b)) (z:zq.info? b=some c) (a2:c.zero=some u) (Z:c.size=a) (S:c.bytes=q) (a3:u.cells.size=a) (a0:0<a)
  (e:Value) (d:Nat) (p:List Value) (E:l.eval s=e) (r:w.ownsRow f b a e d p) (M:Value) (g N:Nat) (k:List Value) (G:l.eval o=M) (D:w.ownsRow N b a M g k) (Q:∀J∈k,J.oneCell'=true) (Y:d+g<=maxLen) (U:(d+g)*q<=140737488355328) (R:f<=w.heap.size)
  (x:∀n j,j.ownsRow f b a n (d+g) (p++k)->w.grownBy j e.ownBlock->wpList zq H v I (l.put m.dst n) j):wpList zq H v (m::I) l w:=by
 have V:=D;obtain ⟨W,⟨rfl,X⟩|⟨P,O,a6,rfl,a7,a8,b0⟩⟩:=D
 ·subst X;have a1:k=[]:=List.eq_nil_of_length_eq_zero (by omega);subst a1;refine wpList_append_own_none y s o i C f b c a F z e d p E r G ?_;exact x e w (by simpa using r) (World.grownBy.refl _ _)
 ·refine wpList_append_own w y s o i C f b c u a q F z a2 Z S a3 a0 e d p E r ⟨P,0,none⟩ g O k G W (λt J A=>?_) Q Y U R (λn j a4 a5 _=>x n j a4 a5);have a9:=(List.getElem?_eq_some_iff.1 A).1;have:=V.cellAt t (by omega);rw [A] at this;cases t with
  |zero=>simpa [Addr.add] using this
  |succ t=>simpa [Addr.add] using this
theorem aAc(CV:List Pc):∀a (b:a<CV.length),(pL CV)[a*2]?=some (.int .i64 CV[a].1.1)/\(pL CV)[a*2+1]?=some CV[a].2:=by
 induction CV with
 |nil=>intro a b;simp at b
 |cons x r ih=>
  intro a b;cases a with
  |zero=>simp [pL]
  |succ a=>
   have:=ih a (by simpa using b);have c:(a+1)*2=a*2+2:=by omega
   rw [c];simp only [pL,zl,zj,zf,List.getElem_cons_succ] at this ⊢;have d:a*2+2+1=a*2+1+2:=by omega
   rw [d];simp only [List.getElem?_cons_succ];exact this
theorem aRz(d:List Us):∀c∈gH d,c.oneCell'=true:=by intro c a;unfold gH at a;rw [z8] at a;obtain ⟨e,_,b⟩:=a;simp at b;rcases b with rfl|rfl|rfl<;>rfl
theorem aS0(a b:List Us):gH (a++b)=gH a++gH b:=by simp [gH]
structure aCx(p:Pc):Prop where
 short:∀q∈p.1.2,eF q.1.2
 count:aR (p.1.2.map zv)<=100000
 len:p.1.2.length<=100000
def fJ(CV:List Pc):List Us:=CV.flatMap λa=>pU (a.1.2.map zv)
theorem aS1(CV:List Pc)(a:Nat)(b:a<CV.length):fJ (CV.take (a+1))=fJ (CV.take a)++pU (CV[a].1.2.map zv):=by rw [zy b];unfold fJ;rw [zo,zr]
theorem aS2(CV:List Pc)(a:Nat):(fJ (CV.take a)).length<=(fJ CV).length:=by
 have:fJ CV=fJ (CV.take a)++fJ (CV.drop a):=by unfold fJ;rw [<-zo,List.take_append_drop]
 rw [this,zw];omega
theorem aS3{N:Nat}(m:fI B w vC CV)(b8:w.cell? ⟨N,4,none⟩=some vC)(I:∀b3∈CV,aCx b3)(c0:CV.length<=1000000)(b7:(fJ CV).length<=1000000):Calls zq 26 #[.pointer (some ⟨N,0,none⟩)] w λg Q=>∃O,g=.returned O/\Q.ownsRow w.heap.size 92 3 O (fJ CV).length (gH (fJ CV))/\aB w Q:=by
 obtain ⟨b0,a1,a2,a3,a4⟩:=info_parts aL3;obtain ⟨c6,c7,rfl⟩:=bA m.row;have d:=aA m;have Y:=aA I;clear m I;go_enter Tryz.func26,Tryz.ntmps26;go_wp2;go_loopw [3,11] (λb2 u wr=>∃a:Nat,a<=CV.length/\u=.int .i64 a/\wr.ownsRow w.heap.size 92 3 b2 (fJ (CV.take a)).length (gH (fJ (CV.take a)))/\aB w wr) (λ_ u _=>CV.length-(intOf u).toNat);case atStart=>exact ⟨0,yy _,rfl,World.ownsRow_nil _ _ _ _,Below.refl _ _⟩
 case round=>
  obtain ⟨a,b9,rfl,j,b⟩:=hrel;obtain ⟨c1,c2,rfl⟩:=bA j;have a9:=b.size;have v:=aA b;have k:=aA j;by_cases q:a<CV.length
  ·have i:CV[a]∈CV:=zi _;have e:=Y.o _ i;obtain ⟨f,l,J,E⟩:=aEr (P:=CV[a].1.2) (d.o.each _ i).1 (d.o.each _ i).2 e.short (by have:=e.count;omega) (by have:=e.len;omega);obtain ⟨A,b5,M⟩:=wU d.o.row (by omega);simp at M;obtain ⟨rfl,rfl⟩:=M;have y:w.cell? ⟨A,a*2,none⟩=some (.int .i64 CV[a].1.1):=by rw [d.o.row.cellAt _ (by omega),(aAc CV a q).1]
   have z:w.cell? ⟨A,a*2+1,none⟩=some (.slice f CV[a].1.2.length l):=by rw [d.o.row.cellAt _ (by omega),(aAc CV a q).2,J]
   have b6:=aC b y;have a0:=aC b z;have a5:=e.count;have t:=aS1 CV a q;have a7:=aS2 CV (a+1);rw [t,zw] at a7;have Z:=aA t;have H:(CV[a].1.2.map zv).length=CV[a].1.2.length:=by simp
   rw [<-H] at a0;clear y z J e i t H;generalize CV[a].1.2.map zv=c at *;generalize CV[a].1.1=at0 at *;generalize fJ (CV.take a)=U0 at *;have R:=aA (λwx (a8:cH wx f c)=>aXy f l c wx a8 a5);have V:=aA (E.below b (zz _));clear j b E;go_wp2_with (first
    |(go_at_call 41;refine (R.o _ (V.o.below ((Below.refl _ _).alloc (zz _) _) (zz _))).mono ?_;rintro g c8 ⟨c4,rfl,r,p⟩;have n:=(v.o.alloc a9 (.cells #[.int .i64 at0,.slice f c.length l] 95));have o:=n.trans (p.mono n.size);have C:=o.size;have G:=bG (k.o.alloc _) p (zz _);have x:=aA G;have W:=aA r;have S:=aA o;obtain ⟨c3,b4,rfl⟩:=bA r;clear G r p n o)
    |(at_builtin;refine aRy rfl (.tmp 15) (.tmp 18) 67 rfl w.heap.size 92 b0 (.agg #[.string ⟨#[]⟩,.bool false,.int .i64 0]) 3 32 Tryz.underlying67 a1 a2 a3 a4 rfl (by decide) _ _ _ rfl x.o _ _ _ _ rfl W.o (aRz _) (by unfold maxLen;omega) (by omega) C ?_;intro c5 c9 F D;have X:=aA F;have U:=aA D;clear F D)
    |go_in)
   go_roundw;case rel=>exact ⟨a+1,by omega,by go_num,by rw [Z.o,zw,aS0];exact X.o,S.o.grown U.o C (λb1 g=>(cU x.o b1 g).1)⟩
   case measure=>simp [intOf];omega
  ·have a6:a=CV.length:=by omega
   subst a6;clear j b;rw [zp] at k;go_wp2;go_ret;exact ⟨_,rfl,by rw [zp];exact k.o,v.o⟩
end
section
open Go.RowKit
theorem aHw:eF []:=λb a=>by simp at a
theorem aS4(k:TL L T brk)(hx:yQ L T):∀i a d b f,fV T i a d=.ok (b,f)->a.i<T.length->(∀e∈d,eF e.2)->
  (∀e∈f,eF e.2)/\a.i<b.i/\b.i<T.length/\aR f<=aR d+(b.i-a.i)/\f.length<=d.length+(b.i-a.i)/\a.pz.length<=b.pz.length/\b.pz.length<=a.pz.length+(b.i-a.i):=by
 intro i;induction i with
 |zero=>intro a d b f c;simp [fV] at c
 |succ i ih=>
  intro a d b f c o r;cases hq:cJ T (T.length+1) true (kR T a) [] with
  |error p=>rw [aEs hq] at c;simp at c
  |ok g=>
   obtain ⟨y,u⟩:=g;obtain ⟨z,A,v,x⟩:=aEv T a;have l:=(wT T (T.length+1)).1 _ _ _ _ _ hq;have q:=(aYj k (T.length+1)).1 _ _ _ _ _ hq (aZo k o);have t:=(aZl hx (T.length+1)).1 _ _ _ _ _ hq aHw;rw [v,x] at l;simp only [ze] at l;have m:∀e∈d++[(decide ((aJ T a.i).kind=126),u)],eF e.2:=by
    intro e hx;rcases zx.1 hx with hx|hx
    ·exact r e hx
    ·simp at hx;subst hx;exact t
   by_cases j:(aJ T y.i).kind=124
   ·rw [aEt hq j] at c;have n:=k.more _ q (by rw [j];decide) (by rw [j];decide);have g:=ih _ _ _ _ c n m;rw [rH] at g;simp only [zw,zd] at g;refine ⟨g.1,?_⟩;obtain ⟨_,C,D,E,F,G,H⟩:=g;omega
   ·rw [aEu hq j] at c;simp only [Except.ok.injEq,Prod.mk.injEq] at c;obtain ⟨rfl,rfl⟩:=c;refine ⟨m,?_⟩;rw [rH];simp only [zw,zd];omega
theorem aHx(g:TL L T brk)(d:yQ L T){b c:bE}{e:List Lt}(a:kP T b=.ok (c,e))(l:b.i<T.length):(∀j∈e,eF j.2)/\b.i<c.i/\c.i<T.length/\aR e<=T.length/\e.length<=T.length/\b.pz.length<=c.pz.length/\c.pz.length<=b.pz.length+(c.i-b.i):=by
 unfold kP at a;cases hq:lG T b with
 |error p=>rw [hq] at a;simp at a
 |ok r=>
  obtain ⟨z,y⟩:=r;rw [hq] at a;simp only at a;split at a
  ·rename_i f;simp only [Except.ok.injEq,Prod.mk.injEq] at a;obtain ⟨rfl,rfl⟩:=a;unfold lG at hq;split at hq
   ·rename_i k;have n:=g.more _ l (by rw [k];decide) (by rw [k];decide);simp only [Except.ok.injEq,Prod.mk.injEq] at hq;obtain ⟨rfl,rfl⟩:=hq;have i:=g.more _ n (by rw [f];decide) (by rw [f];decide);refine ⟨λj d=>by simp at d,by simp;omega,i,by simp [aR],by simp,by simp,by simp⟩
   ·obtain ⟨o,q,t,u,v,m,x⟩:=aS4 g d _ _ _ _ _ hq l (λj d=>by simp at d);have i:=g.more _ t (by rw [f];decide) (by rw [f];decide);simp only [ze,aR,List.map_nil,List.sum_nil] at q u v m x;refine ⟨o,by simp only;omega,i,?_,by omega,m,by simp only;omega⟩;unfold aR;omega
  ·simp at a
theorem aS5(a:List Nd):∀f,eF a->eF (dY a f).1:=by
 have j:∀(a:List Nd) (b:List Nd×List Int),eF a->eF b.1->eF (a.foldl cI b).1:=by
  intro a;induction a with
  |nil=>intro b _ c;exact c
  |cons x r ih=>
   intro b g d;refine ih _ (λk i=>g k (zc _ i)) ?_;have e:=g x (za ..);unfold cI;split
   ·split
    ·exact yR d (by first|exact e|(rw [wX];omega))
    ·exact yR d (by first|exact e|(rw [wX];omega))
   ·exact yR d e
 exact λf c=>j a ([],f) c aHw
theorem aS6(b:List Lt)(d:∀a∈b,eF a.2):∀a∈(cW b).1,eF a.2:=by
 have i:∀(b:List Lt) (c:List Lt×List Int),(∀a∈b,eF a.2)->(∀a∈c.1,eF a.2)->∀a∈(b.foldl dM c).1,eF a.2:=by
  intro b;induction b with
  |nil=>intro c _ d;exact d
  |cons y r ih=>
   intro c e f;refine ih _ (λj g=>e j (zc _ g)) ?_;intro a hx;unfold dM at hx;simp only at hx;rcases zx.1 hx with hx|hx
   ·exact f a hx
   ·simp at hx;subst hx;exact aS5 _ _ (e y (za ..))
 exact i b ([],[]) d (λa hx=>by simp at hx)
theorem aCy(c:List Lt):aR (cW c).1=aR c:=by
 have b:∀(c:List Lt) (a:List Lt×List Int),aR (c.foldl dM a).1=aR a.1+aR c:=by
  intro c;induction c with
  |nil=>intro a;simp [aR]
  |cons y r ih=>
   intro a;rw [List.foldl_cons,ih];unfold dM;simp only;rw [rH];simp only [aR,List.map_cons,List.sum_cons];have:=(xU y.2 a.2).1;omega
 have:=b c ([],[]);simpa [cW,aR] using this
theorem aS7(a:List Lt)(f:∀b∈a,eF b.2):(∀b∈aV a,eF b.2)/\aR (aV a)<=aR a/\(aV a).length<=a.length:=by
 obtain ⟨c,d,e⟩:=jW a;refine ⟨aS6 _ λb g=>f b (e b g),?_,?_⟩
 ·unfold aV;rw [aCy];exact d
 ·unfold aV;rw [(pJ _).1];exact c
def qM(b:List (Nat×List Lt))(a:Nat)(c:a<b.length):Prop:=40<=a\/bL (aV b[a].2)=false
def aAd(a:List (Nat×List Lt))(g:List (List Lt))(d e:Int):Prop:=
 (∃b c,qM a b c/\(∀f i,f<b->¬qM a f i)/\g=[]/\d=a[b].1/\e=4)\/((∀b c,¬qM a b c)/\g=a.map (λj=>aV j.2)/\d=0/\e=0)
def oL(s:ByteArray)(c:List (List Lt))(a b:Int):Prop:=
 (3000<s.size/\c=[]/\a=0/\b=1)\/(s.size<=3000/\
  match uX s with
  | .error p=>c=[]/\a=p/\b=2
  | .ok (st,cs)=>∃d,wS st.pz d/\((0<=d/\c=[]/\a=d/\b=3)\/(d<0/\aAd cs c a b)))
def aAe(B:Nat)(w:World)(c:Value)(CV:List (List (Lt×Value)×Value)):Prop:=
 w.ownsRow B 51 1 c CV.length (CV.map Prod.snd)/\∀a∈CV,qY w B a/\(∀b∈a.1,eF b.1.2)/\aR (a.1.map zv)<=1000000/\a.1.length<=1000000
theorem aAe.nil(B:Nat)(w:World):aAe B w (.slice none 0 0) []:=⟨World.ownsRow_nil _ _ _ _,λp a=>by simp at a⟩
structure lC(B:Nat)(w:World)(v:Value)(QV:List (List (Lt×Value)×Value)):Prop where
 mem:aAe B w v QV
 once:(QV.map λp=>p.2.ownBlock).Nodup
 atoms:(QV.flatMap λp=>p.1.filterMap λq=>q.2.ownBlock).Nodup
theorem lC.nil(B:Nat)(w:World):lC B w (.slice none 0 0) []:=⟨aAe.nil _ _,by simp,by simp⟩
end
section
open Go.RowKit Go.WideMaps
def aS8(CV:List Pc)(w:World)(f:Ending)(e:World):Prop:=
 ∃d a b c,f=.returned (.tuple #[d,.int .i64 b,.int .i64 c])/\aAd (CV.map jK) (a.map λg=>g.1.map zv) b c/\lC w.heap.size e d a/\aB w e
structure OLp(CV:List Pc)(w:World)(k:Nat)(v:Value)(wr:World)(QV:List (List (Lt×Value)×Value)):Prop where
 le:k<=CV.length
 made:QV.map (λp=>p.1.map zv)=(CV.take k).map λp=>aV (p.1.2.map zv)
 good:∀j h,j<k->¬qM (CV.map jK) j h
 mem:lC w.heap.size wr v QV
 low:aB w wr
theorem aHy{a:Nat}(c:a<CV.length)(b:a<(CV.map jK).length):qM (CV.map jK) a b↔(40<=a\/bL (aV (CV[a].1.2.map zv))=false):=by unfold qM;rw [zn];exact Iff.rfl
theorem aS9{d:Type}{a:d->Option Nat}{c:List d}(b:(c.map a).Nodup):(c.filterMap a).Nodup:=by unfold List.Nodup at b ⊢;rw [List.pairwise_map] at b;refine List.Pairwise.filterMap a (λj k i l f m g e=>i ?_) b;subst e;rw [f,g]
section
variable {CV:List Pc}{w wr:World}{k:Nat}{v:Value}{QV:List (List (Lt×Value)×Value)}
theorem aHz{p e:World}{d:List Lt}{j:Value}{o:Nat}{a:List (Lt×Value)}(b:wN p d j o a e)(l:B<=p.heap.size)(t:∀x∈d,eF x.2)(A:aR d<=100000)(C:d.length<=100000):qY e B (a,j)/\((∀c∈a,eF c.1.2)/\aR (a.map zv)<=1000000/\a.length<=1000000)/\cH e (some ⟨o,0,none⟩) (aV d):=by
 obtain ⟨u,D,E⟩:=aS7 d t;have r:a.length=(aV d).length:=by rw [<-b.made];simp
 have g:qY e B (a,j):=by refine ⟨?_,λc f=>iP (b.atoms c f) l⟩;rw [b.val,r];exact iP b.row l
 have n:∀c∈a,eF c.1.2:=λc f=>u c.1 (by rw [<-b.made];exact zg.2 ⟨c,f,rfl⟩)
 have m:aR (a.map zv)<=1000000:=by rw [b.made];omega
 refine ⟨g,⟨n,m,by omega⟩,?_⟩;obtain ⟨y,z,i,q⟩:=aEr (P:=a) g.1 g.2 n m (by omega);rw [b.val] at i;simp at i;rw [<-b.made];rw [i.1];exact q
theorem aSa{w2 w3 w4:World}{c:List Lt}{vo v':Value}{nb:Nat}{Q:List (Lt×Value)}{X Y:Obj}(a:OLp CV w k v wr QV)(r:k<CV.length)(y:CV[k].1.2.map zv=c)(b:wN (wr.alloc X) c vo nb Q w2)(u:aB w2 w3)(N:∀W∈c,eF W.2)(C:aR c<=100000)(G:c.length<=100000)(D:k<40/\bL (aV c)=true)(H:w4.ownsRow w.heap.size 51 1 v' (QV.length+1) (QV.map Prod.snd++[vo]))(g:(w3.alloc Y).grownBy w4 v.ownBlock):OLp CV w (k+1) v' w4 (QV++[(Q,vo)]):=by
 have R:=a.low.size;have A:=(Below.refl wr.heap.size wr).alloc (zz _) X;have S:=b.low.size;have U:=u.size;have t:aB w2 (w3.alloc Y):=u.alloc U Y;simp at S;have f:aB wr (w3.alloc Y):=(A.trans (b.low.mono (by simp))).trans (t.mono (by omega));have j:=bG a.mem.mem.1 f (zz _);obtain ⟨x,O,_⟩:=aHz (B:=w.heap.size) b (by simp;omega) N C G;have P:vo.ownBlock=some nb:=by rw [b.val];rfl
 have a0:wr.heap.size<nb+1:=by have:=(cU b.row nb rfl).1;simp at this;omega
 refine ⟨r,?_,λo E Z=>?_,⟨⟨?_,λl hp=>?_⟩,?_,?_⟩,?_⟩
 ·rw [zt,a.made,zs,zy r,zt,zs,b.made,y]
 ·by_cases F:o=k
  ·subst F;rw [aHy r,y,D.2];rintro (h1|h1)
   ·omega
   ·simp at h1
  ·exact a.good o E (by omega)
 ·rw [zw,zt,zs];exact H
 ·rcases zx.1 hp with hp|hp
  ·obtain ⟨h1,q⟩:=a.mem.mem.2 l hp;refine ⟨⟨?_,λm i=>?_⟩,q⟩
   ·have:=bG h1.1 f (zz _);exact this.kept g (gE this j (by decide))
   ·have:=bG (h1.2 m i) f (zz _);exact this.kept g (gE this j (by decide))
  ·simp at hp;subst hp;refine ⟨⟨?_,λm i=>?_⟩,O⟩
   ·have:=bG x.1 t (zz _);exact this.kept g (gE this j (by decide))
   ·have:=bG (x.2 m i) t (zz _);exact this.kept g (gE this j (by decide))
 ·rw [zt,zs,z6];refine ⟨a.mem.once,by simp,λp e z n=>?_⟩;simp at n;subst n;obtain ⟨l,hp,rfl⟩:=zg.1 e;rw [P];intro d;have:=(cU (a.mem.mem.2 l hp).1.1 nb d).2;omega
 ·rw [zo,zr,z6];refine ⟨a.mem.atoms,aS9 b.once,λp e z n=>?_⟩;obtain ⟨l,hp,e⟩:=z8.1 e;obtain ⟨m,i,J⟩:=z0.1 e;obtain ⟨V,I,M⟩:=z0.1 n;intro d;subst d;have h1:=(cU ((a.mem.mem.2 l hp).1.2 m i) p J).2;have q:=(cU (b.atoms V I) p M).1;simp at q;omega
 ·exact (a.low.trans (f.mono R)).grown g (by have:=f.size;omega) (λo d=>(cU j o d).1)
theorem aSb(O:fI B w vC CV)(c4:∀G∈CV,aCx G)(E:∀G∈CV,∀H∈G.1.2,wL H.1.2)(e9:CV.length<=1000000):Calls zq 27 #[vC] w λr e4=>aS8 CV w r e4:=by
 obtain ⟨e2,d6,d7,d8,d9⟩:=info_parts aZm;obtain ⟨f5,f6,rfl⟩:=bA O.row;have z:=aA O;have d1:=aA c4;have d2:=aA E;clear O c4 E;go_enter Tryz.func27,Tryz.ntmps27;go_wp2;go_loopw [5,11] (λe3 b2 wr=>∃(k:Nat) (QV:List (List (Lt×Value)×Value)),b2=.int .i64 k/\OLp CV w k e3 wr QV) (λ_ b2 _=>CV.length-(intOf b2).toNat);case atStart=>exact ⟨0,[],rfl,⟨yy _,rfl,λc7 O a7=>by omega,lC.nil _ _,Below.refl _ _⟩⟩
 case round=>
  obtain ⟨k,QV,rfl,d⟩:=hrel;have e8:=d.le;have b1:=d.low.size;obtain ⟨f1,f2,rfl⟩:=bA d.mem.mem.1;have e0:QV.length=k:=by have:=congrArg List.length d.made;simp at this;omega
  have f0:QV.length<=1000000:=by omega
  clear e0;by_cases t:k<CV.length
  ·have D:CV[k]∈CV:=zi _;have o:=d1.o _ D;obtain ⟨n,q,E,a8⟩:=aEr (P:=CV[k].1.2) (z.o.each _ D).1 (z.o.each _ D).2 o.short (by have:=o.count;omega) (by have:=o.len;omega);obtain ⟨b9,e7,c6⟩:=wU z.o.row (by omega);simp at c6;obtain ⟨rfl,rfl⟩:=c6;have b6:w.cell? ⟨b9,k*2,none⟩=some (.int .i64 CV[k].1.1):=by rw [z.o.row.cellAt _ (by omega),(aAc CV k t).1]
   have b7:w.cell? ⟨b9,k*2+1,none⟩=some (.slice n CV[k].1.2.length q):=by rw [z.o.row.cellAt _ (by omega),(aAc CV k t).2,E]
   have d4:=aC d.low b6;have b8:=aC d.low b7;have Q:=o.count;have C:=o.len;have c3:(CV[k].1.2.map zv).length=CV[k].1.2.length:=by simp
   rw [<-c3] at b8 C;have R:∀I∈CV[k].1.2.map zv,eF I.2:=λI f=>by obtain ⟨H,b0,rfl⟩:=zg.1 f;exact o.short H b0
   have g:∀I∈CV[k].1.2.map zv,wL I.2:=λI f=>by obtain ⟨H,b0,rfl⟩:=zg.1 f;exact d2.o _ D H b0
   have a4:=aHy t (by simpa using t);obtain ⟨b,a5⟩ : ∃b,CV[k].1.2.map zv=b:=⟨_,rfl⟩;obtain ⟨j,a3⟩ : ∃d3,CV[k].1.1=d3:=⟨_,rfl⟩;rw [a5] at b8 C Q R g a4 a8;rw [a3] at d4;have y:aM (40<=k\/bL (aV b)=false->aAd (CV.map jK) [] j 4):=aA λf=>Or.inl ⟨k,by simpa using t,a4.2 f,d.good,rfl,by rw [zn];simp [jK,a3],rfl⟩
   have M:=aA (λ(m u S:World) (l b3:Value) (c:Nat) (i:List (Lt×Value)) (a0 a2:Obj) a e hg a9 a6=>aSa (w2:=m) (w3:=u) (w4:=S) (vo:=l) (v':=b3) (nb:=c) (Q:=i) (X:=a0) (Y:=a2) d t a5 a e R Q C hg a9 a6);have V:=aA (λwx (f:cH wx n b)=>aKv n q b wx f g Q C);have b4:=aA (λ(e5 m:World) (l:Value) (c:Nat) (i:List (Lt×Value)) (a:wN e5 b l c i m)=>(aHz (B:=0) a (yy _) R Q C).2.2);have Y:=aA (a8.below d.low (zz _));have Z:=aA d.mem.mem.1;have p:=aA d;clear b6 b7 E o D c3 a4 a5 a3 d a8 R g;have a1:aM ((wr.alloc (.cells #[.int .i64 j,.slice n b.length q] 95)).cell? ⟨wr.heap.size,0,none⟩=some (.int .i64 j)):=aA (by simp);by_cases d5:k<40
   ·cases hfit:bL (aV b) with
    |false=>
     have X:=aA (y.o (Or.inr hfit));have x:=aA (λwx c (f:cH wx (some ⟨c,0,none⟩) (aV b))=>wO (some ⟨c,0,none⟩) (aV b).length (aV b) wx f);rw [hfit] at x;clear M y hfit;go_wp2_with (first
      |(go_at_call 35;refine (x.o _ c (b4.o _ _ _ _ _ A.o)).mono ?_;rintro r u ⟨rfl,e⟩;have W:=aA e;have e6:=aC e U;have b5:=aA (bG N.o e (zz _));have e1:=e.size;clear e)
      |(go_at_call 42;refine (V.o _ (Y.o.below ((Below.refl _ _).alloc (zz _) _) (zz _))).mono ?_;rintro r m ⟨l,c,i,rfl,a⟩;have g:=a.val;subst g;have U:=aC a.low a1.o;have A:=aA a;have J:=aA (p.o.low.trans (((Below.refl wr.heap.size wr).alloc (zz _) (.cells #[.int .i64 j,.slice n b.length q] 95)).mono b1 |>.trans (a.low.mono (by simp;omega))));have N:=aA (bG (Z.o.alloc _) a.low (zz _));have F:=a.low.size;simp at F;clear a)
      |go_in)
     go_quiet (fail);go_wp2;go_returns;exact ⟨_,[],j,4,rfl,X.o,lC.nil _ _,(J.o.trans (W.o.mono (by omega))).trans ((aU ⟨_,rfl⟩).mono (by omega))⟩
    |true=>
     have x:=aA (λwx c (f:cH wx (some ⟨c,0,none⟩) (aV b))=>wO (some ⟨c,0,none⟩) (aV b).length (aV b) wx f);rw [hfit] at x;have d0:=aA (λm u S l b3 c i a0 a2 a e a9 a6=>M.o m u S l b3 c i a0 a2 a e ⟨d5,hfit⟩ a9 a6);clear M y hfit;go_wp2_with (first
      |(at_builtin;refine wpList_append_own _ rfl (.tmp 28) (.tmp 30) 44 rfl w.heap.size 51 e2 (.slice none 0 0) 1 24 Tryz.underlying44 d6 d7 d8 d9 rfl (by decide) _ _ _ rfl (b5.o.alloc _) ⟨_,0,none⟩ 1 1 [.slice (some ⟨c,0,none⟩) (aV b).length (aV b).length] rfl rfl (tX u _ _ _ rfl) (by intro f3 c5;simp at c5;subst c5;rfl) (by unfold maxLen;omega) (by omega) (by simp;omega) ?_;intro f4 S c2 c0 _;have c9:=aA (d0.o _ _ _ _ _ _ _ _ _ A.o W.o c2 c0);clear c2 c0)
      |(go_at_call 35;refine (x.o _ c (b4.o _ _ _ _ _ A.o)).mono ?_;rintro r u ⟨rfl,e⟩;have W:=aA e;have e6:=aC e U;have b5:=aA (bG N.o e (zz _));have e1:=e.size;clear e)
      |(go_at_call 42;refine (V.o _ (Y.o.below ((Below.refl _ _).alloc (zz _) _) (zz _))).mono ?_;rintro r m ⟨l,c,i,rfl,a⟩;have g:=a.val;subst g;have U:=aC a.low a1.o;have A:=aA a;have J:=aA (p.o.low.trans (((Below.refl wr.heap.size wr).alloc (zz _) (.cells #[.int .i64 j,.slice n b.length q] 95)).mono b1 |>.trans (a.low.mono (by simp;omega))));have N:=aA (bG (Z.o.alloc _) a.low (zz _));have F:=a.low.size;simp at F;clear a)
      |go_in)
     go_roundw;case rel=>exact ⟨k+1,_,by go_num,c9.o⟩
     case measure=>simp [intOf];omega
   ·have X:=aA (y.o (Or.inl (by omega)));clear M y;go_wp2_with (first
     |(go_at_call 42;refine (V.o _ (Y.o.below ((Below.refl _ _).alloc (zz _) _) (zz _))).mono ?_;rintro r m ⟨l,c,i,rfl,a⟩;have g:=a.val;subst g;have U:=aC a.low a1.o;have A:=aA a;have J:=aA (p.o.low.trans (((Below.refl wr.heap.size wr).alloc (zz _) (.cells #[.int .i64 j,.slice n b.length q] 95)).mono b1 |>.trans (a.low.mono (by simp;omega))));have N:=aA (bG (Z.o.alloc _) a.low (zz _));have F:=a.low.size;simp at F;clear a)
     |go_in)
    go_quiet (fail);go_wp2;go_returns;exact ⟨_,[],j,4,rfl,X.o,lC.nil _ _,J.o.trans ((aU ⟨_,rfl⟩).mono (by omega))⟩
  ·have c1:k=CV.length:=by omega
   have c8:aM (aAd (CV.map jK) (QV.map λG=>G.1.map zv) 0 0):=aA (Or.inr ⟨λc7 a7=>d.good c7 a7 (by simp at a7;omega),by rw [d.made,c1,zp,List.map_map];rfl,rfl,rfl⟩);have p:=aA d;clear d c1;go_wp2;go_returns;exact ⟨_,QV,0,0,rfl,c8.o,p.o.mem,p.o.low⟩
end
def gW:Nat->List Nd->List Us
 |_,[]=>[]
 |k,n::r=>lY k n++gW (k+1) r
theorem aI0(b c:List Nd):∀a,gW a (b++c)=gW a b++gW (a+b.length) c:=by
 induction b with
 |nil=>intro a;simp [gW]
 |cons x r ih=>intro a;simp only [zj,gW,ih,zu,z9];rw [show a+1+r.length=a+(r.length+1) by omega]
theorem aSc(b:List Nd):∀a,a<=b.length->kB b a=gW 0 (b.take a):=by
 intro a;induction a with
 |zero=>intro _;simp [kB,gW]
 |succ a ih=>
  intro c;rw [aL0 b a c,ih (by omega),zy c,aI0];simp [gW,Nat.min_eq_left (show a<=b.length by omega)]
theorem aSd(b:List Lt):∀a,a<=b.length->nV b a=(b.take a).flatMap λd=>gW 0 d.2:=by
 intro a;induction a with
 |zero=>intro _;simp [nV]
 |succ a ih=>
  intro c;rw [aEe b a c,ih (by omega),zy c,zo,zr,aSc _ _ (zz _),zp]
theorem uH(a:List Lt):pU a=a.flatMap λb=>gW 0 b.2:=by unfold pU;rw [aSd a _ (zz _),zp]
def nJ(c:Nat)(b:List Nd):Prop:=∀a∈b,aL a=true->0<=a.2/\a.2<=c
theorem nJ.mono{m b:Nat}{a:List Nd}(c:nJ m a)(f:m<=b):nJ b a:=λn d e=>by have:=c n d e;omega
theorem nJ.append{a:Nat}{b c:List Nd}(e:nJ a b)(f:nJ a c):nJ a (b++c):=λd hn=>by
 rcases zx.1 hn with hn|hn
 ·exact e d hn
 ·exact f d hn
theorem aI1(a:List ByteArray)(b:ByteArray):0<=kC a b/\kC a b<=(kO a b).length:=by
 have:=aYf a b;unfold kC kO;split
 ·simp;omega
 ·omega
theorem aI2{b:Type}(d:b->b)(e:b)(c:List b):∀a:List b,(a++[e]++c).modify a.length d=a++[d e]++c:=by
 intro a;induction a with
 |nil=>rfl
 |cons x r ih=>simp only [zj,z9,List.modify_succ_cons,ih]
theorem aI3(b c:List Pl)(a:Pl)(d:Nat):pW (b++[a]++c) b.length d=b++[(a.1,a.2.1,(d:Int),a.2.2.2)]++c:=aI2 _ _ _ _
theorem aI4(a b:List Nd)(d:Nd)(c:Nat):dS (a++[d]++b) a.length c=a++[(d.1,(c:Int))]++b:=aI2 _ _ _ _
structure aI5(st st':bE)(l l':List Nd)(Q:List Pl)(M:List Nd):Prop where
 pl:st'.pz=st.pz++Q
 nd:l'=l++M
 us:Q.map jO=gW l.length M
 vs:nJ st'.vars.length M
 ps:∀p∈Q,0<=p.2.2.2
theorem aSe(I:∀A,(aJ T A).kind=110->(aJ T A).txt.toList.isEmpty=false):∀j,(∀i b c e d,cJ T j i b c=.ok (e,d)->i=decide (c.length=0)->∃g f,aI5 b e c d g f)/\
  (∀b c k e d q,dT T j b c k=.ok (e,d,q)->0<c.length->∃g f,aI5 b e c d g f):=by
 intro j;induction j with
 |zero=>exact ⟨λi b c e d a=>by simp [cJ] at a,λb c k e d q a=>by simp [dT] at a⟩
 |succ j ih=>
  obtain ⟨R,C⟩:=ih;constructor
  ·intro i b c e d a J;rw [cJ] at a;split at a
   ·simp only [Except.ok.injEq,Prod.mk.injEq] at a;obtain ⟨rfl,rfl⟩:=a;refine ⟨[],[(⟨#[]⟩,kC b.vars (aJ T b.i).txt)],by simp,rfl,?_,?_,λo hp=>by simp at hp⟩
    ·simp [gW,lY,aL]
    ·intro k hn _;simp at hn;subst hn;exact aI1 _ _
   ·split at a
    ·simp at a
    ·rename_i u;simp only [ne_eq,Decidable.not_not] at u;have v:=I _ u;have y:∀n:Int,lY c.length ((aJ T b.i).txt,n)=[((aJ T b.i).txt,i,n)]:=by
      intro n;unfold lY aL;simp only;rw [v,J];rfl
     have z:∀n:Int,aL ((aJ T b.i).txt,n)=false:=λn=>v
     split at a
     ·split at a
      ·simp at a
      ·rename_i S D E P;simp only [Except.ok.injEq,Prod.mk.injEq] at a;obtain ⟨rfl,rfl⟩:=a;obtain ⟨g,f,hp⟩:=C _ _ _ _ _ _ P (by simp);have x:=hp.pl;have N:=hp.nd;have Q:=hp.us;have O:=hp.ps;simp only at x;refine ⟨((aJ T b.i).txt,i,(E:Int),((aJ T b.i).pos:Int))::g,((aJ T b.i).txt,(E:Int))::f,?_,?_,?_,?_,λo hp=>?_⟩
       ·simp only;rw [x,aI3];simp
       ·rw [N,aI4];simp
       ·rw [List.map_cons,Q,gW,y];simp [jO]
       ·intro k hn m;rcases zk.1 hn with rfl|hn
        ·rw [z] at m;cases m
        ·exact hp.vs k hn m
       ·rcases zk.1 hp with rfl|hp
        ·simp
        ·exact O o hp
     ·simp only [Except.ok.injEq,Prod.mk.injEq] at a;obtain ⟨rfl,rfl⟩:=a;refine ⟨[((aJ T b.i).txt,i,0,((aJ T b.i).pos:Int))],[((aJ T b.i).txt,0)],rfl,rfl,?_,?_,λo hp=>by simp at hp;subst hp;simp⟩
      ·rw [gW,y];rfl
      ·intro k hn m;simp at hn;subst hn;rw [z] at m;cases m
  ·intro b c k e d q a U;rw [dT] at a;split at a
   ·simp at a
   ·rename_i S D hp;obtain ⟨g,f,l⟩:=R _ _ _ _ _ hp (gB (by omega)).symm;have V:=(wT T j).1 _ _ _ _ _ hp;have r:=l.pl;have t:=l.nd;have F:=l.us;simp only at r;split at a
    ·have M:0<D.length:=by omega
     have W:=(wT T j).2 _ _ _ _ _ _ a;obtain ⟨H,G,p⟩:=C _ _ _ _ _ _ a M;refine ⟨g++H,f++G,?_,?_,?_,?_,λo hp=>(zx.1 hp).elim (l.ps o) (p.ps o)⟩
     ·rw [p.pl,r,zu]
     ·rw [p.nd,t,zu]
     ·rw [zt,F,p.us,aI0,t,zw]
     ·exact (l.vs.mono (by omega)).append p.vs
    ·split at a
     ·simp only [Except.ok.injEq,Prod.mk.injEq] at a;obtain ⟨rfl,rfl,rfl⟩:=a;exact ⟨g,f,r,t,F,l.vs,l.ps⟩
     ·simp at a
theorem aSf(A:∀u,(aJ T u).kind=110->(aJ T u).txt.toList.isEmpty=false):∀k a f c i,fV T k a f=.ok (c,i)->(∀d∈f,nJ a.vars.length d.2)->∃e n,c.pz=a.pz++e/\i=f++n/\e.map jO=pU n/\(∀d∈i,nJ c.vars.length d.2)/\a.vars.length<=c.vars.length/\a.i<=c.i/\c.vars.length+a.i<=a.vars.length+c.i/\∀j∈e,0<=j.2.2.2:=by
 intro k;induction k with
 |zero=>intro a f c i b;simp [fV] at b
 |succ k ih=>
  intro a f c i b E;cases hq:cJ T (T.length+1) true (kR T a) [] with
  |error j=>rw [aEs hq] at b;simp at b
  |ok r=>
   obtain ⟨x,m⟩:=r;obtain ⟨R,S,F,G⟩:=aEv T a;obtain ⟨e,Q,g⟩:=(aSe A (T.length+1)).1 _ _ _ _ _ hq rfl;have C:=(wT T (T.length+1)).1 _ _ _ _ _ hq;have l:=g.pl;have p:=g.nd;have q:=g.us;rw [G] at l;rw [F] at C;simp only [zf] at p;subst p;have t:∀d∈f++[(decide ((aJ T a.i).kind=126),m)],nJ x.vars.length d.2:=by
    intro d hx;rcases zx.1 hx with hx|hx
    ·exact (E d hx).mono (by omega)
    ·simp at hx;subst hx;exact g.vs
   by_cases o:(aJ T x.i).kind=124
   ·rw [aEt hq o] at b;obtain ⟨z,y,v,H,I,J,M,N,O,P⟩:=ih _ _ _ _ b t;simp only at v M N O;refine ⟨e++z,(decide ((aJ T a.i).kind=126),m)::y,?_,?_,?_,J,by omega,by omega,by omega,λj D=>(zx.1 D).elim (g.ps j) (P j)⟩
    ·rw [v,l,zu]
    ·rw [H,zu];rfl
    ·rw [zt,q,I,uH,uH,zl];rfl
   ·rw [aEu hq o] at b;simp only [Except.ok.injEq,Prod.mk.injEq] at b;obtain ⟨rfl,rfl⟩:=b;refine ⟨e,[(decide ((aJ T a.i).kind=126),m)],l,rfl,?_,t,by omega,by omega,by omega,g.ps⟩;rw [q,uH,zr];rfl
theorem aSg(l:∀j,(aJ T j).kind=110->(aJ T j).txt.toList.isEmpty=false){g i:bE}{e:List Lt}(a:kP T g=.ok (i,e)):∃b,i.pz=g.pz++b/\b.map jO=pU e/\(∀d∈e,nJ i.i d.2)/\∀f∈b,0<=f.2.2.2:=by
 unfold kP at a;cases hq:lG T g with
 |error f=>rw [hq] at a;simp at a
 |ok r=>
  obtain ⟨z,v⟩:=r;rw [hq] at a;simp only at a;split at a
  ·simp only [Except.ok.injEq,Prod.mk.injEq] at a;obtain ⟨rfl,rfl⟩:=a;unfold lG at hq;split at hq
   ·simp only [Except.ok.injEq,Prod.mk.injEq] at hq;obtain ⟨rfl,rfl⟩:=hq;exact ⟨[],by simp,rfl,λd c=>by simp at c,λf m=>by simp at m⟩
   ·obtain ⟨b,u,n,k,o,p,x,y,q,t⟩:=aSf l _ _ _ _ _ hq (λd c=>by simp at c);simp only [zf] at k;subst k;simp only [ze] at q;exact ⟨b,n,o,λd c=>(p d c).mono (by simp;omega),t⟩
  ·simp at a
structure aI6(T:List Tk)(c:List Lt):Prop where
 short:∀x∈c,eF x.2
 count:aR c<=T.length
 len:c.length<=T.length
 vars:∀x∈c,nJ T.length x.2
theorem aI7(r:TL L T brk)(k:yQ L T)(q:∀n,(aJ T n).kind=110->(aJ T n).txt.toList.isEmpty=false):∀j c g d i,iC T j c g=.ok (d,i)->c.i<T.length->∃f e,d.pz=c.pz++f/\i=g++e/\f.map jO=(e.flatMap λa=>pU a.2)/\(∀a∈e,aI6 T a.2)/\d.i<T.length/\c.i+e.length<=d.i/\d.pz.length+c.i<=c.pz.length+d.i/\∀a∈f,0<=a.2.2.2:=by
 intro j;induction j with
 |zero=>intro c g d i b;simp [iC] at b
 |succ j ih=>
  intro c g d i b l;rw [iC] at b;split at b
  ·simp only [Except.ok.injEq,Prod.mk.injEq] at b;obtain ⟨rfl,rfl⟩:=b;exact ⟨[],[],by simp,by simp,rfl,λa hp=>by simp at hp,l,by simp,by omega,λa hp=>by simp at hp⟩
  ·split at b
   ·simp at b
   ·rename_i R p m;obtain ⟨t,M,u,v,x,N,O⟩:=aHx r k m l;obtain ⟨f,y,z,A,C⟩:=aSg q m;obtain ⟨o,e,D,E,F,G,H,P,Q,I⟩:=ih _ _ _ _ b u;refine ⟨f++o,((aJ T c.i).pos,p)::e,?_,?_,?_,?_,H,by simp;omega,by omega,λa hp=>(zx.1 hp).elim (C a) (I a)⟩
    ·rw [D,y,zu]
    ·rw [E,zu];rfl
    ·rw [zt,z,F,zl]
    ·intro a hp;rcases zk.1 hp with rfl|hp
     ·exact ⟨t,v,x,λJ k=>(A J k).mono (by omega)⟩
     ·exact G a hp
theorem aI8{a:ByteArray}(b:0<a.size):a.toList.isEmpty=false:=by
 cases he:a.toList.isEmpty with
 |false=>rfl
 |true=>
  rw [List.isEmpty_iff] at he;have:a=⟨#[]⟩:=zY.1 (by rw [he];simp);subst this;rw [wX] at b;omega
theorem aI9{b:ByteArray}(a:eM b=true):0<b.size:=by
 rcases Nat.eq_zero_or_pos b.size with hx|hx
 ·unfold eM at a;rw [aCf _ _ _ _ (by omega)] at a;simp at a
 ·exact hx
theorem aSh(s:ByteArray):∀b e f c d,eQ s b e f=some (c,d)->0<c.size:=by
 intro b;induction b with
 |zero=>intro e f c d a;simp [eQ] at a
 |succ b ih=>
  intro e f c d a;rw [eQ] at a;split at a
  ·split at a
   ·split at a
    ·rename_i g;simp only [Option.some.injEq,Prod.mk.injEq] at a;rw [<-a.1];exact aI9 g
    ·simp at a
   ·split at a
    ·split at a
     ·exact ih _ _ _ _ a
     ·simp at a
    ·split at a
     ·simp at a
     ·exact ih _ _ _ _ a
  ·simp at a
theorem aSi{b f:Nat}{d:Tk}(j:b<s.size)(a:dK s b=.tok d f)(c:d.kind=110):0<d.txt.size:=by
 unfold dK at a;split at a
 ·rename_i k;split at a
  ·cases a
  ·simp only [Nx.tok.injEq] at a;rw [<-a.1];simp only;have i:=aCo k;have m:=yN j i;have g:=aEg s (s.size-(b+1)) (b+1);have o:b+1<=eC s (b+1)/\(b+1<=s.size->eC s (b+1)<=s.size):=g;rw [m,ByteArray.size_extract];omega
 ·split at a
  ·split at a
   ·rename_i p n l;simp only [Nx.tok.injEq] at a;rw [<-a.1];exact aSh s _ _ _ _ _ l
   ·cases a
  ·split at a
   ·split at a
    ·simp only [Nx.tok.injEq] at a;rw [<-a.1] at c;simp at c
    ·cases a
   ·split at a
    ·rename_i e;simp only [Nx.tok.injEq] at a;rw [<-a.1] at c;simp only at c;rw [c] at e;simp [mV] at e
    ·cases a
theorem aSj(s:ByteArray):∀a d,∀c∈(cD s a d).1,c.kind=110->0<c.txt.size:=by
 intro a;induction a with
 |zero=>intro d;simp [cD]
 |succ a ih=>
  intro d;rw [cD];split
  ·rename_i f;split
   ·exact ih _
   ·split
    ·exact ih _
    ·split
     ·rename_i c i b;intro g hu;rcases zk.1 hu with rfl|hu
      ·exact aSi f b
      ·exact ih _ g hu
     ·simp
  ·intro c b e;simp at b;rw [b] at e;simp at e
theorem aIa(s:ByteArray)(c e:Nat)(a:(aJ (dD s c) e).kind=110):(aJ (dD s c) e).txt.toList.isEmpty=false:=by
 refine aI8 ?_;have g:∀d∈dD s c,d.kind=110->0<d.txt.size:=by
  intro d ht;unfold dD eE at ht;rcases zx.1 ht with ht|ht
  ·exact aSj s _ _ d ht
  ·generalize (cD s (s.size+1-c) c).2=b at ht;cases b with
   |none=>simp at ht
   |some p=>
    simp at ht;rw [ht];intro a;simp at a
 unfold aJ at a ⊢;by_cases f:e<(dD s c).length
 ·rw [zm,List.getElem?_eq_getElem f,Option.getD_some] at a ⊢;exact g _ (zi _) a
 ·rw [zm,List.getElem?_eq_none (by omega)] at a;exact absurd a (by decide)
theorem wS.none{l:List Pl}{b:Int}(a:wS l b)(c:∀i a,¬oT l i a):b=-1:=by
 rcases a with ⟨rfl,_⟩|⟨i,d,a,_⟩
 ·rfl
 ·exact absurd a (c i d)
theorem aIb{g:List (List Lt)}{d e:Int}(a:oL s g d e)(t:s.size<=3000){i:bE}{c:List (Nat×List Lt)}(p:uX s=.ok (i,c))(l:∀b a,¬oT i.pz b a)(n:∀b a,¬qM c b a):g=c.map (λq=>aV q.2)/\d=0/\e=0:=by
 rcases a with ⟨f,_⟩|⟨_,a⟩
 ·omega
 ·rw [p] at a;obtain ⟨u,f,j⟩:=a;have:=f.none l;subst this;rcases j with ⟨r,_⟩|⟨_,k⟩
  ·omega
  ·rcases k with ⟨b,o,m,_⟩|⟨_,rfl,rfl,rfl⟩
   ·exact absurd m (n b o)
   ·exact ⟨rfl,rfl,rfl⟩
def pN:Nd:=(⟨#[112]⟩,0)
def cP:List Lt:=[(false,[pN])]
def cNp:List Lt:=[(true,[pN])]
end
section
open Go.RowKit Go.ChangeShapes Go.WideShapes
def qO(a:Int):Prop:=-9223372036854775808<=a/\a<=9223372036854775807
abbrev Rl:=Bool×Int×Int×Int
structure mL(w:World)(a:Option Addr)(l:List Rl):Prop where
 cell:∀k (h:k<l.length),∃b o,a=some ⟨b,o,none⟩/\w.cell? ⟨b,o+k*4,none⟩=some (.bool l[k].1)/\w.cell? ⟨b,o+k*4+1,none⟩=some (.int .i64 l[k].2.1)/\w.cell? ⟨b,o+k*4+2,none⟩=some (.int .i64 l[k].2.2.1)/\w.cell? ⟨b,o+k*4+3,none⟩=some (.int .i64 l[k].2.2.2)
 rng:∀k (h:k<l.length),qO l[k].2.1/\qO l[k].2.2.1/\qO l[k].2.2.2
theorem mL.below{w':World}{b:Option Addr}{d:List Rl}(c:mL w b d)(a:aB w w'):mL w' b d:=
 ⟨λk m=>by
  obtain ⟨e,n,l,f,g,i,j⟩:=c.cell k m;exact ⟨e,n,l,aC a f,aC a g,aC a i,aC a j⟩,c.rng⟩
theorem mL.take{d:Option Addr}{l:List Rl}(e:mL w d l)(n:Nat):mL w d (l.take n):=
 ⟨λk a=>by
  have b:k<l.length:=by rw [yz] at a;omega
  obtain ⟨f,i,g,c⟩:=e.cell k b;refine ⟨f,i,g,?_⟩;rw [z7];exact c,λk a=>by
  have b:k<l.length:=by rw [yz] at a;omega
  rw [z7];exact e.rng k b⟩
theorem aD0{a:Int}(b:(Lit.int .i64 a).wf=true):qO a:=by
 have d:IntKind.i64.min=-9223372036854775808:=by decide
 have c:IntKind.i64.max=9223372036854775807:=by decide
 unfold qO;simp [Lit.wf] at b;omega
theorem aSl{a:Addr}{f:Value}(c:w.cell? (a.add (0*4))=some f):∃b d,a=⟨b,d,none⟩:=by
 obtain ⟨b,d,e⟩:=a;cases e with
 |none=>exact ⟨b,d,rfl⟩
 |some s=>
  simp only [Addr.add,World.cell?] at c;split at c<;>simp at c
theorem aIc(a c b:Nat):(⟨a,c,none⟩ : Addr).add b=⟨a,c+b,none⟩:=by unfold Addr.add;split<;>simp_all
theorem aSm{t:Type}{O:TypeId×Value->t}{Q:Nat}{u:List Value}{a3:DataW t×List MemPlace}(l:DataW.trod O zq w 0 (λ_=>true) true Q 25 u=some a3):∃a r f,u=[.slice a (List.length r) f]/\mL w a r/\r.length<=f/\(a=none->f=0):=by
 rcases Deep.open_slice Tryz.underlying25 l with ⟨rfl,rfl⟩|⟨a,o,f,C,b5,a8,a9,rfl,b0,S,b2,W,rfl,X⟩
 ·exact ⟨none,[],0,rfl,⟨λc l=>absurd l (by simp),λc l=>absurd l (by simp)⟩,by simp,λ_=>rfl⟩
 ·have V:C=f:=by simpa using W
  subst V;have I:zq.cellsOf 38=4:=by kernel_rfl
  have N:∀d,d<o->∃e:Rl,w.cell? (a.add (d*4))=some (.bool e.1)/\w.cell? (a.add (d*4+1))=some (.int .i64 e.2.1)/\w.cell? (a.add (d*4+2))=some (.int .i64 e.2.2.1)/\w.cell? (a.add (d*4+3))=some (.int .i64 e.2.2.2)/\qO e.2.1/\qO e.2.2.1/\qO e.2.2.2:=by
   intro d b1;obtain ⟨M,A,R⟩:=X d (by omega);rw [I] at A;obtain ⟨b3,U,m⟩:=World.cells?_some A;obtain ⟨a4,c,n,b4,_,Y,b⟩:=DataW.trod_struct Tryz.underlying38 R;match a4,Y,M,U with
   |[y0,y1,y2,y3],_,[v0,v1,v2,v3],_=>
    have g:=b 0 _ rfl;have i:=b 1 _ rfl;have j:=b 2 _ rfl;have k:=b 3 _ rfl;have H:zq.cellsOf 4=1:=by kernel_rfl
    have J:zq.cellsOf 3=1:=by kernel_rfl
    simp [H,J] at g i j k;obtain ⟨p,v,_⟩:=DataW.trod_bool Tryz.underlying4 g;obtain ⟨a5,x,_,a0⟩:=DataW.trod_int zh i;obtain ⟨a6,y,_,a1⟩:=DataW.trod_int zh j;obtain ⟨a7,z,_,a2⟩:=DataW.trod_int zh k;simp at v x y z;subst v x y z;have D:=m 0 (by omega);have E:=m 1 (by omega);have F:=m 2 (by omega);have G:=m 3 (by omega);rw [Deep.add_add] at D E F G;exact ⟨(p,a5,a6,a7),by simpa using D,by simpa using E,by simpa using F,by simpa using G,aD0 a0,aD0 a1,aD0 a2⟩
  obtain ⟨P,b⟩:=Deep.choose_lt N;refine ⟨some a,(List.range o).map P,C,by simp,⟨λc n=>?_,λc n=>?_⟩,by simpa using S,by simp⟩
  ·have q:c<o:=by simpa using n
   obtain ⟨p,Z,rfl⟩:=aSl (b 0 (by omega)).1;obtain ⟨g,i,j,k,_⟩:=b c q;rw [aIc] at g i j k;refine ⟨p,Z,rfl,?_⟩;simp only [zn,z4];exact ⟨g,by simpa [zb] using i,by simpa [zb] using j,by simpa [zb] using k⟩
  ·have q:c<o:=by simpa using n
   simp only [zn,z4];exact (b c q).2.2.2.2
end
