import Derived.Test.YtmelidkanelpbaaGreatDoorXSr7H
import Derived.Test.YtmelidkanelpbaaGreatDoorNumEqH
open Array renaming getElem?_eq_some_iff→zx,getElem?_eq_getElem→zq,getElem_modify_self→zp,size_modify→zm
open List renaming length_eq_zero_iff→zo,map_map→zl,mem_map→zk
open Nat renaming le_refl→zz,le_trans→zv,zero_le→zj
open Or renaming inr→zu,inl→zn
open Prod renaming fst→zs
namespace Go.Proofs.YtmelidkanelpbaaGreatDoor
open _root_.Go.Proofs.Tryz renaming prog→zt,results14→zr
open World renaming cell?→zy,alloc_heap_new→zw
set_option maxHeartbeats 8000000
set_option maxRecDepth 100000
open Go.RowKit Go.Shelf Go.WideMaps
variable{T:List (aK×Value)}{L:List Cd}{ks:List Nat}{B b n:Nat}{v vk vs x0 x1 x2 x3 x4:Value}{w:World}
def zU(w:World)(a:Nat):Nat:=match w.cell? ⟨a,2,none⟩ with|some (.slice _ n _)=>n|_=>0
theorem bN.steps{a:World}{d f:Nat}{e:Bool}(c:bN B a d f v vs vk L n T ks e):zU a d=T.length:=by obtain ⟨g,i,rfl⟩:=bA c.st.row;unfold zU;rw [c.cells.2.2.1]
def bF0(B o k l:Nat)(i:Nat->List (aK×Value)->List Nat->Bool->Prop)(w:World)(j:Ending)(f:World):Prop:=
 ∃(e:Nat) (p r q:Value) (g:List Cd) (m:Nat) (a:List (aK×Value)) (d:List Nat) (c:Bool),j=.returned (.int .i64 e)/\bN B f o k p r q g m a d c/\i e a d c/\a.length<=l+1/\Mv pG B w f
def aCc(B e d a:Nat)(c:Nat->List (aK×Value)->List Nat->Bool->Prop)(w wr:World):Prop:=
 ∃(v vs vk:Value) (L:List Cd) (n:Nat) (T:List (aK×Value)) (ks:List Nat) (b:Bool),bN B wr e d v vs vk L n T ks b/\cM a c L n T ks b/\xK L n T ks/\T.length<=a/\Mv pG B w wr/\B<=wr.heap.size
theorem bN.onest{a:World}{d l:Nat}{f:Value}{i:Bool}{p:aK×Value}(c:bN B w d l v vs vk L n T ks i)(q:w.grownBy a vs.ownBlock)(t:bR B w p.2 p.1.c)(u:a.ownsRow B 53 6 f (T.length+1) (iF T++gR p)):a.cell? ⟨d,2,none⟩=some vs/\a.frozen? ⟨d,2,none⟩=false/\bN B (a.setCell ⟨d,2,none⟩ f) d l v f vk L n (T++[p]) ks i/\Mv [76,53] B w (a.setCell ⟨d,2,none⟩ f):=by
 have j:Mv [53] B w a:=aGf c.st.row q (by simp);have g:=j.cells c.box (by decide);have s:=(zx.1 g).1;have k:Mv [76] B a (a.setCell ⟨d,2,none⟩ f):=Mv.of_grown (cN a ⟨d,2,none⟩ _) (λy r=>by cases r;exact ⟨c.base,_,_,g,by simp⟩);have e:Mv [76,53] B w (a.setCell ⟨d,2,none⟩ f):=(j.mono (by decide) (zz _)).trans (k.mono (by decide) (zz _));refine ⟨by simp [zy,g],by simp [World.frozen?,g],⟨?_,⟨e.cells c.heap.box (by decide),e.row c.heap.row (by decide),c.heap.base⟩,⟨?_,λx hq=>?_⟩,e.row c.kp (by decide),λo m=>⟨e.clause (c.cl o m).1 (by decide) (by decide),(c.cl o m).2⟩,c.base⟩,e⟩
 ·show (a.heap.modify d _)[d]?=_;rw [zq (by rw [zm];exact s),zp,(zx.1 g).2];rfl
 ·have:=k.row u (by decide);simpa [iF] using this
 ·rcases List.mem_append.1 hq with hq|hq
  ·exact e.clause (c.st.cl x hq) (by decide) (by decide)
  ·simp at hq;subst hq;exact e.clause t (by decide) (by decide)
theorem cM.cv{e:Nat}{a:Nat->List (aK×Value)->List Nat->Bool->Prop}{b:Bool}(c:cM e a L n T ks b):∀f∈L,∀d∈ks,kH (aE T d) f.c:=by cases c<;>assumption
theorem bF1(B f E A:Nat)(F:Nat->List (aK×Value)->List Nat->Bool->Prop)(w:World)(a:aCc B f E A F w w)(h2:A<=100):Calls zt 21 #[.pointer (some ⟨f,0,none⟩),.int .i64 (A:Nat)] w λt a1=>bF0 B f E A F w t a1:=by
 have c3:=aA a;clear a;go_enter Tryz.func21,Tryz.ntmps21;go_wp2;go_loopw [] (λwr=>aCc B f E A F w wr) (λwr=>A-zU wr f);case atStart=>exact c3.o
 case round=>
  obtain ⟨v,vs,vk,L,n,T,ks,b,J,b2,a0,g0,d9,b0⟩:=hrel;have h1:=a0.kl;have b9:=aA (bEb B f E v vs vk L n T ks b wr J b2.cv a0.k (by omega) a0.ll b0);have e1:=J.steps;have Y:=aA e1;have O:=aA b2;have z:=aA a0;have a2:=aA d9;clear J b2 a0 d9 e1 c3;go_wp2_with (first
   |(go_at_call 31;refine (aD b9).mono ?_)
   |go_in)
  clear b9;rintro t c ⟨b6,V,⟨i,rfl,u⟩|⟨f7,c8,i,rfl,u,D,d6⟩⟩
  ·have U:(b=false/\F 2 T ks false)\/(b=true/\(∀n (a:n<ks.length),∀f8∈dV T ks[n] (ks.take (n+1)),jH f8.1.c)/\(rF T ks->F 2 T ks true)/\(¬rF T ks->F 3 T ks true)):=by
    cases O.o with
    |sat _ a j=>exact zn ⟨rfl,j⟩
    |big _ a G R S=>exact zu ⟨rfl,G,R,S⟩
    |unsat s hs _ a=>rw [i] at a;cases a
    |out _ a=>rw [i] at a;cases a
    |take s hs _ a=>rw [i] at a;cases a
   have g:aB c (c.alloc (.cells #[.int .i64 0,.int .i64 0,.int .i64 0,.int .i64 0,.int .i64 0,.slice none 0 0] 53)):=(Below.refl _ c).alloc (zz _) _;have a5:=u.below g;have e4:aM (Calls zt 32 #[.pointer (some ⟨f,0,none⟩)] (c.alloc (.cells #[.int .i64 0,.int .i64 0,.int .i64 0,.int .i64 0,.int .i64 0,.slice none 0 0] 53)) λt a1=>∃C:Bool,t=.returned (.bool C)/\F (if C then 2 else 3) T ks b/\Below (c.alloc (.cells #[.int .i64 0,.int .i64 0,.int .i64 0,.int .i64 0,.int .i64 0,.slice none 0 0] 53)).heap.size (c.alloc (.cells #[.int .i64 0,.int .i64 0,.int .i64 0,.int .i64 0,.int .i64 0,.slice none 0 0] 53)) a1):=aA (by
    rcases U with ⟨rfl,j⟩|⟨rfl,G,R,S⟩
    ·exact (bEf B f E b6 vs vk [] n T ks _ a5).mono λt a1 ⟨b3,U⟩=>⟨true,b3,j,U⟩
    ·refine (bEz B f E b6 vs vk [] n T ks _ a5 (zv (zv b0 V.size) g.size) z.o.t z.o.k (by omega) G).mono ?_;rintro t a1 ⟨C,b3,D,U⟩;refine ⟨C,b3,?_,U⟩;cases C with
     |true=>exact R (D.1 rfl)
     |false=>exact S (λa=>Bool.noConfusion (D.2 a)))
   have c7:=aA a5;have W:=aA g;have c5:=aA V;unfold tS iJ;clear a5 g V u i O z Y U;go_wp2_with (first
    |(go_at_call 32;refine (aD e4).mono ?_;rintro t e ⟨C,rfl,j,H⟩;have I:=aA H;have P:=aA j;clear H j;cases C)
    |go_in)
   ·go_ret;exact ⟨3,_,_,_,_,_,_,_,_,rfl,c7.o.below I.o,P.o,by omega,((a2.o.trans (c5.o.mono (by decide) (zz _))).trans (Mv.of_below W.o)).trans (Mv.of_below I.o)⟩
   ·go_ret;exact ⟨2,_,_,_,_,_,_,_,_,rfl,c7.o.below I.o,P.o,by omega,((a2.o.trans (c5.o.mono (by decide) (zz _))).trans (Mv.of_below W.o)).trans (Mv.of_below I.o)⟩
  ·obtain ⟨j1,i7,i8,i9,j0,x,h5,y,i6,h7,k⟩:=f7;simp only at D d6;subst d6;obtain ⟨a7,a8,rfl⟩:=bA u.st.row;have X:=aA (a2.o.trans (V.mono (S':=pG) (by decide) (zz _)));have d2:B<=c.heap.size:=zv b0 V.size;unfold tS;clear V a2;cases O.o with
   |sat _ a j=>rw [i] at a;cases a
   |big _ a=>rw [i] at a;cases a
   |out _ a hc0 hl j=>
    rw [i] at a;cases a;have g:∀d,aB c (c.alloc d):=λd=>(Below.refl _ c).alloc (zz _) _
    have Z:∀d,(c.alloc d).cell? ⟨f,2,none⟩=some (.slice a7 T.length a8):=λd=>(u.below (g d)).cells.2.2.1
    have f6:((k.length:Int)==0)=false:=by
     have:k.length≠0:=λt=>hc0 (zo.1 t)
     simpa using this
    have a3:=aA u;have P:=aA j;have W:=aA g;clear u i j O z Y g D hc0;rw [hl] at Z;go_wp2;go_ret;exact ⟨3,_,_,_,_,_,_,_,_,rfl,a3.o.below (W.o _),P.o,by omega,X.o.trans (Mv.of_below (W.o _))⟩
   |unsat s hs _ a hc0 j=>
    rw [i] at a;cases a;obtain ⟨r,l,m,o,q,C⟩:=s;simp only [tU] at hs;obtain ⟨⟨rfl,rfl,rfl,rfl,rfl⟩,rfl⟩:=hs;simp only at hc0 j;subst hc0;have h0:T.length<=1000:=by omega
    have c1:=aA D;have a3:=aA u;have P:=aA j;simp only [List.length_nil] at *;clear u i O z Y D j;go_upto_region 7 with (fail);obtain ⟨e,e3,H,M⟩ : ∃e,c.alloc (.cells #[.int .i64 r,.int .i64 l,.int .i64 m,.int .i64 o,.int .i64 q,.slice x 0 y] 53)=e/\aB c e/\e.heap[c.heap.size]?=some (.cells #[.int .i64 r,.int .i64 l,.int .i64 m,.int .i64 o,.int .i64 q,.slice x 0 y] 53 (0,0)):=⟨_,rfl,(Below.refl _ c).alloc (zz _) _,zw c _⟩;simp only [e3];clear e3;have J:=a3.o.below H;have Z:=J.cells.2.2.1;have f2:∀d,(e.alloc d).cell? ⟨f,2,none⟩=some (.slice a7 T.length a8):=λd=>aC ((Below.refl _ e).alloc (zz _) d) Z
    have e8:e.cell? ⟨c.heap.size,0,none⟩=some (.int .i64 r):=by simp [zy,M]
    have e9:e.cell? ⟨c.heap.size,1,none⟩=some (.int .i64 l):=by simp [zy,M]
    have Q:e.cell? ⟨c.heap.size,2,none⟩=some (.int .i64 m):=by simp [zy,M]
    have f0:e.cell? ⟨c.heap.size,3,none⟩=some (.int .i64 o):=by simp [zy,M]
    have f1:e.cell? ⟨c.heap.size,4,none⟩=some (.int .i64 q):=by simp [zy,M]
    have c9:e.cell? ⟨c.heap.size,5,none⟩=some (.slice x 0 y):=by simp [zy,M]
    have f5:=H.size;have b1:=J.below (aU ⟨1,rfl⟩);have e0:e.drew.ownsRow B 53 6 (.slice a7 T.length a8) T.length (iF T):=b1.st.row;have c4:=aA b1;have I:=aA H;have h4:zt.follows .mixedOrders=true:=by kernel_rfl
    have c2:=aA ((c1.o.below H).below (aU ⟨1,rfl⟩));clear J M b1 H c1 a3;refine tK ?_;go_region_law (refine oU ?g1 (.tmp 31) (.tmp 33) 27 53 ?g2 (.agg #[.int .i64 0,.int .i64 0,.int .i64 0,.int .i64 0,.int .i64 0,.slice none 0 0]) 6 64 Tryz.underlying27 aC8 ?g3 ?g4 ?g5 B _ T.length (iF T) ?g6 (e0.alloc _) ?g7 ?g8 e.heap.size 1 (gR (⟨r,l,m,o,q,[]⟩,.slice x 0 y)) ?g9 ?g10 (aLd e.drew #[.int .i64 r,.int .i64 l,.int .i64 m,.int .i64 o,.int .i64 q,.slice x 0 y] 53) (aC9 (⟨r,l,m,o,q,[]⟩,.slice x 0 y) rfl) ?_;(case g1=>rfl);(case g2=>rfl);(case g3=>rfl);(case g4=>decide);(case g5=>decide);(case g6=>rfl);(case g7=>omega);(case g8=>simp;omega);(case g9=>rfl);(case g10=>rfl);intro h9 i5 b4 d4;obtain ⟨f3,f4,d3,d7⟩:=bN.onest (p:=(⟨r,l,m,o,q,[]⟩,.slice x 0 y)) (c4.o.below ((Below.refl _ e.drew).alloc (zz _) _)) d4 (c2.o.below ((Below.refl _ e.drew).alloc (zz _) _)) b4;have e5:=aA d3;have c6:=aA d7;obtain ⟨i1,i2,rfl⟩:=bA b4;clear b4 d4 d3 d7);all_goals
     refine qT ?_;have e6:=aA ((X.o.trans (Mv.of_below (I.o.trans (((aU (w1:=e.drew) ⟨1,rfl⟩).alloc (zz _) (.cells #[.int .i64 r,.int .i64 l,.int .i64 m,.int .i64 o,.int .i64 q,.slice x 0 y] 53)).mono f5)))).trans (c6.o.mono (S':=pG) (by decide) (zz _)));clear f3 f4 c6 c4 I e8 e9 Q f0 f1 c9 Z f2 e0 c2 X;go_wp2_with fail;go_ret;exact ⟨1,_,_,_,_,_,_,_,_,rfl,e5.o,P.o,by simp;omega,e6.o⟩
   |take s hs _ a hc0 hl hdv G hLF hnF next=>
    rw [i] at a;cases a;obtain ⟨r,l,m,o,q,C⟩:=s;simp only [tU] at hs;obtain ⟨⟨rfl,rfl,rfl,rfl,rfl⟩,rfl⟩:=hs;simp only at hc0 hdv G hLF hnF next
    have g:∀d,aB c (c.alloc d):=λd=>(Below.refl _ c).alloc (zz _) _
    have Z:∀d,(c.alloc d).cell? ⟨f,2,none⟩=some (.slice a7 T.length a8):=λd=>(u.below (g d)).cells.2.2.1
    have f6:((k.length:Int)==0)=false:=by
     have:k.length≠0:=λt=>hc0 (zo.1 t)
     simpa using this
    have h3:((T.length:Int)==(A:Int))=false:=by simp;omega
    have d5:aS k=true:=z.o.l _ (xJ _ i).1;have a9:=aA (λd=>bEd B f E b6 _ vk c8 n T ks b ⟨r,l,m,o,q,k⟩ x y (c.alloc d) (u.below (g d)) (D.below (g d)) d5 z.o.t hdv z.o.k (by omega) (by omega) (zv d2 (g d).size) _ rfl G hLF hnF);have e7:aM (∀N,(∃b5 b8 b7 a4 a6 Q,bN B N f E b5 b8 b7 a4 a6 (T++[(⟨r,l,m,o,q,k⟩,.slice x k.length y)]) (bY T ks k) Q/\bI (dV (T++[(⟨r,l,m,o,q,k⟩,.slice x k.length y)]) T.length (bY T ks k)) c8 n b a4 a6 Q/\∃d,Mv pG B (c.alloc d) N)->aCc B f E A F w N/\A-zU N f<A-zU wr f):=aA λN ⟨b5,b8,b7,a4,a6,Q,d0,R,d,S⟩=>by
     refine ⟨⟨b5,b8,b7,a4,a6,_,_,Q,d0,next _ _ _ R,z.o.take ⟨r,l,m,o,q,k⟩ _ rfl i G hLF hnF R,by simp;omega,(X.o.trans (Mv.of_below (g d))).trans S,zv (zv d2 (g d).size) S.size⟩,?_⟩;rw [d0.steps,Y.o];simp;omega
    unfold qI at a9;simp only at a9;clear u i O z Y g D hc0 G hLF hnF next d5 hl X hdv
    generalize k.length=cl at *;go_wp2_with (first
     |(go_at_call 33;refine (aD a9 _).mono ?_;rintro t N ⟨⟨h8,rfl⟩,i0,i4,i3,f9,h6,c9,d1,e2,d8⟩;have c0:=aA (e7.o N ⟨_,_,_,_,_,_,d1,e2,_,d8⟩);clear d1 e2 d8)
     |go_in)
    go_roundw;case rel=>exact c0.o.1
    case measure=>exact c0.o.2
def aCd(c:Nat->List (aK×Value)->List Nat->Bool->Prop)(a:Nat)(T:List (aK×Value))(ks:List Nat)(b:Bool):Prop:=c a T ks b/\((a=1/\1<=T.length)\/a=2\/a=3)
theorem cM.tag{e:Nat}{d:Nat->List (aK×Value)->List Nat->Bool->Prop}{b:Bool}(a:cM e d L n T ks b):cM e (aCd d) L n T ks b:=by
 induction a with
 |sat hv a hq=>exact cM.sat hv a ⟨hq,zu (zn rfl)⟩
 |big hv a hF h2 h3=>exact cM.big hv a hF (λc=>⟨h2 c,zu (zn rfl)⟩) (λc=>⟨h3 c,zu (zu rfl)⟩)
 |unsat s hs hv a hc hq=>exact cM.unsat s hs hv a hc ⟨hq,zn ⟨rfl,by simp⟩⟩
 |out hv a hc hl hq=>exact cM.out hv a hc hl ⟨hq,zu (zu rfl)⟩
 |take s hs hv a hc hl hd hF hLF hnF _ ih=>exact cM.take s hs hv a hc hl hd hF hLF hnF ih
theorem bF2(B a o:Nat)(v vk:Value)(L:List Cd)(n:Nat)(T:List (aK×Value))(ks:List Nat)(f:Bool)(g:Option Addr)(c i:Nat)(w:World)(j:bN B w a o v (.slice g c i) vk L n T ks f):Calls zt 20 #[.pointer (some ⟨a,0,none⟩),.int .i64 3] w λm d=>m=.returned (.agg #[.int .i64 3,.slice g c i,.slice none 0 0,.int .i64 c,.bool f])/\aB w d:=by
 obtain ⟨_,_,k,_,l⟩:=j.cells;have p:=λe=>aC ((Below.refl w.heap.size w).alloc (zz _) e) k
 have q:=λe=>aC ((Below.refl w.heap.size w).alloc (zz _) e) l
 clear j;go_enter Tryz.func20,Tryz.ntmps20;go_wp2_with fail;go_region_held3 (λd=>d.cell? ⟨a,2,none⟩=some (.slice g c i)/\d.cell? ⟨a,4,none⟩=some (.bool f)) (go_keep) (fail);all_goals
  go_wp2_with fail;go_returns;refine ⟨rfl,?_⟩;exact (((Below.refl _ w).alloc (zz _) _).alloc (by simp) _).trans (Below.mono (aU ⟨1,rfl⟩) (by simp;omega))
def xL(c:Nat)(vs vk:Value)(a:Nat)(b:Bool):Value:=.agg #[.int .i64 c,vs,vk,.int .i64 a,.bool b]
structure zV(B:Nat)(w:World)(vd:Nat)(vs vk:Value)(used:Nat)(T:List (aK×Value))(ks:List Nat):Prop where
 st:gS B w vs T
 kp:(vd=2/\dO B w vk ks)\/(vd≠2/\vk=.slice none 0 0)
 us:used=if vd=1 then T.length-1 else T.length
theorem bF3(B k o:Nat)(v vs vk:Value)(L:List Cd)(n f:Nat)(T:List (aK×Value))(ks:List Nat)(g:Bool)(w:World)(a:bN B w k o v vs vk L n T ks g)(u:(f=1/\1<=T.length)\/f=2\/f=3)(s:T.length<=1000000):Calls zt 20 #[.pointer (some ⟨k,0,none⟩),.int .i64 f] w λm l=>∃d q e i p j r,m=.returned (xL f (.slice d q e) (.slice i p j) r g)/\zV B l f (.slice d q e) (.slice i p j) r T ks/\aB w l:=by
 obtain ⟨d,e,rfl⟩:=bA a.st.row;obtain ⟨i,j,rfl⟩:=a.kp.shape;rcases u with ⟨rfl,t⟩|rfl|rfl
 ·refine (bEg B k o v _ L n T ks g d T.length e w a t s).mono ?_;rintro m l ⟨rfl,c⟩;exact ⟨d,T.length,e,none,0,0,_,rfl,⟨(a.below c).st,zu ⟨by decide,rfl⟩,rfl⟩,c⟩
 ·refine (bEh B k o v L n T ks g d i T.length e _ j w a).mono ?_;rintro m l ⟨rfl,c⟩;exact ⟨d,T.length,e,i,_,j,_,rfl,⟨(a.below c).st,zn ⟨rfl,(a.below c).kp⟩,rfl⟩,c⟩
 ·refine (bF2 B k o v _ L n T ks g d T.length e w a).mono ?_;rintro m l ⟨rfl,c⟩;exact ⟨d,T.length,e,none,0,0,_,rfl,⟨(a.below c).st,zu ⟨by decide,rfl⟩,rfl⟩,c⟩
theorem aP7{d f:Type}{e:d->List f}:∀{a:List d} {c:d},(a.flatMap e).Nodup->c∈a->(e c).Nodup
 |y::a,c,h,hx=>by
  rw [List.flatMap_cons,List.nodup_append] at h;rcases List.mem_cons.1 hx with rfl|hx
  ·exact h.1
  ·exact aP7 h.2.1 hx
theorem lC.cls{f:List (List (Lt×Value)×Value)}(a:lC B w v f):sM B w v (f.map λd=>(d.1.map zs,d.2)):=by
 refine ⟨?_,λd g=>?_⟩
 ·have:=a.mem.1;simpa [zl,Function.comp_def] using this
 ·obtain ⟨e,c,rfl⟩:=zk.1 g;refine ⟨e.1,rfl,(a.mem.2 e c).1.1,(a.mem.2 e c).1.2,?_⟩;have:=aP7 a.atoms c;simpa [List.filterMap_map,Function.comp_def] using this
theorem sM.fsts(c:List (List (Lt×Value)×Value)):(c.map λa=>(a.1.map zs,a.2)).map zs=c.map λa=>a.1.map zs:=by simp [zl,Function.comp_def]
def A5(w:World)(b:Nat)(x0 x1 x2 x3 x4:Value):Prop:=w.heap[b]?=some (.cells #[x0,x1,x2,x3,x4] 30 (0,0))
def oH(w:World)(b:Nat)(x0 x1 x2 x3 x4:Value):World:=(((((w.setCell ⟨b,0,none⟩ x0).setCell ⟨b,1,none⟩ x1).setCell ⟨b,2,none⟩ x2).setCell ⟨b,3,none⟩ x3).setCell ⟨b,4,none⟩ x4)
theorem A5.cells(a:A5 w b x0 x1 x2 x3 x4):w.cell? ⟨b,0,none⟩=some x0/\w.cell? ⟨b,1,none⟩=some x1/\w.cell? ⟨b,2,none⟩=some x2/\w.cell? ⟨b,3,none⟩=some x3/\w.cell? ⟨b,4,none⟩=some x4:=by refine ⟨?_,?_,?_,?_,?_⟩<;>simp [zy,show w.heap[b]?=_ from a]
theorem A5.frz(a:A5 w b x0 x1 x2 x3 x4)(c:Nat):w.frozen? ⟨b,c,none⟩=false:=by simp [World.frozen?,show w.heap[b]?=_ from a]
theorem A5.put(c:A5 w b x0 x1 x2 x3 x4)(g i j l m:Value):A5 (oH w b g i j l m) b g i j l m/\w.grownBy (oH w b g i j l m) (some b):=by
 have d:∀(a:World) (f:Array Value) (k:Nat) (v:Value),a.heap[b]?=some (.cells f 30 (0,0))->(a.setCell ⟨b,k,none⟩ v).heap[b]?=some (.cells (f.setIfInBounds k v) 30 (0,0)):=λa f k v e=>by
  have o:=(zx.1 e).1;show (a.heap.modify b _)[b]?=_;rw [zq (by rw [zm];exact o),zp,(zx.1 e).2];rfl
 constructor
 ·unfold A5 oH;rw [d _ _ 4 _ (d _ _ 3 _ (d _ _ 2 _ (d _ _ 1 _ (d _ _ 0 _ c))))];simp
 ·unfold oH;have c:∀(a:World) (k:Nat) (v:Value),w.grownBy a (some b)->w.grownBy (a.setCell ⟨b,k,none⟩ v) (some b):=λa k v e=>lP e (cN a ⟨b,k,none⟩ v)
  exact c _ _ _ (c _ _ _ (c _ _ _ (c _ _ _ (c _ _ _ ⟨rfl,rfl,rfl,zz _,λ_ _ _=>rfl⟩))))
theorem xM{c d:World}(a:aB w c)(g:c.grownBy d (some b))(f:w.heap.size<=b):aB w d:=
 a.grown g a.size (λi e=>by cases e;exact f)
theorem gS.low{a:Nat}(c:gS B w v T)(d:a<=B):gS a w v T:=⟨iP c.row d,λp e=>(c.cl p e).low d⟩
theorem zV.kept{S:List TypeId}{c:Nat}{g:World}{f:Nat}{e:Nat}(h:zV B w f vs vk e T ks)(d:c<=B)(k:cO S w g)(i:53∉S)(j:86∉S)(l:117∉S)(m:3∉S):zV c g f vs vk e T ks:=
 ⟨(h.st.low d).kept k i j l,by rcases h.kp with ⟨a,b⟩|h;exact zn ⟨a,k.row (iP b d) m⟩;exact zu h,h.us⟩
def rG:Value:=.agg #[.int .i64 0,.slice none 0 0,.slice none 0 0,.int .i64 0,.bool false]
def xN(l:ByteArray)(c:Int)(j:List (List Lt)->Nat->List (aK×Value)->List Nat->Bool->Prop)(w:World)(d:Ending)(i:World):Prop:=
 ∃f k a,oL l f k a/\aB w i/\((a≠0/\d=.returned (.tuple #[rG,.int .i64 a]))\/(a=0/\¬(1<=c/\c<=100)/\d=.returned (.tuple #[rG,.int .i64 7]))\/
  (a=0/\1<=c/\c<=100/\∃e vs vk g b T ks,d=.returned (.tuple #[xL e vs vk g b,.int .i64 0])/\zV w.heap.size i e vs vk g T ks/\aCd (j f) e T ks b))
theorem bF4(m:ByteArray)(e:Int)(q:List (List Lt)->Nat->List (aK×Value)->List Nat->Bool->Prop)(w:World)(f2:m.size<=140737488355328)(c6:∀a e3,oL m a e3 0->(∀a7∈a,aS a7=true)/\a.length<=1000/\∀c:Nat,e=c->1<=c->c<=100->∀L n,bI (gL a) [] 0 false L n false->cM c (q a) L n [] [] false):Calls zt 14 #[.string m,.int .i64 e] w λH g2=>xN m e q w H g2:=by
 obtain ⟨d,f3,Z,a4,h1⟩ : ∃d,w.alloc (.cells #[.int .i64 0,.slice none 0 0,.slice none 0 0,.int .i64 0,.bool false] 30)=d/\aB w d/\A5 d w.heap.size (.int .i64 0) (.slice none 0 0) (.slice none 0 0) (.int .i64 0) (.bool false)/\d.heap.size=w.heap.size+1:=⟨_,rfl,(Below.refl _ w).alloc (zz _) _,zw w _,by simp⟩;have p:=aA (aOy m d f2);have X:=aA c6;clear c6;go_enter Tryz.func14,Tryz.ntmps14;go_upto_region 1 with (fail);clear f3;go_wp2_with (first
  |(go_at_call 18;refine (aD p).mono ?_)
  |go_in)
 clear p;rintro H f ⟨v,a6,g5,I,rfl,k,J,x⟩;have g:A5 f w.heap.size (.int .i64 0) (.slice none 0 0) (.slice none 0 0) (.int .i64 0) (.bool false):=(x.block _ (by omega)).trans a4;have y:aB w f:=Z.trans (x.mono (by omega));have b3:=x.size;obtain ⟨h3,h4,rfl⟩:=bA J.mem.1;have b9:=aA k;have c2:=aA g;have b5:=aA y;by_cases a0:I=0
 ·subst a0;obtain ⟨z,a2,a3⟩:=X.o _ _ k;by_cases a1:1<=e/\e<=100
  ·obtain ⟨c,rfl⟩ : ∃c:Nat,e=c:=⟨e.toNat,by omega⟩;have e8:1<=c:=by omega
   have d0:c<=100:=by omega
   have g6:decide ((c:Int)<1)=false:=by simp;omega
   have g7:decide ((100:Int)<(c:Int))=false:=by simp;omega
   have d2:∀a7∈a6.map (λQ=>Q.1.map zs),aS a7=true:=z;have p:=aA (bEk d.heap.size _ _ f J.cls (λQ j=>z Q.1 (by
    obtain ⟨f8,f1,rfl⟩:=zk.1 j;exact zk.2 ⟨f8,f1,rfl⟩)) (by simpa using a2) b3)
   rw [sM.fsts] at p;obtain ⟨a,f0⟩ : ∃a,(a6.map λQ=>Q.1.map zs)=a:=⟨_,rfl⟩;rw [f0] at p a3 d2 a2 z k;have c1:aM (∀s j o,xG d.heap.size f s j a a.length o->aCc d.heap.size s j c (aCd (q a)) o o):=aA λs j o ⟨h2,c3,d5,e5,Y,a8⟩=>by
    have e7:(gL a).length=a.length:=by simp [gL]
    rw [show (gL a).take a.length=gL a by rw [<-e7,List.take_length]] at Y;have e9:=bI.len _ Y;simp at e9;refine ⟨_,_,_,c3,d5,[],[],false,e5,(a3 c rfl e8 d0 c3 d5 Y).tag,⟨λg4 f4=>?_,by simp,by simp,by simp,by omega,by omega⟩,by simp,Mv.refl _ _ _,zv b3 a8.size⟩;rcases Y.mem _ g4 f4 with e4|⟨h5,d3,_,_,f5⟩
    ·simp at e4
    ·rw [f5];simp only [gL,List.mem_mapIdx] at d3;obtain ⟨f6,b0,rfl⟩:=d3;exact z _ (List.getElem_mem b0)
   have c0:=aA k;clear k a4 g J Z x y X z a2 a3 d2 b9 a1;generalize a6.length=qn at *;go_wp2_with (first
    |(go_at_call 19;refine (aD p).mono ?_)
    |go_in)
   rintro H o ⟨s,j,rfl,b2⟩;have b6:=aA (show Mv pG d.heap.size f o by
    obtain ⟨_,_,_,_,_,a8⟩:=b2;exact a8.mono (by decide) (zz _))
   have b4:=aA (bF1 d.heap.size s j c (aCd (q a)) o (c1.o s j o b2) d0);clear b2 c1 p;go_wp2_with (first
    |(go_at_call 21;refine (aD b4).mono ?_)
    |go_in)
   rintro H g3 ⟨t,f9,g1,g0,e2,f7,c4,d4,r,rfl,c7,b1,e6,d1⟩;have b7:=aA (b6.o.trans d1);have a5:=aA (bF3 d.heap.size s j f9 g1 g0 e2 f7 t c4 d4 r g3 c7 b1.2 (by omega));unfold xL at a5;have b8:=aA b1;clear c7 b1 e6 d1 b4 b6;go_wp2_with (first
    |(go_at_call 20;refine (aD a5).mono ?_)
    |go_in)
   rintro H R ⟨U,W,V,N,P,O,G,rfl,c5,c8⟩;have a9:Mv pG d.heap.size f R:=b7.o.trans (Mv.of_below c8);have M:A5 R w.heap.size (.int .i64 0) (.slice none 0 0) (.slice none 0 0) (.int .i64 0) (.bool false):=a9.cells c2.o (by decide);have c9:aB w R:=b5.o.trans ((a9.below b3).mono (by omega));obtain ⟨d6,d7,d8,d9,e0⟩:=M.cells;have e1:=M.frz;obtain ⟨l,i⟩:=M.put (.int .i64 t) (.slice U W V) (.slice N P O) (.int .i64 G) (.bool r);obtain ⟨A,C,D,E,F⟩:=l.cells;have u:aM (xN m c q w (.returned (.tuple #[xL t (.slice U W V) (.slice N P O) G r,.int .i64 0])) (oH R w.heap.size (.int .i64 t) (.slice U W V) (.slice N P O) (.int .i64 G) (.bool r))):=aA
    ⟨a,_,_,c0.o,xM c9 i (zz _),zu (zu ⟨rfl,by omega,by omega,t,_,_,G,r,c4,d4,rfl,c5.kept (by omega) (Mv.of_grown (S:=[30]) (B:=0) i (λf6 b0=>by cases b0;exact ⟨zj _,_,_,M,by simp⟩)).kps (by decide) (by decide) (by decide) (by decide),b8.o⟩)⟩
   clear c5 c8 a9 M c9 l i a5 b7 b8 c0 b5 c2;go_wp2_with (fail);refine bodyPost_ret (v:=.tuple #[xL t (.slice U W V) (.slice N P O) G r,.int .i64 0]) (w:=oH R w.heap.size (.int .i64 t) (.slice U W V) (.slice N P O) (.int .i64 G) (.bool r)) (by simp [results,zr,go_sem,A,C,D,E,F,xL];try rfl) rfl ?_;exact u.o
  ·have hl3:e<1\/100<e:=by omega
   obtain ⟨d6,d7,d8,d9,e0⟩:=g.cells;have e1:=g.frz;obtain ⟨l,i⟩:=g.put (.int .i64 0) (.slice none 0 0) (.slice none 0 0) (.int .i64 0) (.bool false);obtain ⟨A,C,D,E,F⟩:=l.cells;have u:aM (xN m e q w (.returned (.tuple #[rG,.int .i64 7])) (oH f w.heap.size (.int .i64 0) (.slice none 0 0) (.slice none 0 0) (.int .i64 0) (.bool false))):=aA ⟨_,_,_,k,xM y i (zz _),zu (zn ⟨rfl,a1,rfl⟩)⟩;clear k a4 g l i J Z x y X z a2 a3 b9;rcases hl3 with hl3|hl3
   ·clear a1;go_wp2_with (fail);refine bodyPost_ret (v:=.tuple #[rG,.int .i64 7]) (w:=oH f w.heap.size (.int .i64 0) (.slice none 0 0) (.slice none 0 0) (.int .i64 0) (.bool false)) (by simp [results,zr,go_sem,A,C,D,E,F,rG];try rfl) rfl ?_;exact u.o
   ·have h0:decide (e<1)=false:=by simp;omega
    clear a1;go_wp2_with (fail);refine bodyPost_ret (v:=.tuple #[rG,.int .i64 7]) (w:=oH f w.heap.size (.int .i64 0) (.slice none 0 0) (.slice none 0 0) (.int .i64 0) (.bool false)) (by simp [results,zr,go_sem,A,C,D,E,F,rG];try rfl) rfl ?_;exact u.o
 ·have g8:(I==0)=false:=by simpa using a0
  have g9:(I != 0)=true:=by simpa using a0
  obtain ⟨d6,d7,d8,d9,e0⟩:=g.cells;have e1:=g.frz;obtain ⟨l,i⟩:=g.put (.int .i64 0) (.slice none 0 0) (.slice none 0 0) (.int .i64 0) (.bool false);obtain ⟨A,C,D,E,F⟩:=l.cells;have u:aM (xN m e q w (.returned (.tuple #[rG,.int .i64 I])) (oH f w.heap.size (.int .i64 0) (.slice none 0 0) (.slice none 0 0) (.int .i64 0) (.bool false))):=aA ⟨_,_,_,k,xM y i (zz _),zn ⟨a0,rfl⟩⟩;clear k a4 g l i J Z x y X;go_wp2_with (fail);refine bodyPost_ret (v:=.tuple #[rG,.int .i64 I]) (w:=oH f w.heap.size (.int .i64 0) (.slice none 0 0) (.slice none 0 0) (.int .i64 0) (.bool false)) (by simp [results,zr,go_sem,A,C,D,E,F,rG];try rfl) rfl ?_;exact u.o
theorem aGn(q:ByteArray)(x:Int)(y:List (List Lt)->Nat->List (aK×Value)->List Nat->Bool->Prop)(w:World)(a2:q.size<=140737488355328)(Q:∀e Y,oL q e Y 0->(∀Z∈e,aS Z=true)/\e.length<=1000/\∀D:Nat,x=D->1<=D->D<=100->∀L n,bI (gL e) [] 0 false L n false->cM D (y e) L n [] [] false):Calls zt 9 #[.string q,.int .i64 x] w λG b1=>xN q x y w G b1:=by
 obtain ⟨r,a3,R,U,b2⟩ : ∃r,w.alloc (.cells #[.int .i64 0,.slice none 0 0,.slice none 0 0,.int .i64 0,.bool false] 30)=r/\aB w r/\A5 r w.heap.size (.int .i64 0) (.slice none 0 0) (.slice none 0 0) (.int .i64 0) (.bool false)/\r.heap.size=w.heap.size+1:=⟨_,rfl,(Below.refl _ w).alloc (zz _) _,zw w _,by simp⟩;have N:=aA (bF4 q x y r a2 Q);clear Q;go_enter Tryz.func9,Tryz.ntmps9;go_upto_region 1 with (fail);clear a3;go_wp2_with (first
  |(go_at_call 14;refine (aD N).mono ?_)
  |go_in)
 clear N;rintro G E ⟨e,F,H,C,M,O⟩;have g:A5 E w.heap.size (.int .i64 0) (.slice none 0 0) (.slice none 0 0) (.int .i64 0) (.bool false):=(M.block _ (by omega)).trans U;have A:aB w E:=R.trans (M.mono (by omega));obtain ⟨m,i,l,j,a,d,c,o,p,z,rfl,P⟩ : ∃(m:Int) (i:Option Addr) (l j:Nat) (a:Option Addr) (d c:Nat) (o:Int) (p:Bool) (z:Int),G=.returned (.tuple #[.agg #[.int .i64 m,.slice i l j,.slice a d c,.int .i64 o,.bool p],.int .i64 z])/\xN q x y w (.returned (.tuple #[.agg #[.int .i64 m,.slice i l j,.slice a d c,.int .i64 o,.bool p],.int .i64 z])) (oH E w.heap.size (.int .i64 m) (.slice i l j) (.slice a d c) (.int .i64 o) (.bool p)):=by
  rcases O with ⟨s,rfl⟩|⟨s,I,rfl⟩|⟨s,I,a0,W,vs,vk,V,b,T,ks,rfl,J,a1⟩
  ·obtain ⟨u,f⟩:=g.put (.int .i64 0) (.slice none 0 0) (.slice none 0 0) (.int .i64 0) (.bool false);exact ⟨_,_,_,_,_,_,_,_,_,_,rfl,e,F,H,C,xM A f (zz _),zn ⟨s,rfl⟩⟩
  ·obtain ⟨u,f⟩:=g.put (.int .i64 0) (.slice none 0 0) (.slice none 0 0) (.int .i64 0) (.bool false);exact ⟨_,_,_,_,_,_,_,_,_,_,rfl,e,F,H,C,xM A f (zz _),zu (zn ⟨s,I,rfl⟩)⟩
  ·obtain ⟨a9,b0,rfl⟩:=bA J.st.row;obtain ⟨a,d,c,rfl⟩ : ∃a d c,vk=.slice a d c:=by
    rcases J.kp with ⟨_,t⟩|⟨_,t⟩
    ·obtain ⟨a,c,rfl⟩:=bA t;exact ⟨_,_,_,rfl⟩
    ·exact ⟨_,_,_,t⟩
   obtain ⟨u,f⟩:=g.put (.int .i64 W) (.slice a9 T.length b0) (.slice a d c) (.int .i64 V) (.bool b);exact ⟨_,_,_,_,_,_,_,_,_,_,rfl,e,F,H,C,xM A f (zz _),zu (zu ⟨s,I,a0,W,_,_,V,b,T,ks,rfl,J.kept (by omega) (Mv.of_grown (S:=[30]) (B:=0) f (λk t=>by cases t;exact ⟨zj _,_,_,g,by simp⟩)).kps (by decide) (by decide) (by decide) (by decide),a1⟩)⟩
 obtain ⟨b3,b4,b5,b6,b7⟩:=g.cells;have b8:=g.frz;obtain ⟨u,f⟩:=g.put (.int .i64 m) (.slice i l j) (.slice a d c) (.int .i64 o) (.bool p);obtain ⟨a4,a5,a6,a7,a8⟩:=u.cells;have X:=aA P;clear P C O U g A R M u f;go_wp2_with (fail);refine bodyPost_ret (v:=.tuple #[.agg #[.int .i64 m,.slice i l j,.slice a d c,.int .i64 o,.bool p],.int .i64 z]) (w:=oH E w.heap.size (.int .i64 m) (.slice i l j) (.slice a d c) (.int .i64 o) (.bool p)) (by simp [results,Tryz.results9,go_sem,a4,a5,a6,a7,a8];try rfl) rfl ?_;exact X.o
theorem aP8:∀(T:List (aK×Value)) (a c:Nat) (d:a<T.length),c<6->(iF T)[a*6+c]?=(gR T[a])[c]?
 |[],a,_,d,_=>by simp at d
 |x::T,0,c,_,hm=>by
  rw [show iF (x::T)=gR x++iF T from rfl,List.getElem?_append_left (by simp [gR];omega)];simp
 |x::T,a+1,c,d,hm=>by
  have:=aP8 T a c (by simpa using d) hm;rw [show iF (x::T)=gR x++iF T from rfl,List.getElem?_append_right (by simp [gR];omega),show (a+1)*6+c-(gR x).length=a*6+c by simp [gR];omega,this];simp
theorem gS.cells{W:World}{a i:Nat}(f:gS B W (.slice (some ⟨a,0,none⟩) T.length i) T){k:Nat}(g:k<T.length):W.cell? ⟨a,k*6,none⟩=some (.int .i64 T[k].1.r)/\W.cell? ⟨a,k*6+1,none⟩=some (.int .i64 T[k].1.a)/\W.cell? ⟨a,k*6+2,none⟩=some (.int .i64 T[k].1.b)/\W.cell? ⟨a,k*6+3,none⟩=some (.int .i64 T[k].1.i)/\W.cell? ⟨a,k*6+4,none⟩=some (.int .i64 T[k].1.j)/\∃d e,W.cell? ⟨a,k*6+5,none⟩=some (.slice d T[k].1.c.length e)/\bR B W (.slice d T[k].1.c.length e) T[k].1.c:=by
 have s:=aNi T;have c:∀m,m<6->W.cell? ⟨a,k*6+m,none⟩=(gR T[k])[m]?:=λm p=>by
  rw [f.row.cellAt (k*6+m) (by omega),aP8 T k m g p]
 obtain ⟨r,q,d,e,j,_,l,o⟩:=f.cell g;cases j;exact ⟨c 0 (by omega),c 1 (by omega),c 2 (by omega),c 3 (by omega),c 4 (by omega),d,e,l,o⟩
def qK(c:List (List Lt))(T:List (aK×Value))(n:Nat)(a:aK):Prop:=
 aS a.c=true/\bL a.c=true/\((a.r=1/\a.b=0/\a.i=0/\a.j=0/\c[a.a]?=some a.c)\/(a.r=2/\a.a<n/\a.b<n/\aS (aE T a.a)=true/\aS (aE T a.b)=true/\jX (aE T a.a) (aE T a.b) a.i a.j a.c true 0))
theorem bF5(D:ByteArray)(y:List (List Lt))(B z m n:Nat)(T:List (aK×Value))(w:World)(g1:D.size<=140737488355328)(t:∀c8 f2 i,oL D c8 f2 i->c8=y/\i=0)(a8:∀H∈y,aS H=true)(a7:T.length=n+1)(N:gS B w (.slice (some ⟨z,0,none⟩) T.length m) T)(b0:kN w)(a9:∀a (i9:a<T.length),qK y T a T[a].1)(c0:T[n].1.c=[])(j0:n<=1000)(f7:T.length<=m):Calls zt 17 #[.string D,.slice (some ⟨z,0,none⟩) (n+1) m] w λd f=>d=.returned (.bool true)/\aB w f:=by
 have a2:=aA (aOy D w g1);have G:=aA N;have e9:=aA b0;have e7:=aA a9;have e8:=aA t;have i7:=aA a8;have e6:=aA a7;have j4:(((n:Int)+1)==0)=false:=zW (by omega);have j5:(((n+1:Nat):Int)==0)=false:=zW (by omega);obtain ⟨-,-,-,-,-,j6,j7,c7,-⟩:=N.cells (k:=n) (by omega);rw [c0] at c7;have j1:n+1<=m:=by omega
 clear N b0 a9 t a8 c0 a7 f7;go_enter Tryz.func17,Tryz.ntmps17;go_upto_region 4 with (first
  |(go_at_call 18;refine (aD a2).mono ?_;rintro d Z ⟨v,f0,i8,i,rfl,t,c3,b3⟩;obtain ⟨c4,rfl⟩:=e8.o _ _ _ t;have a4:=aA c4;have F:=aA c3.cls;have a3:=aA b3;clear t c3 b3 c4)
  |go_in)
 obtain ⟨q,J⟩ : ∃q,(f0.map λc9=>(c9.1.map zs,c9.2))=q:=⟨_,rfl⟩;have M:q.map zs=y:=by rw [<-a4.o,<-J,zl];rfl
 rw [J] at F;clear J a4 a2;have g3:=a3.o.size;go_wp2;go_loopw [25] (λQ wr=>∃a:Nat,a<=n+1/\Q=.int .i64 a/\aB Z wr) (λQ _=>n+1-(intOf Q).toNat);case atStart=>exact ⟨0,zj _,rfl,Below.refl _ _⟩
 case round=>
  obtain ⟨a,f8,rfl,r⟩:=hrel;have e:aB w wr:=a3.o.trans (r.mono g3);by_cases c1:a<n+1
  ·have b9:a<T.length:=by rw [e6.o];exact c1
   obtain ⟨d2,d3,d4,d5,d6,k,l,d7,d9⟩:=G.o.cells b9;obtain ⟨C,d0,d1⟩:=e7.o a b9;obtain ⟨_,_,f3,_,d8,_⟩:=d9.lits (kV C);cases f3;have a1:aM (∀g,aB wr g->Calls zt 22 #[v,.slice (some ⟨z,0,none⟩) a m,.agg #[.int .i64 T[a].1.r,.int .i64 T[a].1.a,.int .i64 T[a].1.b,.int .i64 T[a].1.i,.int .i64 T[a].1.j,.slice k T[a].1.c.length l]] g λd f=>d=.returned (.bool true)/\aB g f):=aA λg u=>by
    have b5:aB w g:=bK e u;have f6:aB Z g:=bK r u;refine aW8 v _ _ _ _ _ _ k l T[a].1.c g (d8.below b5 (zz _)) d0 λE c6=>?_
    have s:aB w E:=bK b5 c6;have b6:aB Z E:=bK f6 c6;rcases d1 with ⟨R,S,U,A,p⟩|⟨R,S,U,A,p,V⟩
    ·have O:T[a].1.a<q.length:=by
      have:=(List.getElem?_eq_some_iff.1 p).1;rw [<-M] at this;simpa using this
     obtain ⟨f5,h1,a5,a6,g2,_,b7,c2⟩:=F.o.cell O;have g0:q[T[a].1.a].1=T[a].1.c:=by rw [<-M,List.getElem?_map,List.getElem?_eq_getElem O] at p;simpa using p
     rw [g0] at b7 c2;obtain ⟨_,_,I,_,f9,_⟩:=c2.lits (kV C);cases I;rw [g2,R,S,U,A];refine (aW6 f5 q.length h1 T[a].1.a _ k _ l a5 T[a].1.c.length a6 E (aC b6 b7) O).mono ?_;rintro d f ⟨rfl,b2⟩;exact ⟨a5,a6,rfl,(f9.below b6 (zz _)).below b2 (zz _),b2⟩
    ·have b1:T[a].1.a<T.length:=by omega
     have b4:T[a].1.b<T.length:=by omega
     obtain ⟨_,_,_,_,_,g5,g6,g4,g8⟩:=G.o.cells b1;obtain ⟨_,_,_,_,_,h0,h2,g9,h4⟩:=G.o.cells b4;rw [jS b1] at A V;rw [jS b4] at p V;obtain ⟨_,_,I,_,g7,_⟩:=g8.lits (kV A);cases I;obtain ⟨_,_,f4,_,h3,_⟩:=h4.lits (kV p);cases f4;obtain ⟨W,Y,X,rfl⟩ : ∃W Y X,v=.slice W Y X:=by obtain ⟨f1,H,d⟩:=bA F.o.row;exact ⟨f1,_,H,d⟩
     rw [R];exact aW7 W Y X z a m _ _ _ _ k _ l g5 h0 g6 h2 _ _ _ E S U (aC s g4) (aC s g9) (g7.below s (zz _)) (h3.below s (zz _)) (e9.o.below s (zz _)) V C
   have h5:=aC e d2;have h6:=aC e d3;have h7:=aC e d4;have h8:=aC e d5;have h9:=aC e d6;have i0:=aC e d7;have j3:(a:Int)<((n+1:Nat):Int):=by omega
   have j2:a<=m:=by omega
   have e2:=aA r;generalize T[a].1.c.length=cn at *;generalize T[a].1.r=i at *;generalize T[a].1.a=ea at *;generalize T[a].1.b=eb at *;generalize T[a].1.i=ei at *;generalize T[a].1.j=ej at *;clear d2 d3 d4 d5 d6 d7 d9 d8 C d0 d1 r e M;go_upto_region 7 with (go_in);obtain ⟨c,c5,P,o⟩ : ∃c,wr.alloc (.cells #[.int .i64 i,.int .i64 ea,.int .i64 eb,.int .i64 ei,.int .i64 ej,.slice k cn l] 53)=c/\aB wr c/\c.heap[wr.heap.size]?=some (.cells #[.int .i64 i,.int .i64 ea,.int .i64 eb,.int .i64 ei,.int .i64 ej,.slice k cn l] 53 (0,0)):=⟨_,rfl,(Below.refl _ wr).alloc (zz _) _,zw wr _⟩;rw [c5];clear c5 h5 h6 h7 h8 h9 i0;have x0:c.cell? ⟨wr.heap.size,0,none⟩=some (.int .i64 i):=by simp [zy,o]
   have x1:c.cell? ⟨wr.heap.size,1,none⟩=some (.int .i64 ea):=by simp [zy,o]
   have x2:c.cell? ⟨wr.heap.size,2,none⟩=some (.int .i64 eb):=by simp [zy,o]
   have x3:c.cell? ⟨wr.heap.size,3,none⟩=some (.int .i64 ei):=by simp [zy,o]
   have x4:c.cell? ⟨wr.heap.size,4,none⟩=some (.int .i64 ej):=by simp [zy,o]
   have e0:c.cell? ⟨wr.heap.size,5,none⟩=some (.slice k cn l):=by simp [zy,o]
   have e1:=aA (λ(g:World) (u:∃x,g=c.drewN x)=>(a1.o g (by obtain ⟨x,rfl⟩:=u;exact bK P (aU ⟨x,rfl⟩))).mono (R':=λd a0=>d=.returned (.bool true)/\aB c a0) (λd a0 b8=>by obtain ⟨x,rfl⟩:=u;exact ⟨b8.1,(aU ⟨x,rfl⟩).trans b8.2⟩));have e3:=aA (bK e2.o P);clear o P a1;go_region_held3 (λf=>f.cell? ⟨wr.heap.size,0,none⟩=some (.int .i64 i)/\f.cell? ⟨wr.heap.size,1,none⟩=some (.int .i64 ea)/\f.cell? ⟨wr.heap.size,2,none⟩=some (.int .i64 eb)/\f.cell? ⟨wr.heap.size,3,none⟩=some (.int .i64 ei)/\f.cell? ⟨wr.heap.size,4,none⟩=some (.int .i64 ej)/\f.cell? ⟨wr.heap.size,5,none⟩=some (.slice k cn l)) (first|trivial|go_keep)
    (first
     |(go_at_call 22;refine (aD e1 _ (by first|exact ⟨0,rfl⟩|exact ⟨1,rfl⟩|exact ⟨_,rfl⟩)).mono ?_;rintro d a0 ⟨rfl,j⟩;have i1:=aC j x0;have i2:=aC j x1;have i3:=aC j x2;have i4:=aC j x3;have i5:=aC j x4;have i6:=aC j e0;have e4:=aA (bK e3.o j);clear j)
     |go_in)
   clear i1 i2 i3 i4 i5 i6 x0 x1 x2 x3 x4 e0;go_wp2;go_roundw;case rel=>exact ⟨a+1,by omega,by go_num,e4.o⟩
   case measure=>simp [intOf];omega
  ·obtain rfl:a=n+1:=by omega
   have p:=aC e c7;have e5:=aA e;clear r e c1 f8;go_wp2;go_ret;exact ⟨rfl,e5.o⟩
