import Derived.Test.YtbpiopdphigodaaGreatDoorXSr7P
import Derived.Test.YtbpiopdphigodaaGreatDoorGPureP
open Array renaming getElem?_eq_some_iff→zy,getElem?_eq_getElem→zr,getElem_modify_self→zq,size_modify→zm
open List renaming length_eq_zero_iff→zp,mem_map→zl
open Nat renaming le_refl→zz,le_trans→zw
open Or renaming inr→zv,inl→zo
open Prod renaming fst→zn
namespace Go.Proofs.YtbpiopdphigodaaGreatDoor
open _root_.Go.Proofs.Tryz renaming prog→zt,results12→zs
open World renaming cell?→zx,alloc_heap_new→zu
set_option maxHeartbeats 8000000
set_option maxRecDepth 100000
open Go.RowKit Go.Shelf Go.WideMaps
variable{T:List (aK×Value)}{L:List Cd}{ks:List Nat}{B b n:Nat}{v vk vs x0 x1 x2 x3 x4:Value}{w:World}
def xK(w:World)(a:Nat):Nat:=match w.cell? ⟨a,2,none⟩ with|some (.slice _ n _)=>n|_=>0
theorem bI.steps{a:World}{d f:Nat}{e:Bool}(c:bI B a d f v vs vk L n T ks e):xK a d=T.length:=by obtain ⟨g,i,rfl⟩:=aY c.st.row;unfold xK;rw [c.cells.2.2.1]
def aZo(B o k l:Nat)(i:Nat->List (aK×Value)->List Nat->Bool->Prop)(w:World)(j:Ending)(f:World):Prop:=
 ∃(e:Nat) (p r q:Value) (g:List Cd) (m:Nat) (a:List (aK×Value)) (d:List Nat) (c:Bool),j=.returned (.int .i64 e)/\bI B f o k p r q g m a d c/\i e a d c/\a.length<=l+1/\Mv oC B w f
def aA7(B e d a:Nat)(c:Nat->List (aK×Value)->List Nat->Bool->Prop)(w wr:World):Prop:=
 ∃(v vs vk:Value) (L:List Cd) (n:Nat) (T:List (aK×Value)) (ks:List Nat) (b:Bool),bI B wr e d v vs vk L n T ks b/\dK a c L n T ks b/\aA6 L n T ks/\T.length<=a/\Mv oC B w wr/\B<=wr.heap.size
theorem bI.onest{a:World}{d l:Nat}{f:Value}{i:Bool}{p:aK×Value}(c:bI B w d l v vs vk L n T ks i)(q:w.grownBy a vs.ownBlock)(t:bN B w p.2 p.1.c)(u:a.ownsRow B 77 6 f (T.length+1) (gQ T++gF p)):a.cell? ⟨d,2,none⟩=some vs/\a.frozen? ⟨d,2,none⟩=false/\bI B (a.setCell ⟨d,2,none⟩ f) d l v f vk L n (T++[p]) ks i/\Mv [99,77] B w (a.setCell ⟨d,2,none⟩ f):=by
 have j:Mv [77] B w a:=aE1 c.st.row q (by simp);have g:=j.cells c.box (by decide);have s:=(zy.1 g).1;have k:Mv [99] B a (a.setCell ⟨d,2,none⟩ f):=Mv.of_grown (cJ a ⟨d,2,none⟩ _) (λy r=>by cases r;exact ⟨c.base,_,_,g,by simp⟩);have e:Mv [99,77] B w (a.setCell ⟨d,2,none⟩ f):=(j.mono (by decide) (zz _)).trans (k.mono (by decide) (zz _));refine ⟨by simp [zx,g],by simp [World.frozen?,g],⟨?_,⟨e.cells c.heap.box (by decide),e.row c.heap.row (by decide),c.heap.base⟩,⟨?_,λx hq=>?_⟩,e.row c.kp (by decide),λo m=>⟨e.clause (c.cl o m).1 (by decide) (by decide),(c.cl o m).2⟩,c.base⟩,e⟩
 ·show (a.heap.modify d _)[d]?=_;rw [zr (by rw [zm];exact s),zq,(zy.1 g).2];rfl
 ·have:=k.row u (by decide);simpa [gQ] using this
 ·rcases List.mem_append.1 hq with hq|hq
  ·exact e.clause (c.st.cl x hq) (by decide) (by decide)
  ·simp at hq;subst hq;exact e.clause t (by decide) (by decide)
theorem dK.cv{e:Nat}{a:Nat->List (aK×Value)->List Nat->Bool->Prop}{b:Bool}(c:dK e a L n T ks b):∀f∈L,∀d∈ks,lM (aP T d) f.c:=by cases c<;>assumption
theorem aZp(B f E A:Nat)(F:Nat->List (aK×Value)->List Nat->Bool->Prop)(w:World)(a:aA7 B f E A F w w)(h2:A<=100):Calls zt 27 #[.pointer (some ⟨f,0,none⟩),.int .i64 (A:Nat)] w λt a1=>aZo B f E A F w t a1:=by
 have c3:=aA a;clear a;go_enter Tryz.func27,Tryz.ntmps27;go_wp2;go_loopw [] (λwr=>aA7 B f E A F w wr) (λwr=>A-xK wr f);case atStart=>exact c3.o
 case round=>
  obtain ⟨v,vs,vk,L,n,T,ks,b,J,b2,a0,g0,d9,b0⟩:=hrel;have h1:=a0.kl;have b9:=aA (aZa B f E v vs vk L n T ks b wr J b2.cv a0.k (by omega) a0.ll b0);have e1:=J.steps;have Y:=aA e1;have O:=aA b2;have z:=aA a0;have a2:=aA d9;clear J b2 a0 d9 e1 c3;go_wp2_with (first
   |(go_at_call 43;refine (aC b9).mono ?_)
   |go_in)
  clear b9;rintro t c ⟨b6,V,⟨i,rfl,u⟩|⟨f7,c8,i,rfl,u,D,d6⟩⟩
  ·have U:(b=false/\F 2 T ks false)\/(b=true/\(∀n (a:n<ks.length),∀f8∈fG T ks[n] (ks.take (n+1)),oB f8.1.c)/\(sF T ks->F 2 T ks true)/\(¬sF T ks->F 3 T ks true)):=by
    cases O.o with
    |sat _ a j=>exact zo ⟨rfl,j⟩
    |big _ a G R S=>exact zv ⟨rfl,G,R,S⟩
    |unsat s hs _ a=>rw [i] at a;cases a
    |out _ a=>rw [i] at a;cases a
    |take s hs _ a=>rw [i] at a;cases a
   have g:aB c (c.alloc (.cells #[.int .i64 0,.int .i64 0,.int .i64 0,.int .i64 0,.int .i64 0,.slice none 0 0] 77)):=(Below.refl _ c).alloc (zz _) _;have a5:=u.below g;have e4:aI (Calls zt 44 #[.pointer (some ⟨f,0,none⟩)] (c.alloc (.cells #[.int .i64 0,.int .i64 0,.int .i64 0,.int .i64 0,.int .i64 0,.slice none 0 0] 77)) λt a1=>∃C:Bool,t=.returned (.bool C)/\F (if C then 2 else 3) T ks b/\Below (c.alloc (.cells #[.int .i64 0,.int .i64 0,.int .i64 0,.int .i64 0,.int .i64 0,.slice none 0 0] 77)).heap.size (c.alloc (.cells #[.int .i64 0,.int .i64 0,.int .i64 0,.int .i64 0,.int .i64 0,.slice none 0 0] 77)) a1):=aA (by
    rcases U with ⟨rfl,j⟩|⟨rfl,G,R,S⟩
    ·exact (aZe B f E b6 vs vk [] n T ks _ a5).mono λt a1 ⟨b3,U⟩=>⟨true,b3,j,U⟩
    ·refine (aZn B f E b6 vs vk [] n T ks _ a5 (zw (zw b0 V.size) g.size) z.o.t z.o.k (by omega) G).mono ?_;rintro t a1 ⟨C,b3,D,U⟩;refine ⟨C,b3,?_,U⟩;cases C with
     |true=>exact R (D.1 rfl)
     |false=>exact S (λa=>Bool.noConfusion (D.2 a)))
   have c7:=aA a5;have W:=aA g;have c5:=aA V;unfold sE gR;clear a5 g V u i O z Y U;go_wp2_with (first
    |(go_at_call 44;refine (aC e4).mono ?_;rintro t e ⟨C,rfl,j,H⟩;have I:=aA H;have P:=aA j;clear H j;cases C)
    |go_in)
   ·go_ret;exact ⟨3,_,_,_,_,_,_,_,_,rfl,c7.o.below I.o,P.o,by omega,((a2.o.trans (c5.o.mono (by decide) (zz _))).trans (Mv.of_below W.o)).trans (Mv.of_below I.o)⟩
   ·go_ret;exact ⟨2,_,_,_,_,_,_,_,_,rfl,c7.o.below I.o,P.o,by omega,((a2.o.trans (c5.o.mono (by decide) (zz _))).trans (Mv.of_below W.o)).trans (Mv.of_below I.o)⟩
  ·obtain ⟨j1,i7,i8,i9,j0,x,h5,y,i6,h7,k⟩:=f7;simp only at D d6;subst d6;obtain ⟨a7,a8,rfl⟩:=aY u.st.row;have X:=aA (a2.o.trans (V.mono (S':=oC) (by decide) (zz _)));have d2:B<=c.heap.size:=zw b0 V.size;unfold sE;clear V a2;cases O.o with
   |sat _ a j=>rw [i] at a;cases a
   |big _ a=>rw [i] at a;cases a
   |out _ a hc0 hl j=>
    rw [i] at a;cases a;have g:∀d,aB c (c.alloc d):=λd=>(Below.refl _ c).alloc (zz _) _
    have Z:∀d,(c.alloc d).cell? ⟨f,2,none⟩=some (.slice a7 T.length a8):=λd=>(u.below (g d)).cells.2.2.1
    have f6:((k.length:Int)==0)=false:=by
     have:k.length≠0:=λt=>hc0 (zp.1 t)
     simpa using this
    have a3:=aA u;have P:=aA j;have W:=aA g;clear u i j O z Y g D hc0;rw [hl] at Z;go_wp2;go_ret;exact ⟨3,_,_,_,_,_,_,_,_,rfl,a3.o.below (W.o _),P.o,by omega,X.o.trans (Mv.of_below (W.o _))⟩
   |unsat s hs _ a hc0 j=>
    rw [i] at a;cases a;obtain ⟨r,l,m,o,q,C⟩:=s;simp only [xJ] at hs;obtain ⟨⟨rfl,rfl,rfl,rfl,rfl⟩,rfl⟩:=hs;simp only at hc0 j;subst hc0;have h0:T.length<=1000:=by omega
    have c1:=aA D;have a3:=aA u;have P:=aA j;simp only [List.length_nil] at *;clear u i O z Y D j;go_upto_region 7 with (fail);obtain ⟨e,e3,H,M⟩ : ∃e,c.alloc (.cells #[.int .i64 r,.int .i64 l,.int .i64 m,.int .i64 o,.int .i64 q,.slice x 0 y] 77)=e/\aB c e/\e.heap[c.heap.size]?=some (.cells #[.int .i64 r,.int .i64 l,.int .i64 m,.int .i64 o,.int .i64 q,.slice x 0 y] 77 (0,0)):=⟨_,rfl,(Below.refl _ c).alloc (zz _) _,zu c _⟩;simp only [e3];clear e3;have J:=a3.o.below H;have Z:=J.cells.2.2.1;have f2:∀d,(e.alloc d).cell? ⟨f,2,none⟩=some (.slice a7 T.length a8):=λd=>aD ((Below.refl _ e).alloc (zz _) d) Z
    have e8:e.cell? ⟨c.heap.size,0,none⟩=some (.int .i64 r):=by simp [zx,M]
    have e9:e.cell? ⟨c.heap.size,1,none⟩=some (.int .i64 l):=by simp [zx,M]
    have Q:e.cell? ⟨c.heap.size,2,none⟩=some (.int .i64 m):=by simp [zx,M]
    have f0:e.cell? ⟨c.heap.size,3,none⟩=some (.int .i64 o):=by simp [zx,M]
    have f1:e.cell? ⟨c.heap.size,4,none⟩=some (.int .i64 q):=by simp [zx,M]
    have c9:e.cell? ⟨c.heap.size,5,none⟩=some (.slice x 0 y):=by simp [zx,M]
    have f5:=H.size;have b1:=J.below (aQ ⟨1,rfl⟩);have e0:e.drew.ownsRow B 77 6 (.slice a7 T.length a8) T.length (gQ T):=b1.st.row;have c4:=aA b1;have I:=aA H;have h4:zt.follows .mixedOrders=true:=by kernel_rfl
    have c2:=aA ((c1.o.below H).below (aQ ⟨1,rfl⟩));clear J M b1 H c1 a3;refine rV ?_;go_region_law (refine nN ?g1 (.tmp 31) (.tmp 33) 32 77 ?g2 (.agg #[.int .i64 0,.int .i64 0,.int .i64 0,.int .i64 0,.int .i64 0,.slice none 0 0]) 6 64 Tryz.underlying32 aA4 ?g3 ?g4 ?g5 B _ T.length (gQ T) ?g6 (e0.alloc _) ?g7 ?g8 e.heap.size 1 (gF (⟨r,l,m,o,q,[]⟩,.slice x 0 y)) ?g9 ?g10 (aIj e.drew #[.int .i64 r,.int .i64 l,.int .i64 m,.int .i64 o,.int .i64 q,.slice x 0 y] 77) (aA5 (⟨r,l,m,o,q,[]⟩,.slice x 0 y) rfl) ?_;(case g1=>rfl);(case g2=>rfl);(case g3=>rfl);(case g4=>decide);(case g5=>decide);(case g6=>rfl);(case g7=>omega);(case g8=>simp;omega);(case g9=>rfl);(case g10=>rfl);intro h9 i5 b4 d4;obtain ⟨f3,f4,d3,d7⟩:=bI.onest (p:=(⟨r,l,m,o,q,[]⟩,.slice x 0 y)) (c4.o.below ((Below.refl _ e.drew).alloc (zz _) _)) d4 (c2.o.below ((Below.refl _ e.drew).alloc (zz _) _)) b4;have e5:=aA d3;have c6:=aA d7;obtain ⟨i1,i2,rfl⟩:=aY b4;clear b4 d4 d3 d7);all_goals
     refine pP ?_;have e6:=aA ((X.o.trans (Mv.of_below (I.o.trans (((aQ (w1:=e.drew) ⟨1,rfl⟩).alloc (zz _) (.cells #[.int .i64 r,.int .i64 l,.int .i64 m,.int .i64 o,.int .i64 q,.slice x 0 y] 77)).mono f5)))).trans (c6.o.mono (S':=oC) (by decide) (zz _)));clear f3 f4 c6 c4 I e8 e9 Q f0 f1 c9 Z f2 e0 c2 X;go_wp2_with fail;go_ret;exact ⟨1,_,_,_,_,_,_,_,_,rfl,e5.o,P.o,by simp;omega,e6.o⟩
   |take s hs _ a hc0 hl hdv G hLF hnF next=>
    rw [i] at a;cases a;obtain ⟨r,l,m,o,q,C⟩:=s;simp only [xJ] at hs;obtain ⟨⟨rfl,rfl,rfl,rfl,rfl⟩,rfl⟩:=hs;simp only at hc0 hdv G hLF hnF next
    have g:∀d,aB c (c.alloc d):=λd=>(Below.refl _ c).alloc (zz _) _
    have Z:∀d,(c.alloc d).cell? ⟨f,2,none⟩=some (.slice a7 T.length a8):=λd=>(u.below (g d)).cells.2.2.1
    have f6:((k.length:Int)==0)=false:=by
     have:k.length≠0:=λt=>hc0 (zp.1 t)
     simpa using this
    have h3:((T.length:Int)==(A:Int))=false:=by simp;omega
    have d5:bK k=true:=z.o.l _ (aE3 _ i).1;have a9:=aA (λd=>aZc B f E b6 _ vk c8 n T ks b ⟨r,l,m,o,q,k⟩ x y (c.alloc d) (u.below (g d)) (D.below (g d)) d5 z.o.t hdv z.o.k (by omega) (by omega) (zw d2 (g d).size) _ rfl G hLF hnF);have e7:aI (∀N,(∃b5 b8 b7 a4 a6 Q,bI B N f E b5 b8 b7 a4 a6 (T++[(⟨r,l,m,o,q,k⟩,.slice x k.length y)]) (dI T ks k) Q/\bX (fG (T++[(⟨r,l,m,o,q,k⟩,.slice x k.length y)]) T.length (dI T ks k)) c8 n b a4 a6 Q/\∃d,Mv oC B (c.alloc d) N)->aA7 B f E A F w N/\A-xK N f<A-xK wr f):=aA λN ⟨b5,b8,b7,a4,a6,Q,d0,R,d,S⟩=>by
     refine ⟨⟨b5,b8,b7,a4,a6,_,_,Q,d0,next _ _ _ R,z.o.take ⟨r,l,m,o,q,k⟩ _ rfl i G hLF hnF R,by simp;omega,(X.o.trans (Mv.of_below (g d))).trans S,zw (zw d2 (g d).size) S.size⟩,?_⟩;rw [d0.steps,Y.o];simp;omega
    unfold pC at a9;simp only at a9;clear u i O z Y g D hc0 G hLF hnF next d5 hl X hdv
    generalize k.length=cl at *;go_wp2_with (first
     |(go_at_call 45;refine (aC a9 _).mono ?_;rintro t N ⟨⟨h8,rfl⟩,i0,i4,i3,f9,h6,c9,d1,e2,d8⟩;have c0:=aA (e7.o N ⟨_,_,_,_,_,_,d1,e2,_,d8⟩);clear d1 e2 d8)
     |go_in)
    go_roundw;case rel=>exact c0.o.1
    case measure=>exact c0.o.2
def aA8(c:Nat->List (aK×Value)->List Nat->Bool->Prop)(a:Nat)(T:List (aK×Value))(ks:List Nat)(b:Bool):Prop:=c a T ks b/\((a=1/\1<=T.length)\/a=2\/a=3)
theorem dK.tag{e:Nat}{d:Nat->List (aK×Value)->List Nat->Bool->Prop}{b:Bool}(a:dK e d L n T ks b):dK e (aA8 d) L n T ks b:=by
 induction a with
 |sat hv a hq=>exact dK.sat hv a ⟨hq,zv (zo rfl)⟩
 |big hv a hF h2 h3=>exact dK.big hv a hF (λc=>⟨h2 c,zv (zo rfl)⟩) (λc=>⟨h3 c,zv (zv rfl)⟩)
 |unsat s hs hv a hc hq=>exact dK.unsat s hs hv a hc ⟨hq,zo ⟨rfl,by simp⟩⟩
 |out hv a hc hl hq=>exact dK.out hv a hc hl ⟨hq,zv (zv rfl)⟩
 |take s hs hv a hc hl hd hF hLF hnF _ ih=>exact dK.take s hs hv a hc hl hd hF hLF hnF ih
theorem aZq(B a o:Nat)(v vk:Value)(L:List Cd)(n:Nat)(T:List (aK×Value))(ks:List Nat)(f:Bool)(g:Option Addr)(c i:Nat)(w:World)(j:bI B w a o v (.slice g c i) vk L n T ks f):Calls zt 26 #[.pointer (some ⟨a,0,none⟩),.int .i64 3] w λm d=>m=.returned (.agg #[.int .i64 3,.slice g c i,.slice none 0 0,.int .i64 c,.bool f])/\aB w d:=by
 obtain ⟨_,_,k,_,l⟩:=j.cells;have p:=λe=>aD ((Below.refl w.heap.size w).alloc (zz _) e) k
 have q:=λe=>aD ((Below.refl w.heap.size w).alloc (zz _) e) l
 clear j;go_enter Tryz.func26,Tryz.ntmps26;go_wp2_with fail;go_region_held3 (λd=>d.cell? ⟨a,2,none⟩=some (.slice g c i)/\d.cell? ⟨a,4,none⟩=some (.bool f)) (go_keep) (fail);all_goals
  go_wp2_with fail;go_returns;refine ⟨rfl,?_⟩;exact (((Below.refl _ w).alloc (zz _) _).alloc (by simp) _).trans (Below.mono (aQ ⟨1,rfl⟩) (by simp;omega))
def uY(c:Nat)(vs vk:Value)(a:Nat)(b:Bool):Value:=.agg #[.int .i64 c,vs,vk,.int .i64 a,.bool b]
structure xL(B:Nat)(w:World)(vd:Nat)(vs vk:Value)(used:Nat)(T:List (aK×Value))(ks:List Nat):Prop where
 st:iD B w vs T
 kp:(vd=2/\dQ B w vk ks)\/(vd≠2/\vk=.slice none 0 0)
 us:used=if vd=1 then T.length-1 else T.length
theorem aZr(B k o:Nat)(v vs vk:Value)(L:List Cd)(n f:Nat)(T:List (aK×Value))(ks:List Nat)(g:Bool)(w:World)(a:bI B w k o v vs vk L n T ks g)(u:(f=1/\1<=T.length)\/f=2\/f=3)(s:T.length<=1000000):Calls zt 26 #[.pointer (some ⟨k,0,none⟩),.int .i64 f] w λm l=>∃d q e i p j r,m=.returned (uY f (.slice d q e) (.slice i p j) r g)/\xL B l f (.slice d q e) (.slice i p j) r T ks/\aB w l:=by
 obtain ⟨d,e,rfl⟩:=aY a.st.row;obtain ⟨i,j,rfl⟩:=a.kp.shape;rcases u with ⟨rfl,t⟩|rfl|rfl
 ·refine (aZi B k o v _ L n T ks g d T.length e w a t s).mono ?_;rintro m l ⟨rfl,c⟩;exact ⟨d,T.length,e,none,0,0,_,rfl,⟨(a.below c).st,zv ⟨by decide,rfl⟩,rfl⟩,c⟩
 ·refine (aZj B k o v L n T ks g d i T.length e _ j w a).mono ?_;rintro m l ⟨rfl,c⟩;exact ⟨d,T.length,e,i,_,j,_,rfl,⟨(a.below c).st,zo ⟨rfl,(a.below c).kp⟩,rfl⟩,c⟩
 ·refine (aZq B k o v _ L n T ks g d T.length e w a).mono ?_;rintro m l ⟨rfl,c⟩;exact ⟨d,T.length,e,none,0,0,_,rfl,⟨(a.below c).st,zv ⟨by decide,rfl⟩,rfl⟩,c⟩
theorem aLc{d f:Type}{e:d->List f}:∀{a:List d} {c:d},(a.flatMap e).Nodup->c∈a->(e c).Nodup
 |y::a,c,h,hx=>by
  rw [List.flatMap_cons,List.nodup_append] at h;rcases List.mem_cons.1 hx with rfl|hx
  ·exact h.1
  ·exact aLc h.2.1 hx
theorem kP.cls{f:List (List (Lt×Value)×Value)}(a:kP B w v f):rC B w v (f.map λd=>(d.1.map zn,d.2)):=by
 refine ⟨?_,λd g=>?_⟩
 ·have:=a.mem.1;simpa [List.map_map,Function.comp_def] using this
 ·obtain ⟨e,c,rfl⟩:=zl.1 g;refine ⟨e.1,rfl,(a.mem.2 e c).1.1,(a.mem.2 e c).1.2,?_⟩;have:=aLc a.atoms c;simpa [List.filterMap_map,Function.comp_def] using this
theorem rC.fsts(c:List (List (Lt×Value)×Value)):(c.map λa=>(a.1.map zn,a.2)).map zn=c.map λa=>a.1.map zn:=by simp [List.map_map,Function.comp_def]
def A5(w:World)(b:Nat)(x0 x1 x2 x3 x4:Value):Prop:=w.heap[b]?=some (.cells #[x0,x1,x2,x3,x4] 35 (0,0))
def nC(w:World)(b:Nat)(x0 x1 x2 x3 x4:Value):World:=(((((w.setCell ⟨b,0,none⟩ x0).setCell ⟨b,1,none⟩ x1).setCell ⟨b,2,none⟩ x2).setCell ⟨b,3,none⟩ x3).setCell ⟨b,4,none⟩ x4)
theorem A5.cells(a:A5 w b x0 x1 x2 x3 x4):w.cell? ⟨b,0,none⟩=some x0/\w.cell? ⟨b,1,none⟩=some x1/\w.cell? ⟨b,2,none⟩=some x2/\w.cell? ⟨b,3,none⟩=some x3/\w.cell? ⟨b,4,none⟩=some x4:=by refine ⟨?_,?_,?_,?_,?_⟩<;>simp [zx,show w.heap[b]?=_ from a]
theorem A5.frz(a:A5 w b x0 x1 x2 x3 x4)(c:Nat):w.frozen? ⟨b,c,none⟩=false:=by simp [World.frozen?,show w.heap[b]?=_ from a]
theorem A5.put(c:A5 w b x0 x1 x2 x3 x4)(g i j l m:Value):A5 (nC w b g i j l m) b g i j l m/\w.grownBy (nC w b g i j l m) (some b):=by
 have d:∀(a:World) (f:Array Value) (k:Nat) (v:Value),a.heap[b]?=some (.cells f 35 (0,0))->(a.setCell ⟨b,k,none⟩ v).heap[b]?=some (.cells (f.setIfInBounds k v) 35 (0,0)):=λa f k v e=>by
  have o:=(zy.1 e).1;show (a.heap.modify b _)[b]?=_;rw [zr (by rw [zm];exact o),zq,(zy.1 e).2];rfl
 constructor
 ·unfold A5 nC;rw [d _ _ 4 _ (d _ _ 3 _ (d _ _ 2 _ (d _ _ 1 _ (d _ _ 0 _ c))))];simp
 ·unfold nC;have c:∀(a:World) (k:Nat) (v:Value),w.grownBy a (some b)->w.grownBy (a.setCell ⟨b,k,none⟩ v) (some b):=λa k v e=>kV e (cJ a ⟨b,k,none⟩ v)
  exact c _ _ _ (c _ _ _ (c _ _ _ (c _ _ _ (c _ _ _ ⟨rfl,rfl,rfl,zz _,λ_ _ _=>rfl⟩))))
theorem uZ{c d:World}(a:aB w c)(g:c.grownBy d (some b))(f:w.heap.size<=b):aB w d:=
 a.grown g a.size (λi e=>by cases e;exact f)
theorem iD.low{a:Nat}(c:iD B w v T)(d:a<=B):iD a w v T:=⟨gS c.row d,λp e=>(c.cl p e).low d⟩
theorem xL.kept{S:List TypeId}{c:Nat}{g:World}{f:Nat}{e:Nat}(h:xL B w f vs vk e T ks)(d:c<=B)(k:cK S w g)(i:77∉S)(j:41∉S)(l:43∉S)(m:3∉S):xL c g f vs vk e T ks:=
 ⟨(h.st.low d).kept k i j l,by rcases h.kp with ⟨a,b⟩|h;exact zo ⟨a,k.row (gS b d) m⟩;exact zv h,h.us⟩
def pX:Value:=.agg #[.int .i64 0,.slice none 0 0,.slice none 0 0,.int .i64 0,.bool false]
def vA(l:ByteArray)(c:Int)(j:List (List Lt)->Nat->List (aK×Value)->List Nat->Bool->Prop)(w:World)(d:Ending)(i:World):Prop:=
 ∃f k a,kO l f k a/\aB w i/\((a≠0/\d=.returned (.tuple #[pX,.int .i64 a]))\/(a=0/\¬(1<=c/\c<=100)/\d=.returned (.tuple #[pX,.int .i64 7]))\/
  (a=0/\1<=c/\c<=100/\∃e vs vk g b T ks,d=.returned (.tuple #[uY e vs vk g b,.int .i64 0])/\xL w.heap.size i e vs vk g T ks/\aA8 (j f) e T ks b))
theorem aZs(m:ByteArray)(e:Int)(q:List (List Lt)->Nat->List (aK×Value)->List Nat->Bool->Prop)(w:World)(f2:m.size<=140737488355328)(c6:∀a e3,kO m a e3 0->(∀a7∈a,bK a7=true)/\a.length<=1000/\∀c:Nat,e=c->1<=c->c<=100->∀L n,bX (kY a) [] 0 false L n false->dK c (q a) L n [] [] false):Calls zt 12 #[.string m,.int .i64 e] w λH g2=>vA m e q w H g2:=by
 obtain ⟨d,f3,Z,a4,h1⟩ : ∃d,w.alloc (.cells #[.int .i64 0,.slice none 0 0,.slice none 0 0,.int .i64 0,.bool false] 35)=d/\aB w d/\A5 d w.heap.size (.int .i64 0) (.slice none 0 0) (.slice none 0 0) (.int .i64 0) (.bool false)/\d.heap.size=w.heap.size+1:=⟨_,rfl,(Below.refl _ w).alloc (zz _) _,zu w _,by simp⟩;have p:=aA (aAy m d f2);have X:=aA c6;clear c6;go_enter Tryz.func12,Tryz.ntmps12;go_upto_region 1 with (fail);clear f3;go_wp2_with (first
  |(go_at_call 10;refine (aC p).mono ?_)
  |go_in)
 clear p;rintro H f ⟨v,a6,g5,I,rfl,k,J,x⟩;have g:A5 f w.heap.size (.int .i64 0) (.slice none 0 0) (.slice none 0 0) (.int .i64 0) (.bool false):=(x.block _ (by omega)).trans a4;have y:aB w f:=Z.trans (x.mono (by omega));have b3:=x.size;obtain ⟨h3,h4,rfl⟩:=aY J.mem.1;have b9:=aA k;have c2:=aA g;have b5:=aA y;by_cases a0:I=0
 ·subst a0;obtain ⟨z,a2,a3⟩:=X.o _ _ k;by_cases a1:1<=e/\e<=100
  ·obtain ⟨c,rfl⟩ : ∃c:Nat,e=c:=⟨e.toNat,by omega⟩;have e8:1<=c:=by omega
   have d0:c<=100:=by omega
   have g6:decide ((c:Int)<1)=false:=by simp;omega
   have g7:decide ((100:Int)<(c:Int))=false:=by simp;omega
   have d2:∀a7∈a6.map (λQ=>Q.1.map zn),bK a7=true:=z;have p:=aA (aZh d.heap.size _ _ f J.cls (λQ j=>z Q.1 (by
    obtain ⟨f8,f1,rfl⟩:=zl.1 j;exact zl.2 ⟨f8,f1,rfl⟩)) (by simpa using a2) b3)
   rw [rC.fsts] at p;obtain ⟨a,f0⟩ : ∃a,(a6.map λQ=>Q.1.map zn)=a:=⟨_,rfl⟩;rw [f0] at p a3 d2 a2 z k;have c1:aI (∀s j o,uX d.heap.size f s j a a.length o->aA7 d.heap.size s j c (aA8 (q a)) o o):=aA λs j o ⟨h2,c3,d5,e5,Y,a8⟩=>by
    have e7:(kY a).length=a.length:=by simp [kY]
    rw [show (kY a).take a.length=kY a by rw [<-e7,List.take_length]] at Y;have e9:=bX.len _ Y;simp at e9;refine ⟨_,_,_,c3,d5,[],[],false,e5,(a3 c rfl e8 d0 c3 d5 Y).tag,⟨λg4 f4=>?_,by simp,by simp,by simp,by omega,by omega⟩,by simp,Mv.refl _ _ _,zw b3 a8.size⟩;rcases Y.mem _ g4 f4 with e4|⟨h5,d3,_,_,f5⟩
    ·simp at e4
    ·rw [f5];simp only [kY,List.mem_mapIdx] at d3;obtain ⟨f6,b0,rfl⟩:=d3;exact z _ (List.getElem_mem b0)
   have c0:=aA k;clear k a4 g J Z x y X z a2 a3 d2 b9 a1;generalize a6.length=qn at *;go_wp2_with (first
    |(go_at_call 25;refine (aC p).mono ?_)
    |go_in)
   rintro H o ⟨s,j,rfl,b2⟩;have b6:=aA (show Mv oC d.heap.size f o by
    obtain ⟨_,_,_,_,_,a8⟩:=b2;exact a8.mono (by decide) (zz _))
   have b4:=aA (aZp d.heap.size s j c (aA8 (q a)) o (c1.o s j o b2) d0);clear b2 c1 p;go_wp2_with (first
    |(go_at_call 27;refine (aC b4).mono ?_)
    |go_in)
   rintro H g3 ⟨t,f9,g1,g0,e2,f7,c4,d4,r,rfl,c7,b1,e6,d1⟩;have b7:=aA (b6.o.trans d1);have a5:=aA (aZr d.heap.size s j f9 g1 g0 e2 f7 t c4 d4 r g3 c7 b1.2 (by omega));unfold uY at a5;have b8:=aA b1;clear c7 b1 e6 d1 b4 b6;go_wp2_with (first
    |(go_at_call 26;refine (aC a5).mono ?_)
    |go_in)
   rintro H R ⟨U,W,V,N,P,O,G,rfl,c5,c8⟩;have a9:Mv oC d.heap.size f R:=b7.o.trans (Mv.of_below c8);have M:A5 R w.heap.size (.int .i64 0) (.slice none 0 0) (.slice none 0 0) (.int .i64 0) (.bool false):=a9.cells c2.o (by decide);have c9:aB w R:=b5.o.trans ((a9.below b3).mono (by omega));obtain ⟨d6,d7,d8,d9,e0⟩:=M.cells;have e1:=M.frz;obtain ⟨l,i⟩:=M.put (.int .i64 t) (.slice U W V) (.slice N P O) (.int .i64 G) (.bool r);obtain ⟨A,C,D,E,F⟩:=l.cells;have u:aI (vA m c q w (.returned (.tuple #[uY t (.slice U W V) (.slice N P O) G r,.int .i64 0])) (nC R w.heap.size (.int .i64 t) (.slice U W V) (.slice N P O) (.int .i64 G) (.bool r))):=aA
    ⟨a,_,_,c0.o,uZ c9 i (zz _),zv (zv ⟨rfl,by omega,by omega,t,_,_,G,r,c4,d4,rfl,c5.kept (by omega) (Mv.of_grown (S:=[35]) (B:=0) i (λf6 b0=>by cases b0;exact ⟨Nat.zero_le _,_,_,M,by simp⟩)).kps (by decide) (by decide) (by decide) (by decide),b8.o⟩)⟩
   clear c5 c8 a9 M c9 l i a5 b7 b8 c0 b5 c2;go_wp2_with (fail);refine bodyPost_ret (v:=.tuple #[uY t (.slice U W V) (.slice N P O) G r,.int .i64 0]) (w:=nC R w.heap.size (.int .i64 t) (.slice U W V) (.slice N P O) (.int .i64 G) (.bool r)) (by simp [results,zs,go_sem,A,C,D,E,F,uY];try rfl) rfl ?_;exact u.o
  ·have hl3:e<1\/100<e:=by omega
   obtain ⟨d6,d7,d8,d9,e0⟩:=g.cells;have e1:=g.frz;obtain ⟨l,i⟩:=g.put (.int .i64 0) (.slice none 0 0) (.slice none 0 0) (.int .i64 0) (.bool false);obtain ⟨A,C,D,E,F⟩:=l.cells;have u:aI (vA m e q w (.returned (.tuple #[pX,.int .i64 7])) (nC f w.heap.size (.int .i64 0) (.slice none 0 0) (.slice none 0 0) (.int .i64 0) (.bool false))):=aA ⟨_,_,_,k,uZ y i (zz _),zv (zo ⟨rfl,a1,rfl⟩)⟩;clear k a4 g l i J Z x y X z a2 a3 b9;rcases hl3 with hl3|hl3
   ·clear a1;go_wp2_with (fail);refine bodyPost_ret (v:=.tuple #[pX,.int .i64 7]) (w:=nC f w.heap.size (.int .i64 0) (.slice none 0 0) (.slice none 0 0) (.int .i64 0) (.bool false)) (by simp [results,zs,go_sem,A,C,D,E,F,pX];try rfl) rfl ?_;exact u.o
   ·have h0:decide (e<1)=false:=by simp;omega
    clear a1;go_wp2_with (fail);refine bodyPost_ret (v:=.tuple #[pX,.int .i64 7]) (w:=nC f w.heap.size (.int .i64 0) (.slice none 0 0) (.slice none 0 0) (.int .i64 0) (.bool false)) (by simp [results,zs,go_sem,A,C,D,E,F,pX];try rfl) rfl ?_;exact u.o
 ·have g8:(I==0)=false:=by simpa using a0
  have g9:(I != 0)=true:=by simpa using a0
  obtain ⟨d6,d7,d8,d9,e0⟩:=g.cells;have e1:=g.frz;obtain ⟨l,i⟩:=g.put (.int .i64 0) (.slice none 0 0) (.slice none 0 0) (.int .i64 0) (.bool false);obtain ⟨A,C,D,E,F⟩:=l.cells;have u:aI (vA m e q w (.returned (.tuple #[pX,.int .i64 I])) (nC f w.heap.size (.int .i64 0) (.slice none 0 0) (.slice none 0 0) (.int .i64 0) (.bool false))):=aA ⟨_,_,_,k,uZ y i (zz _),zo ⟨a0,rfl⟩⟩;clear k a4 g l i J Z x y X;go_wp2_with (fail);refine bodyPost_ret (v:=.tuple #[pX,.int .i64 I]) (w:=nC f w.heap.size (.int .i64 0) (.slice none 0 0) (.slice none 0 0) (.int .i64 0) (.bool false)) (by simp [results,zs,go_sem,A,C,D,E,F,pX];try rfl) rfl ?_;exact u.o
theorem aLd(q:ByteArray)(x:Int)(y:List (List Lt)->Nat->List (aK×Value)->List Nat->Bool->Prop)(w:World)(a2:q.size<=140737488355328)(Q:∀e Y,kO q e Y 0->(∀Z∈e,bK Z=true)/\e.length<=1000/\∀D:Nat,x=D->1<=D->D<=100->∀L n,bX (kY e) [] 0 false L n false->dK D (y e) L n [] [] false):Calls zt 8 #[.string q,.int .i64 x] w λG b1=>vA q x y w G b1:=by
 obtain ⟨r,a3,R,U,b2⟩ : ∃r,w.alloc (.cells #[.int .i64 0,.slice none 0 0,.slice none 0 0,.int .i64 0,.bool false] 35)=r/\aB w r/\A5 r w.heap.size (.int .i64 0) (.slice none 0 0) (.slice none 0 0) (.int .i64 0) (.bool false)/\r.heap.size=w.heap.size+1:=⟨_,rfl,(Below.refl _ w).alloc (zz _) _,zu w _,by simp⟩;have N:=aA (aZs q x y r a2 Q);clear Q;go_enter Tryz.func8,Tryz.ntmps8;go_upto_region 1 with (fail);clear a3;go_wp2_with (first
  |(go_at_call 12;refine (aC N).mono ?_)
  |go_in)
 clear N;rintro G E ⟨e,F,H,C,M,O⟩;have g:A5 E w.heap.size (.int .i64 0) (.slice none 0 0) (.slice none 0 0) (.int .i64 0) (.bool false):=(M.block _ (by omega)).trans U;have A:aB w E:=R.trans (M.mono (by omega));obtain ⟨m,i,l,j,a,d,c,o,p,z,rfl,P⟩ : ∃(m:Int) (i:Option Addr) (l j:Nat) (a:Option Addr) (d c:Nat) (o:Int) (p:Bool) (z:Int),G=.returned (.tuple #[.agg #[.int .i64 m,.slice i l j,.slice a d c,.int .i64 o,.bool p],.int .i64 z])/\vA q x y w (.returned (.tuple #[.agg #[.int .i64 m,.slice i l j,.slice a d c,.int .i64 o,.bool p],.int .i64 z])) (nC E w.heap.size (.int .i64 m) (.slice i l j) (.slice a d c) (.int .i64 o) (.bool p)):=by
  rcases O with ⟨s,rfl⟩|⟨s,I,rfl⟩|⟨s,I,a0,W,vs,vk,V,b,T,ks,rfl,J,a1⟩
  ·obtain ⟨u,f⟩:=g.put (.int .i64 0) (.slice none 0 0) (.slice none 0 0) (.int .i64 0) (.bool false);exact ⟨_,_,_,_,_,_,_,_,_,_,rfl,e,F,H,C,uZ A f (zz _),zo ⟨s,rfl⟩⟩
  ·obtain ⟨u,f⟩:=g.put (.int .i64 0) (.slice none 0 0) (.slice none 0 0) (.int .i64 0) (.bool false);exact ⟨_,_,_,_,_,_,_,_,_,_,rfl,e,F,H,C,uZ A f (zz _),zv (zo ⟨s,I,rfl⟩)⟩
  ·obtain ⟨a9,b0,rfl⟩:=aY J.st.row;obtain ⟨a,d,c,rfl⟩ : ∃a d c,vk=.slice a d c:=by
    rcases J.kp with ⟨_,t⟩|⟨_,t⟩
    ·obtain ⟨a,c,rfl⟩:=aY t;exact ⟨_,_,_,rfl⟩
    ·exact ⟨_,_,_,t⟩
   obtain ⟨u,f⟩:=g.put (.int .i64 W) (.slice a9 T.length b0) (.slice a d c) (.int .i64 V) (.bool b);exact ⟨_,_,_,_,_,_,_,_,_,_,rfl,e,F,H,C,uZ A f (zz _),zv (zv ⟨s,I,a0,W,_,_,V,b,T,ks,rfl,J.kept (by omega) (Mv.of_grown (S:=[35]) (B:=0) f (λk t=>by cases t;exact ⟨Nat.zero_le _,_,_,g,by simp⟩)).kps (by decide) (by decide) (by decide) (by decide),a1⟩)⟩
 obtain ⟨b3,b4,b5,b6,b7⟩:=g.cells;have b8:=g.frz;obtain ⟨u,f⟩:=g.put (.int .i64 m) (.slice i l j) (.slice a d c) (.int .i64 o) (.bool p);obtain ⟨a4,a5,a6,a7,a8⟩:=u.cells;have X:=aA P;clear P C O U g A R M u f;go_wp2_with (fail);refine bodyPost_ret (v:=.tuple #[.agg #[.int .i64 m,.slice i l j,.slice a d c,.int .i64 o,.bool p],.int .i64 z]) (w:=nC E w.heap.size (.int .i64 m) (.slice i l j) (.slice a d c) (.int .i64 o) (.bool p)) (by simp [results,Tryz.results8,go_sem,a4,a5,a6,a7,a8];try rfl) rfl ?_;exact X.o
