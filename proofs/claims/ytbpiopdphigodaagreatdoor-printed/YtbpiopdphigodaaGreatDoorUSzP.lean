import Derived.Test.YtbpiopdphigodaaGreatDoorUJnLP
open List renaming getElem?_set_ne→zv,getElem?_set→zr,map_append→zq,length→zp
open Nat renaming le_trans→zw,le_refl→zu,le_total→zm
namespace Go.Proofs.YtbpiopdphigodaaGreatDoor
open _root_.Go.Proofs.Tryz renaming results149→zt,underlying39→zl,prog→zk
open Value renaming ownBlock→zo,int→zj
open World renaming frozen?_setCell→zz,cell?_setCell_same'→zy,block_lt_of_cell?→zx
open Go.RowKit Go.Shelf Go.WideMaps
set_option maxHeartbeats 2000000
set_option maxRecDepth 100000
variable{S:List Int}{L:List Nd}{rt:Nat->Nat}{w:World}
section
attribute [local go_sem] Oper.semAt_some
theorem aWo{a:Int}(b:0<=a)(c:a<=1000000):wrap64 a=a:=by unfold wrap64;omega
theorem aWp(b a:Nat):min (wrap64 (((min 501 (1+b):Nat):Int)+((min 501 a:Nat):Int))) 501=((min 501 (1+(b+([a]:List Nat).sum)):Nat):Int):=by
 have d:min 501 (1+b)<=501:=Nat.min_le_left _ _;have e:min 501 a<=501:=Nat.min_le_left _ _;have c:([a]:List Nat).sum=a:=by simp
 rw [aWo (by omega) (by omega),c];rcases zm 501 (1+b) with ha|ha<;>rcases zm 501 a with hb|hb<;>rcases zm 501 (1+(b+a)) with hc|hc<;>simp only [Nat.min_eq_left,Nat.min_eq_right,ha,hb,hc]<;>omega
theorem aWq{b:World}{q A d u:Nat}{F C D E:Value}{r:List Nat}{t:List Int}{f s:Nat}{z:List Nat}{p:Value}(c:wO w q A d u F C D E L r t rt f s z b)(l:b.cell? ⟨f,0,none⟩=some p){a:World}(e:b.grownBy a (some d))(H:d<w.heap.size){n:List Nat}(x:∀m∈n,m<b.heap.size/\m≠d)(j:∃o:Obj,b.heap[d]?=some o/\o.isCells=true)(k:Nat)(G:w.heap.size<=f:=by omega):a.cell? ⟨w.heap.size+1,0,none⟩=some (.int .i64 0)/\a.cell? ⟨w.heap.size+1+1,0,none⟩=some (.bool false)/\a.frozen? ⟨w.heap.size+1,0,none⟩=false/\a.frozen? ⟨w.heap.size+1+1,0,none⟩=false/\a.cell? ⟨f,0,none⟩=some p/\a.frozen? ⟨f,0,none⟩=false/\iK n b a/\KeepsFrom k b a/\w.grownBy a (some d):=by
 have i:∀{g:Addr} {B:Value},b.cell? g=some B->g.block≠d->a.frozen? g=b.frozen? g:=λj y=>World.frozen?_of_block (e.block _ (zx b _ j) (λv=>y (by simpa using v)))
 exact ⟨e.cell c.x1 (by simp;omega),e.cell c.x2 (by simp;omega),(i c.x1 (by simp;omega)).trans c.f1,(i c.x2 (by simp;omega)).trans c.f2,e.cell l (by simp;omega),(i l (by simp;omega)).trans c.cf,aD0 e x,wM k e j,c.far.trans e⟩
theorem aWr{b:Nat}{q:Nd}{d:List Nat}{p:List (List Nd)}(k:L[b]?=some q)(g:(aJ L).ch b=d)(n:aO (λm e=>aU (aJ L) (λc a=>rt c=rt a) rt [m] e) d p)(u:∀m∈d,bY (aJ L) (λc a=>rt c=rt a) m)(s:kC L rt)(i:kA (aJ L) λc a=>rt c=rt a)(t:lE (aJ L) λc a=>rt c=rt a)(v:rt b=b):bY (aJ L) (λc a=>rt c=rt a) b/\∃e,aU (aJ L) (λc a=>rt c=rt a) rt [b] e/\e.length=1+(p.map zp).sum:=by
 have o:∀a,rt b=rt a->(aJ L).named a->(aJ L).named b:=by intro a f j;have:=s a j;rwa [<-f,v] at this
 refine ⟨aW5 i t (uA L) (i.refl b) (by rw [g];exact u) o,?_⟩;cases hv:aM q with
 |false=>
  have l:(aJ L).named b:=by rw [gX k];exact hv
  refine ⟨_,aU.name (i.refl b) l (by rw [List.append_nil,g];exact aW6 n),?_⟩;simp [List.length_flatten];omega
 |true=>
  have l:¬(aJ L).named b:=by rw [gX k,hv];simp
  refine ⟨_,aU.var (λa f j=>l (o a f j)) aU.nil,?_⟩;have r:d=[]:=by rw [<-g,lU k,nL hv];rfl
  subst r;cases n;simp
theorem aWs(i:qO L rt S){d:Nat}{f:Int}(j:bY (aJ L) (λb c=>rt b=rt c) d/\∃e,aU (aJ L) (λb c=>rt b=rt c) rt [d] e/\f=(min 501 e.length:Nat)):qO L rt (S.set d f):=by
 intro k l a;rw [zr] at a;split at a
 ·rename_i g;subst g;split at a
  ·simp at a;subst a;exact Or.inr (Or.inr j)
  ·cases a
 ·exact i k l a
theorem aWt{f:List Int}{c:Nat}{g:Int}(k:g≠-1)(j:S[c]?=some 0)(i:∀a:Nat,f[a]?=some (-1)↔(S.set c (-1))[a]?=some (-1)):∀a:Nat,(f.set c g)[a]?=some (-1)↔S[a]?=some (-1):=by
 intro a;by_cases d:a=c
 ·subst d;rw [j];constructor
  ·intro b;rw [zr] at b;simp at b;exact absurd b.2 k
  ·intro b;simp at b
 ·rw [zv (λe=>d e.symm),i a,zv (λe=>d e.symm)]
theorem aJa(Y j:Nat)(a8 f3 a6 f4 a7:Value)(L:List Nd)(Q:List Nat)(rt h1:Nat->Nat)(h4:eT L)(a3:fR Q rt h1)(h5:kC L rt)(x:eA (aJ L) (λo p=>rt o=rt p) λ_ _=>False):∀(b9:Nat) (S:List Int) (d:Nat) (w:World),kQ S<b9->bH w Y j a8 f3 a6 f4 a7 L Q S->qO L rt S->(∀a:Nat,S[a]?=some (-1)->fC (aJ L) (λo p=>rt o=rt p) a d)->d<L.length->
  Calls zk 149 #[.pointer (some ⟨j,0,none⟩),.int .i64 d] w λe c1=>∃D F v,e=.returned (.tuple #[.int .i64 D,.bool F])/\aW9 w Y j a8 f3 a6 f4 a7 L Q S rt d D F c1 v:=by
 obtain ⟨b3,h6⟩:=aJ1 x (qF rt);intro b9;induction b9 with
 |zero=>intro S d w d8;omega
 |succ b9 ih=>
  intro S d w d8 t h8 h7 i1;have m:=aA t;have r4:=aA a3;have l4:=aA h5;have l3:=aA d8;have c6:=aA h8;have g4:=aA h7;have B:=aA b3;have l5:=aA h6;have m2:=aA ih;obtain ⟨E,e7,b5,r0,k3,k4,n1,n3,p5⟩:=aJ2 w (.pointer (some ⟨j,0,none⟩)) (.int .i64 0) (.bool false) 173 3 4;have Z:=aA (aBn Y j a8 f3 a6 f4 a7 L Q S rt h1 d E (t.below b5) a3 i1);have a0:=aA b5;have M:rt d<L.length:=by rw [<-t.lf];exact a3.rt_lt (by rw [t.lf];exact i1)
  have e5:=a3.rt_rt d;obtain ⟨b,g9,z,rfl,d9,m6,m7⟩:=(t.below b5).size M;have r9:=(t.below b5).c3;have o6:=t.few;clear t a3 h5 d8 h8 h7 b3 h6 ih x;refine (callsIn_wide (n:=3)).1 ?_;refine callsIn_of_wp_marks Tryz.func149 rfl trivial ?_;simp only [Tryz.ntmps149,List.size_toArray,List.length_cons,List.length_nil,Nat.reduceAdd,Nat.reduceSub,Array.replicate_succ,Array.replicate_zero,List.push_toArray,List.append_toArray,List.nil_append,List.cons_append];refine wpIn_wide.2 ?_;obtain ⟨a,e3⟩ : ∃a,a=rt d:=⟨_,rfl⟩;rw [<-e3] at M e5 d9 m6 m7 Z;have a1:=aA e3;have R:=aA e5;have b0:=aA d9;have t1:(a:Int)<(L.length:Int):=by omega
  clear e3 e5 d9;by_cases e2:z=-1
  ·subst e2;have l6:aI (¬bY (aJ L) (λo p=>rt o=rt p) d):=aA (λd6=>d6.irrefl B.o ((g4.o a b0.o).left B.o (by show rt d=rt a;rw [R.o,a1.o])));subst e7;go_wp2_with (first
    |(go_at_call 164;refine (aC Z).mono ?_;rintro e c1 ⟨rfl,rfl⟩)
    |go_in)
   refine tF (v:=.tuple #[.int .i64 0,.bool false]) rfl (by simp [results,zt,go_sem,k3,k4]) ?_;exact ⟨0,false,S,rfl,⟨m.o.below a0.o,fX a0.o,zu _,λe=>(by cases e),λ_=>⟨rfl,l6.o⟩⟩⟩
  ·by_cases e1:z=0
   ·subst e1;have c8:=aA (aW7 S a (-1) b0.o (by decide));have l9:=aA (m.o.below a0.o);have g5:=aA ((m.o.below a0.o).sized a (-1));have p2:b<w.heap.size:=(cL m.o.rs b rfl).2;subst e7;go_upto_region 6 with (first
     |(go_at_call 164;refine (aC Z).mono ?_;rintro e c1 ⟨rfl,rfl⟩)
     |go_in)
    clear Z;generalize ((w.alloc (.cells #[.pointer (some ⟨j,0,none⟩)] 173)).alloc (.cells #[.int .i64 0] 3)).alloc (.cells #[.bool false] 4)=E at *;obtain ⟨j1,b7⟩:=g5.o;have j3:=gE (j:=a) (v:=.int .i64 (-1)) r0 (by omega:w.heap.size≠b);have j4:=gE (j:=a) (v:=.int .i64 (-1)) k3 (by omega:w.heap.size+1≠b);have j5:=gE (j:=a) (v:=.int .i64 (-1)) k4 (by omega:w.heap.size+1+1≠b);have q2:(E.setCell ⟨b,a,none⟩ (.int .i64 (-1))).frozen? ⟨w.heap.size+1,0,none⟩=false:=by rw [zz];exact n1
    have q3:(E.setCell ⟨b,a,none⟩ (.int .i64 (-1))).frozen? ⟨w.heap.size+1+1,0,none⟩=false:=by rw [zz];exact n3
    have q1:(E.setCell ⟨b,a,none⟩ (.int .i64 (-1))).heap.size=w.heap.size+3:=by rw [<-p5];simp [World.setCell]
    have m0:=aA j1;have k9:=aA (wN a0.o b7);have g1:=aA (λq9=>aCv j a q9);have q4:=λm5=>Below.at' ((Below.refl (E.setCell ⟨b,a,none⟩ (.int .i64 (-1))).heap.size (E.setCell ⟨b,a,none⟩ (.int .i64 (-1)))).alloc (zu _) m5) (zu _) j3
    clear j1 b7 g5 l9;go_wp2_with (first
     |(go_at_call 165;refine (aC g1 _).mono ?_;rintro e t9 ⟨rfl,rfl⟩)
     |go_in)
    clear q4 g1;generalize E.setCell ⟨b,a,none⟩ (.int .i64 (-1))=w4 at *;obtain ⟨A,x⟩ : ∃A,(aJ L).ch a=A:=⟨_,rfl⟩;obtain ⟨r,g8,rfl,_⟩:=m.o.ends (by omega);obtain ⟨a9,j2,H,j7,j9,k0,j8,q5⟩:=aCw w4 (.int .i64 1) (.pointer (some ⟨j,0,none⟩)) (.int .i64 a) 3 173 3;rw [<-j2];clear j2;rw [q1] at j7 j9 k0 j8 q5;have h9:=m0.o.below H;have n7:lJ a9 (w.heap.size+3+1+1) (w.heap.size+3+1) j r L a:=lJ.of h9 (by omega) j8 k0;have t5:=(Array.getElem?_eq_some_iff.1 m.o.box).1;have s6:=(cL m.o.re r rfl).2;have i8:∀k∈[w.heap.size+3+1+1,w.heap.size+3+1,j,r],k<a9.heap.size:=by intro k n;simp at n;rcases n with rfl|rfl|rfl|rfl<;>omega
    obtain ⟨f0,I⟩ : ∃D,L[a]?=some D:=⟨L[a],List.getElem?_eq_getElem M⟩;have l0:=aA (k9.o.trans (fX H));have k5:=aD H j3;have f8:=aD H j4;have f9:=aD H j5;have r2:=(H.frozen (p:=⟨w.heap.size+1,0,none⟩) (zx _ _ j4)).trans q2;have r3:=(H.frozen (p:=⟨w.heap.size+1+1,0,none⟩) (zx _ _ j5)).trans q3;refine (wpIn_wide (n:=3)).1 ?_;refine wpIn_rangeFunc_ownG rfl (by omega) (gf:=171) (lb:=#[.pointer (some ⟨w.heap.size+3+1+1,0,none⟩),.pointer (some ⟨w.heap.size+3+1,0,none⟩)]) rfl trivial (enters_of Tryz.func171 (by kernel_rfl) rfl)
     (encs:=λf:nQ A=>#[.int .i64 (f.1:Nat)]) (Kp:=iK [w.heap.size+3+1+1,w.heap.size+3+1,j,r]) (S:=λr1=>r1.map (λf=>f.1)=A) (Sp:=λO=>O.map (λf=>f.1) <+: A) (N:=A.length) (w0:=a9)
     (λy m3 m4 i o1 n8 s1 o2 h0=>by
      have:=aD4 2 y (w.heap.size+3+1+1) (w.heap.size+3+1) j r L a f0 A x (by omega) h4 o6 I m3 m4 _ n8 o2 i (n7.kept (aCx o1 i8)) h0;simpa using this)
     (λt k=>t.trans k) (iK.put i8) (Below.refl _ _) (λ_=>rfl)
     (λO i=>wO w Y j b g9 a8 (.slice (some ⟨r,0,none⟩) L.length g8) a6 a7 L Q (S.set a (-1)) rt (w.heap.size+3) a9.heap.size (O.map λf=>f.1) i)
     (λb2 O i=>zL w Y j b g9 a8 (.slice (some ⟨r,0,none⟩) L.length g8) a6 a7 L Q (S.set a (-1)) rt b2 (O.map λf=>f.1) i)
     (wO.own (by omega)) (λb2=>zL.own (by omega) b2) ?h0 ?a1 ?assign ?body ?done ?stop
    case h0=>
     refine ⟨zu _,⟨_,h9,zu _,?_,λ_=>Iff.rfl⟩,⟨[],aO.nil,by simp,j7⟩,l0.o,k5,f8,f9,r2,r3,j9⟩;intro c0 D J;rw [zr] at J;split at J
     ·split at J
      ·simp at J;exact Or.inr (Or.inl J.symm)
      ·cases J
     ·exact c6.o c0 D J
    case assign=>
     intro y f i K hK;gi_wp2
     exact hK
    case body=>
     rintro y O f i c s7;obtain ⟨v,l,G,a4,T⟩:=c.st;obtain ⟨a5,V,U,b6⟩:=c.pts;have q0:f.1<L.length:=aCz h4 I f.1 (by rw [x];exact f.2);have b8:(aJ L).named a:=by
      rw [gX I];cases W:aM f0 with
      |false=>rfl
      |true=>
       have s:A=[]:=by rw [<-x,lU I,nL W];rfl
       have C:=f.2;simp [s] at C
     have e6:fC (aJ L) (λo p=>rt o=rt p) a f.1:=fC.step (j:=a) rfl b8 (by rw [x];exact f.2) rfl;have i2:∀X:Nat,v[X]?=some (-1)->fC (aJ L) (λo p=>rt o=rt p) X f.1:=by
      intro X p4;have s:=(T X).1 p4;by_cases i9:X=a
      ·subst i9;exact e6
      ·rw [zv (λe=>i9 e.symm)] at s;exact fC.trans ((g4.o X s).right B.o (by show rt d=rt a;rw [R.o,a1.o])) e6
     have g0:=m2.o v f.1 i (by have:=c8.o;have:=l3.o;omega) l a4 i2 q0;have s3:=c.far.size;have s2:=c.big;have p6:=(Array.getElem?_eq_some_iff.1 l.box).1;have p1:=(cL l.re r rfl).2;have d7:∀k∈[w.heap.size+3+1+1,w.heap.size+3+1,j,r],k<i.heap.size/\k≠b:=by
      intro k n;simp at n;have s:j≠b:=λe=>dZ l.rs l.box (by decide) (by simp [zo,e])
      have C:r≠b:=λe=>l.ac (by simp [zo,e])
      rcases n with rfl|rfl|rfl|rfl
      ·exact ⟨by omega,by omega⟩
      ·exact ⟨by omega,by omega⟩
      ·exact ⟨p6,s⟩
      ·exact ⟨p1,C⟩
     have l7:=aA (λ(a2:World) (o8:i.grownBy a2 (some b))=>aWq c b6 o8 p2 d7 (vQ l.rs rfl) a9.heap.size);have k2:=c.x0;have c3:=aA c;have c5:=aA V;have c2:=aA U;have g6:=aA G;have k7:=aA T;have k8:=aA g0;have l1:=aA (λk n=>(d7 k n).1);generalize hsm:(a5.map zp).sum=sm at *;have c7:=aA hsm;clear hsm;clear c V U b6 G T a4 l g0 i2 e6 b8 d7;gi_wp2_with (first
      |(refine ⟨trivial,?_⟩;gi_at_call 149;refine (CallsIn.inRound y (callsIn_wide.2 (aC k8))).mono ?_;rintro e a2 ⟨D,F,g7,rfl,e4⟩;obtain ⟨f1,f2,q6,q7,k1,q8,i7,i6,i5⟩:=l7.o a2 e4.far;have u:=aA e4;have l2:=aA i7;have g3:=aA i6;have g2:=aA i5;clear e4 i7 i6 i5)
      |fail)
     ·have o3:F=false:=by simpa using ‹(!F)=true›
      obtain ⟨_,e0⟩:=u.o.no o3;refine ⟨g3.o.trans ((rX _ f1 _).trans (rX _ (gE f2 (by omega)) _)),⟨rfl,⟨g7,(u.o.tm.boxed m.o (by omega) 0 _).boxed m.o (by omega) 0 _,zw u.o.few g6.o⟩,⟨f.1,by simp,e0⟩,mU (mU g2.o (by omega) 0 _) (by omega) 0 _,?_,?_⟩⟩
      ·exact gE (zy _ _ _ (by rw [f1];rfl)) (by omega)
      ·exact zy _ _ _ (by rw [gE f2 (by omega)];rfl)
     ·have o4:F=true:=by simpa using ‹(!F)=false›
      obtain ⟨s,C,d1,e9,n5,n6⟩:=u.o.yes o4;have p8:min (wrap64 (((min 501 (1+sm):Nat):Int)+D)) 501=((min 501 (1+((a5++[e9]).map zp).sum):Nat):Int):=by rw [n6,zq,List.sum_append,c7.o];exact aWp sm e9.length
      rw [p8];have p3:∀k∈[w.heap.size+3+1+1,w.heap.size+3+1,j,r],k≠w.heap.size+3:=by intro k n;simp at n;rcases n with rfl|rfl|rfl|rfl<;>omega
      refine ⟨g3.o.trans (rX _ k1 _),l2.o.trans (λk n=>(cJ a2 ⟨w.heap.size+3,0,none⟩ _).block k (Nat.lt_of_lt_of_le (l1.o k n) u.o.far.size) (by simpa using p3 k n)),⟨?_,⟨g7,u.o.tm.boxed m.o (by omega) 0 _,zw u.o.few g6.o,s,λc0=>(C c0).trans (k7.o c0)⟩,⟨a5++[e9],?_,?_,zy _ _ _ (by rw [k1];rfl)⟩,mU g2.o (by omega) 0 _,gE ?_ (by omega),gE f1 (by omega),gE f2 (by omega),?_,?_,?_⟩⟩
      ·exact zw c3.o.big (zw u.o.far.size (cJ a2 ⟨w.heap.size+3,0,none⟩ _).size)
      ·rw [zq];exact c5.o.snoc n5
      ·intro f7 hy;rw [zq,List.mem_append] at hy;rcases hy with hy|hy
       ·exact c2.o f7 hy
       ·simp at hy;subst hy;exact d1
      ·exact u.o.far.cell k2 (by intro e;simp [zo] at e;omega)
      ·rw [zz];exact q6
      ·rw [zz];exact q7
      ·rw [zz];exact q8
    case done=>
     rintro q u0 i b3 d2 c hK;obtain ⟨v,l,G,a4,T⟩:=c.st;obtain ⟨a5,V,U,b6⟩:=c.pts;have s5:=c.cf;rw [d2] at V U;have k2:=c.x0;have f5:=c.x1;have f6:=c.x2;have n2:=c.f1;have n4:=c.f2;have r5:=l.c3;obtain ⟨s0,r8,t7,h2,s8,r6,r7⟩:=l.size M;simp at h2;obtain ⟨rfl,rfl⟩:=h2;generalize hsm:(a5.map zp).sum=sm at *;have c7:=aA hsm;have c3:=aA c;have b1:=aA l;have c5:=aA V;have c2:=aA U;have c4:=aA hK;have m1:=aA G;have l8:=aA a4;have k6:=aA T;have t3:(0:Int)<=(a:Int):=Int.natCast_nonneg _;have t2:((a:Int)).toNat=a:=Int.toNat_natCast _;obtain ⟨P,W⟩ : ∃P,P=zj .i64 ((min 501 (1+sm):Nat):Int):=⟨_,rfl⟩;have c9:=gE (j:=a) (v:=P) f5 (by omega:w.heap.size+1≠b);have d0:=gE (j:=a) (v:=P) f6 (by omega:w.heap.size+1+1≠b);have m8:=gE (j:=a) (v:=P) b6 (by omega:w.heap.size+3≠b);have m9:(i.setCell ⟨b,a,none⟩ P).frozen? ⟨w.heap.size+1,0,none⟩=false:=by rw [zz];exact n2
     have n0:(i.setCell ⟨b,a,none⟩ P).frozen? ⟨w.heap.size+1+1,0,none⟩=false:=by rw [zz];exact n4
     rw [W] at c9 d0 m8 m9 n0;clear hsm c l V U hK G a4 T W;go_wp2;go_region;all_goals
      go_wp2;obtain ⟨h3,j6,i0,d3⟩:=aWr I x c5.o c2.o l4.o B.o l5.o R.o;rw [c7.o] at d3;have j0:rt a=rt d:=by rw [R.o,a1.o]
      have t6:(1:Nat)<=min 501 (1+sm):=by rw [Nat.le_min];omega
      have o0:KeepsFrom 0 i (((i.setCell ⟨b,a,none⟩ (.int .i64 ((min 501 (1+sm):Nat):Int))).setCell ⟨w.heap.size+1,0,none⟩ (.int .i64 ((min 501 (1+sm):Nat):Int))).setCell ⟨w.heap.size+1+1,0,none⟩ (.bool true)):=(wM 0 (b1.o.sized a ((min 501 (1+sm):Nat):Int)).2 (vQ b1.o.rs rfl)).trans ((rX 0 c9 _).trans (rX 0 (gE d0 (by omega)) _));have n9:=o0.same q _ (Nat.zero_le _) c4.o rfl;have o9:=zy (i.setCell ⟨b,a,none⟩ (.int .i64 ((min 501 (1+sm):Nat):Int))) ⟨w.heap.size+1,0,none⟩ (.int .i64 ((min 501 (1+sm):Nat):Int)) (by rw [c9];rfl);have p0:=gE (j:=0) (v:=.bool true) o9 (by omega:w.heap.size+1≠w.heap.size+1+1);have b7:=zy ((i.setCell ⟨b,a,none⟩ (.int .i64 ((min 501 (1+sm):Nat):Int))).setCell ⟨w.heap.size+1,0,none⟩ (.int .i64 ((min 501 (1+sm):Nat):Int))) ⟨w.heap.size+1+1,0,none⟩ (.bool true) (by rw [gE d0 (by omega)];rfl);have p7:=((b1.o.sized a ((min 501 (1+sm):Nat):Int)).1.boxed m.o (g:=w.heap.size+1) (by omega) 0 (.int .i64 ((min 501 (1+sm):Nat):Int))).boxed m.o (g:=w.heap.size+1+1) (by omega) 0 (.bool true);have o7:=mU (mU (c3.o.far.trans (b1.o.sized a ((min 501 (1+sm):Nat):Int)).2) (g:=w.heap.size+1) (by omega) 0 (.int .i64 ((min 501 (1+sm):Nat):Int))) (g:=w.heap.size+1+1) (by omega) 0 (.bool true);generalize ((i.setCell ⟨b,a,none⟩ (.int .i64 ((min 501 (1+sm):Nat):Int))).setCell ⟨w.heap.size+1,0,none⟩ (.int .i64 ((min 501 (1+sm):Nat):Int))).setCell ⟨w.heap.size+1+1,0,none⟩ (.bool true)=WF at *;have b4:WF.drew.heap[q]?=some (.deferred (some [])):=n9;refine ⟨by simp,.inl ⟨_,_,rfl,run_takeDeferred b4,?_⟩⟩;have d4:=cell_kept (show WF.drew.cell? _=_ from p0) (grownBy_putObj' WF.drew q (.deferred none)) (λa e=>by cases e;exact ⟨_,b4,rfl⟩);have d5:=cell_kept (show WF.drew.cell? _=_ from b7) (grownBy_putObj' WF.drew q (.deferred none)) (λa e=>by cases e;exact ⟨_,b4,rfl⟩);refine ⟨.tuple #[.int .i64 ((min 501 (1+sm):Nat):Int),.bool true],by simp [results,zt,go_sem,d4,d5],?_⟩;have i4:aB WF WF.drew:=aQ ⟨1,rfl⟩;have s4:=c8.o;refine ⟨_,true,v.set a ((min 501 (1+sm):Nat):Int),rfl,⟨(p7.below i4).others (grownBy_putObj' WF.drew q (.deferred none)) (λa e=>by cases e;exact ⟨_,b4,rfl⟩),nO (o7.trans (fX i4)) (grownBy_putObj' WF.drew q (.deferred none)) (λa e=>by cases e;omega),?_,λ_=>⟨aWs l8.o ⟨h3,j6,i0,by rw [d3]⟩,aWt (by omega) b0.o k6.o,h3.same B.o j0,j6,i0.same B.o (λ_ _ e=>e) [d] (aO.cons j0 aO.nil),by rw [d3]⟩,λe=>(by cases e)⟩⟩;have s:=aW8 v a ((min 501 (1+sm):Nat):Int) (by omega);have C:=m1.o;omega
    case stop=>
     rintro q b2 O i b3 d2 c hK;have o5:=c.ret;subst o5;obtain ⟨v,l,G⟩:=c.st;obtain ⟨f7,hy,e0⟩:=c.no;have f5:=c.x1;have f6:=c.x2;refine wpIn_wide.2 ?_;go_wp2;refine ⟨by simp,.inl ⟨_,_,rfl,run_takeDeferred hK,?_⟩⟩;have d4:=cell_kept f5 (grownBy_putObj' _ q (.deferred none)) (λa e=>by cases e;exact ⟨_,hK,rfl⟩);have d5:=cell_kept f6 (grownBy_putObj' _ q (.deferred none)) (λa e=>by cases e;exact ⟨_,hK,rfl⟩);refine ⟨.tuple #[.int .i64 0,.bool false],by simp [results,zt,go_sem,d4,d5],?_⟩;refine ⟨0,false,v,rfl,⟨l.others (grownBy_putObj' _ q (.deferred none)) (λa e=>by cases e;exact ⟨_,hK,rfl⟩),nO c.far (grownBy_putObj' _ q (.deferred none)) (λa e=>by cases e;omega),zw G (Nat.le_of_lt c8.o),λe=>(by cases e),λ_=>⟨rfl,λd6=>e0 ?_⟩⟩⟩;have e8:f7∈(aJ L).ch a:=by rw [x];exact d2.subset hy
     have b8:(aJ L).named a:=by
      rw [gX I];cases W:aM f0 with
      |false=>rfl
      |true=>rw [lU I,nL W] at e8;simp at e8
     exact d6.parts (j:=a) (by show rt d=rt a;rw [R.o,a1.o]) b8 e8
   ·have c4:=aA (show bY (aJ L) (λo p=>rt o=rt p) d/\∃y,aU (aJ L) (λo p=>rt o=rt p) rt [d] y/\z=(min 501 y.length:Nat) from by
     have M:rt a=rt d:=by rw [R.o,a1.o]
     rcases c6.o a z b0.o with e|e|⟨s,y,C,d1⟩
     ·exact absurd e e1
     ·exact absurd e e2
     ·exact ⟨s.same B.o M,y,C.same B.o (λ_ _ e=>e) [d] (aO.cons M aO.nil),d1⟩)
    have t0:((z:Int)==-1)=false:=by simpa using e2
    have s9:((z:Int) != 0)=true:=by simpa using e1
    obtain ⟨t8,p9,i3,k5,f8,f9,_,_,t4⟩:=aJ2 w (.pointer (some ⟨j,0,none⟩)) (.int .i64 z) (.bool true) 173 3 4;subst e7;go_wp2_with (first
     |(go_at_call 164;refine (aC Z).mono ?_;rintro e c1 ⟨rfl,rfl⟩)
     |go_in)
    subst p9;refine tF (v:=.tuple #[.int .i64 z,.bool true]) rfl (by simp [results,zt,go_sem,f8,f9]) ?_;exact ⟨z,true,S,rfl,⟨m.o.below i3,fX i3,zu _,λ_=>⟨c6.o,λ_=>Iff.rfl,c4.o⟩,λe=>(by cases e)⟩⟩
end
theorem aJb(w:World)(l:TypeId)(g:Nat)(d:Value)(b:List Nd)(r:w.ownsRow g 43 2 d b.length (aV b))(F:d.ownBlock≠none)(G:b.length<=1000000)(C:g<=w.heap.size)(e k:Nat)(a:Nd)(D:w.cell? ⟨e,0,none⟩=some (.string a.1))(E:w.cell? ⟨e,1,none⟩=some (.int .i64 a.2)):∃f i,(Builtin.append_ #[39,39] l #[d,.slice (some ⟨e,0,none⟩) 1 k]).run zk w=.ok f i/\i.ownsRow g 43 2 f (b.length+1) (aV (b++[a]))/\w.grownBy i d.ownBlock/\(f.ownBlock=d.ownBlock\/f.ownBlock=some w.heap.size):=by
 obtain ⟨y,o,x,t,v⟩:=info_parts rE;have q:∀(j:Nat) (m:Value),[Value.string a.1,zj .i64 a.2][j]?=some m->w.cell? ((⟨e,0,none⟩ : Addr).add j)=some m:=by
  intro j m c;have p:=(List.getElem?_eq_some_iff.1 c).1;simp at p;match j,p,c with
  |0,_,c=>simp at c;subst c;exact D
  |1,_,c=>simp at c;subst c;exact E
 have n:∀z∈[Value.string a.1,zj .i64 a.2],z.oneCell'=true:=by intro z u;simp at u;rcases u with rfl|rfl<;>rfl
 obtain ⟨f,i,s,A,B,_⟩:=run_append_own (P:=zk) w g 39 l 43 y (.agg #[.string ⟨#[]⟩,.int .i64 0]) 2 24 zl o x t v rfl (by decide) d b.length (aV b) r ⟨e,0,none⟩ 1 k [.string a.1,.int .i64 a.2] rfl q n (by unfold maxLen;omega) (by omega) C;exact ⟨f,i,s,by rw [vD];exact A,B,aBf w g 39 l 43 y (.agg #[.string ⟨#[]⟩,.int .i64 0]) 2 24 zl o x t v (by decide) d b.length (aV b) r F ⟨e,0,none⟩ 1 k [.string a.1,.int .i64 a.2] rfl q n (by unfold maxLen;omega) (by omega) s⟩
theorem aWu{l:Array Oper}{a:Oper}{b:Act}{w:World}{K:Act->World->Prop}{p:Exit->Act->World->Prop}{o:Prop}(v:a.guard=none)(m n:Operand)
  (y:a.op=.call {callee:=.builtin .append,args:=#[m,n],argTypes:=#[39,39]}) (g:Nat) (d:Value) (c:List Nd) (B:b.eval m=d) (z:w.ownsRow g 43 2 d c.length (aV c)) (E:d.ownBlock≠none) (x:c.length<=1000000) (u:g<=w.heap.size)
  (i k:Nat) (j:Nd) (G:b.eval n=.slice (some ⟨i,0,none⟩) 1 k) (C:w.cell? ⟨i,0,none⟩=some (.string j.1)) (D:w.cell? ⟨i,1,none⟩=some (.int .i64 j.2))
  (q:∀e f,f.ownsRow g 43 2 e (c.length+1) (aV (c++[j]))->w.grownBy f d.ownBlock->(e.ownBlock=d.ownBlock\/e.ownBlock=some w.heap.size)->K (b.put a.dst e) f):if Region.wanted a (yielded l b.tmps)=true then Oper.wp zk a b w K p else o:=by
 have F:Region.wanted a (yielded l b.tmps)=true:=by simp [Region.wanted,v]
 rw [aG F];obtain ⟨e,f,A,r,s,t⟩:=aJb w a.type g d c z E x u i k j C D;unfold Oper.wp execOp;simp only [y,resolve,invoke,builtin,Sem.run_bind,Sem.run_pure,Result.andThen_ok,List.map_toArray,List.map_cons,List.map_nil,B,G,A];exact q e f r s t
structure aJc(w:World)(B tb:Nat)(vn ve vl vs vm:Value)(L:List Nd)(F:List Nat)(S:List Int)(B1:Nat)(v:Value)(out:List Nd)(v':Value)(w':World):Prop where
 tm:bH w' B tb vn ve vl vs vm L F S
 row:w'.ownsRow B1 43 2 v' out.length (aV out)
 some:v'.ownBlock≠none
 far:w.grownBy w' v.ownBlock
 moved:jJ w v v'
structure mX(w:World)(B tb:Nat)(vn ve vl vs vm:Value)(L:List Nd)(F:List Nat)(S:List Int)(B1:Nat)(v:Value)(out:List Nd)(ex:Nat->List Nd)(nb N0:Nat)(pre:List Nat)(W:World):Prop where
 big:N0<=W.heap.size
 tm:bH W B tb vn ve vl vs vm L F S
 st:∃v',W.cell? ⟨nb,0,none⟩=some v'/\W.ownsRow B1 43 2 v' (out++(pre.map ex).flatten).length (aV (out++(pre.map ex).flatten))/\v'.ownBlock≠none/\jJ w v v'/\v'.ownBlock≠some nb/\v'.ownBlock≠some w.heap.size/\(∀k,N0<=k+2->k<N0->v'.ownBlock≠some k)
 nf:W.frozen? ⟨nb,0,none⟩=false
 far:w.grownBy W v.ownBlock
 x0:W.cell? ⟨w.heap.size,0,none⟩=some (.pointer (some ⟨tb,0,none⟩))
theorem aJd{j:World}{a:Nat}{b:TypeId}{g:Nat}{i:Value}{d:Nat}{l:List Value}{e:Option Nat}(c:w.ownsRow a b g i d l)(m:w.grownBy j e)(n:∀f,e=some f->∃k:Obj,w.heap[f]?=some k/\k.isCells=false):j.ownsRow a b g i d l:=dT c m (vR c n)
theorem mX.own{k t:Nat}{A x y B z:Value}{m:List Nat}{l:Nat}{u:Value}{r:List Nd}{ex:Nat->List Nd}{q n N:Nat}{C:List Nat}(F:w.heap.size<=N):OwnFrom N (λ(pre:List (nQ C)) e=>mX w k t A x y B z L m S l u r ex q n (pre.map λD=>D.1) e):=by
 intro pre e E s b a i;have d:∀c,s=some c->∃j:Obj,e.heap[c]?=some j/\j.isCells=false:=λc f=>(i c f).2
 obtain ⟨v,g,o,p⟩:=b.st;exact ⟨zw b.big a.size,b.tm.others a d,⟨v,cell_kept g a d,aJd o a d,p⟩,(frozen_kept g a d).trans b.nf,nO b.far a (λc f=>by have:=(i c f).1;omega),cell_kept b.x0 a d⟩
theorem aWv{e:Gr}{f:Nat->Nat->Prop}{j:Nat->Nat}(u:kA e f)(t:lE e f)(s:e.Arity)(v:∀b a,f b a->j b=j a){g:List Nat}{i:List Nd}(l:aU e f j g i):∃d:Nat->List Nd,(∀b∈g,aU e f j [b] (d b))/\(∀b∈g,(d b).length<=i.length)/\(g.map d).flatten=i:=by
 induction g generalizing i with
 |nil=>cases l;exact ⟨λ_=>[],by simp,by simp,rfl⟩
 |cons b r ih=>
  obtain ⟨n,y,rfl,m,q⟩:=l.split [b] r rfl;obtain ⟨d,k,o,p⟩:=ih q;have x:∀a∈r,a=b->d a=n:=by rintro a hj rfl;exact (k a hj).one u t s v _ m
  refine ⟨λa=>if a=b then n else d a,?_,?_,?_⟩
  ·intro a hj;by_cases c:a=b
   ·subst c;simpa using m
   ·rcases List.mem_cons.1 hj with hj|hj
    ·exact absurd hj c
    ·simpa [c] using k a hj
  ·intro a hj;by_cases c:a=b
   ·subst c;simp
   ·rcases List.mem_cons.1 hj with hj|hj
    ·exact absurd hj c
    ·have:=o a hj;simp [c];omega
  ·rw [List.map_cons,List.flatten_cons,aG rfl,<-p];congr 2
   apply List.map_congr_left;intro a hj;by_cases c:a=b
   ·rw [aG c,x a hj c]
   ·rw [aF c]
