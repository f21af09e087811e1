import Derived.Test.YtbpiopdphigodaaGreatDoorBase0P
import Derived.RangeFuncNested
import Derived.RangeFuncBound
import Derived.RangeFuncCalls
import Derived.RangeFuncLeaves
open Array renaming getElem?_eq_some_iff→zy
open List renaming take_of_length_le→zt,length_append→zr
open Nat renaming le_succ→zx,lt_succ_self→zw,le_refl→zv,le_trans→zu
namespace Go.Proofs.YtbpiopdphigodaaGreatDoor
open World renaming putObj_heap_other→zz,alloc_heap_new→zs
open Go.RowKit
set_option maxRecDepth 100000
variable{S:List TypeId}{B:Nat}{W:World}
abbrev Pl:=ByteArray×Bool×Int×Int
def yQ(a b:Pl):Prop:=a.1=b.1/\(a.2.1≠b.2.1\/a.2.2.1≠b.2.2.1)
def nK(b:List Pl)(a:Nat)(d:a<b.length):Prop:=5<b[a].2.2.1\/∃c,∃e:c<a,yQ (b[c]'(by omega)) b[a]
def uI(b:List Pl)(e:Int):Prop:=(e=-1/\∀a c,¬nK b a c)\/∃a c,nK b a c/\(∀d f,d<a->¬nK b d f)/\e=b[a].2.2.2
abbrev Us:=ByteArray×Bool×Int
def lD(b:Nat)(a:Nd):List Us:=if aM a then [] else [(a.1,decide (b=0),a.2)]
def hH(a:List Nd):Nat->List Us
 |0=>[]
 |k+1=>hH a k++((a[k]?).map (lD k)).getD []
def jX(a:List Lt):Nat->List Us
 |0=>[]
 |k+1=>jX a k++((a[k]?).map λb=>hH b.2 b.2.length).getD []
def eJ(a:List Lt):List Us:=jX a a.length
theorem aHc(b:List Nd)(a:Nat)(c:a<b.length):hH b (a+1)=hH b a++lD a b[a]:=by simp [hH,c]
theorem aC4(a:List Lt)(b:Nat)(c:b<a.length):jX a (b+1)=jX a b++hH a[b].2 a[b].2.length:=by simp [jX,c]
theorem aHd(b:List Nd)(a:Nat):(hH b a).length<=a:=by
 induction a with
 |zero=>simp [hH]
 |succ a ih=>
  simp only [hH,zr];have:(((b[a]?).map (lD a)).getD []).length<=1:=by
   cases b[a]? with
   |none=>simp
   |some n=>simp [lD];split<;>simp
  omega
theorem aHe(b:List Lt)(a:Nat):(jX b a).length<=aS (b.take a):=by
 induction a with
 |zero=>simp [jX]
 |succ a ih=>
  by_cases c:a<b.length
  ·rw [aC4 b a c,List.take_succ_eq_append_getElem c,pZ,zr];have:=aHd b[a].2 b[a].2.length;omega
  ·have d:b[a]?=none:=List.getElem?_eq_none (by omega);have e:b.take (a+1)=b.take a:=by rw [zt (by omega),zt (by omega)]
   simp only [jX,d,e];simpa using ih
def kM(a:List Us):Prop:=∀b (d:b<a.length),a[b].2.2<=5/\∀c (e:c<b),(a[c]'(by omega)).1=a[b].1->(a[c]'(by omega)).2=a[b].2
theorem aSc(a:Nat):((a:Int)==0)=decide (a=0):=by rw [Bool.eq_iff_iff];simp
def iY(a:Pl):Us:=(a.1,a.2.1,a.2.2.1)
structure cK(S:List TypeId)(W W':World):Prop where
 size:W.heap.size<=W'.heap.size
 kc:∀(k:Nat) (cs:Array Value) (T:TypeId),W.heap[k]?=some (Obj.cells cs T (0,0))->T∉S->W'.heap[k]?=some (Obj.cells cs T (0,0))
theorem cK.refl(S:List TypeId)(W:World):cK S W W:=⟨zv _,λ_ _ _ a _=>a⟩
theorem cK.trans{S:List TypeId}{a B b:World}(e:cK S a B)(k:cK S B b):cK S a b:=⟨zu e.size k.size,λg d c i f=>k.kc g d c (e.kc g d c i f) f⟩
theorem cK.put(W:World)(l:Nat)(b e:Obj)(c:W.heap[l]?=some b)(d:b.isCells=false):cK S W (W.putObj l e):=
 ⟨by simp,λk g f a _=>(zz (by rintro rfl;rw [c] at a;cases a;cases d)).trans a⟩
theorem cK.grown{b d:World}{i:Option Nat}(e:b.grownBy d i)(m:∀g,i=some g->∃c:Obj,b.heap[g]?=some c/\c.isCells=false):cK S b d:=
 ⟨e.size,λf o n a _=>(e.block f (zy.1 a).1 (by
  intro j;obtain ⟨c,k,l⟩:=m f j.symm;rw [k] at a;cases a;cases l)).trans a⟩
def lW(S:List TypeId)(b:Nat)(W a:World):Prop:=cK S W a/\KeepsFrom b W a
theorem jY{a:Nat}{b:World}(c:KeepsFrom B W b)(f:B<=a):KeepsFrom a W b:=⟨c.size,λi j g d e=>c.same i j (zu f g) d e⟩
theorem lW.trans{S:List TypeId}{N:Nat}{b B c:World}(a:lW S N b B)(k:lW S N B c):lW S N b c:=⟨a.1.trans k.1,⟨zu a.2.size k.2.size,λf g e i d=>k.2.same f g e (a.2.same f g e i d) d⟩⟩
theorem lX{a:Nat}{b B c:World}(d:KeepsFrom a b B)(i:KeepsFrom a B c):KeepsFrom a b c:=⟨zu d.size i.size,λg j f k e=>i.same g j f (d.same g j f k e) e⟩
theorem lW.put{b:Nat}(W:World)(l:Nat)(a c:Obj)(e:W.heap[l]?=some a)(f:a.isCells=false)(g:l<b):lW S b W (W.putObj l c):=
 ⟨cK.put W l a c e f,⟨by simp,λk _ i d _=>(zz (by omega)).trans d⟩⟩
def rO{m:Type}(F:Fence)(n:Nat)(i:Program)(p:Nat)(lb:Array Value)(o:m->Array Value->World->Prop)(S:List TypeId)(g:List m)(W:World):Prop:=
 ∀(k:Nat) (c f:Nat->World->Prop),OwnFrom W.heap.size c->OwnFrom W.heap.size f->
  (∀b l j d,g[b]?=some l->c b d->o l j d->YieldAt F (n-1) i k j d λe a=>
   (e=.returned (.bool true)/\c (b+1) a/\lW S W.heap.size d a)\/(e=.returned (.bool false)/\f b a/\KeepsFrom W.heap.size d a))->
  c 0 W->
  CallsIn F n i p (#[.func (.yield k) #[] #[]]++lb) W λe a=>(∃q,e=.returned q)/\(c g.length a\/∃b,f b a)
def yR(B:Nat)(S:List TypeId)(c:Nat->World->Prop)(b:Code->Nat->World->Prop)(a:Nat)(W:World):Exit->Act->World->Prop
 | .normal,_,W'=>KeepsFrom B W W'/\cK S W W'/\c (a+1) W'
 | .ret,_,W'=>KeepsFrom B W W'/\b .ret a W'
 | .exit i,_,W'=>KeepsFrom B W W'/\b (.exit i) a W'
 | .goto t,_,W'=>KeepsFrom B W W'/\b (.goto t) a W'
 | .panic _,_,_=>False
 | .outgrown,_,_=>False
theorem rP{n:Type}{a:Nat}{b:n->World->Prop}(i:OwnFrom B b)(j:B<=a):OwnFrom a b:=
 λs f g m l k d=>i s f g m l k (λe c=>⟨zu j (d e c).1,(d e c).2⟩)
def iZ(d:FuncId)(g:Array Value)(f:Array Tmp)(a b:Code)(c:Nat)(s:LoopState)(e:Option Code):Loop:=
 {state:=s,pending:=e,fn:=d,tmps:=g,params:=f,assign:=a,body:=b,defers:=c}
structure mP(D:Nat)(r:Loop)(W:World):Prop where
 k:W.heap[D]?=some (.deferred (some []))
 l:W.heap[D+1]?=some (.loop r)
theorem mP.own{b:Nat}{f:Loop}(j:b+1<B):OwnFrom B (λ(_:Nat) W=>mP b f W):=λ_ g i k a c e=>by
 refine ⟨(c.block _ (zy.1 a.k).1 ?_).trans a.k,(c.block _ (zy.1 a.l).1 ?_).trans a.l⟩;all_goals
  intro d;have:=(e _ d.symm).1;omega
theorem mP.put{a:Nat}{d:Loop}(b:mP a d W)(c:Loop):mP a c (W.putObj (a+1) (.loop c)):=
 ⟨(zz (by omega)).trans b.k,World.putObj_heap_same (zy.1 b.l).1⟩
theorem mP.keep{a:Nat}{e:Loop}{b:World}(c:mP a e W)(f:B<=a)(d:KeepsFrom B W b):mP a e b:=
 ⟨d.same _ _ f c.k rfl,d.same _ _ (by omega) c.l rfl⟩
theorem vU{D:Type}{F:Fence}{n:Nat}{s:Program}{R:Operand}{d:Array Tmp}{b c:Code}{N:Exit->Act->World->Prop}{a:Act}{w:World}
  (c6:F.round=none) (a8:1<=n) {gf:Nat} {lb:Array Value} (b9:a.eval R=.func (.func gf) #[] lb) (b0:F.fn gf) (a4:∀l w,(callFunc gf l).run s w=.ok (.enter gf l) w)
  {Enc:D->Array Value->World->Prop} {S:List TypeId} {L:List D}
  (c7:∀c9 d0,rO F (n-1) s gf lb Enc S L ((w.alloc c9).alloc d0))
  (c5:∀j l W,Enc j l W->l.size=d.size)
  (r:Nat->World->Prop) (E:Code->Nat->World->Prop) (v:OwnFrom w.heap.size r) (z:∀k,OwnFrom w.heap.size (E k)) (a7:r 0 w)
  (M:D->Act->World->Prop) (a9:∀j o,OwnFrom w.heap.size (λ(_:Unit) W=>M j o W))
  (b3:∀(J g:Nat) (j:D) (l:Array Value) (W:World) (K:Act->World->Prop),L[g]?=some j->r g W->Enc j l W->(∀o y,KeepsFrom w.heap.size W y->cK S W y->r g y->M j o y->K o y)->
   b.wpIn (F.inRound J) (n-1-1) s (Exit.then K (λ_ _ _=>False)) {tmps:=(d.zip l).foldl (λt (p,a2)=>t.setIfInBounds p a2) a.tmps,defers:=[]} W)
  (b5:∀(J g:Nat) (j:D) (o:Act) (W:World),w.heap.size<=J->L[g]?=some j->r g W->M j o W->
   c.wpIn (F.inRound J) (n-1-1) s (yR w.heap.size S r E g W) o W)
  (b6:∀(W:World),r L.length W->W.heap[w.heap.size]?=some (.deferred (some []))->N .normal {a with defers:={target:=.collected w.heap.size,args:=#[]}::a.defers} W)
  (c8:∀(k:Code) (g:Nat) (W:World),E k g W->W.heap[w.heap.size]?=some (.deferred (some []))->k.wpIn F n s N {a with defers:={target:=.collected w.heap.size,args:=#[]}::a.defers} W):(Code.rangeFunc R d b c).wpIn F n s N a w:=by
 refine wpIn_rangeFunc λe b8=>?_
 have b1:mP w.heap.size (iZ e a.tmps d b c w.heap.size .ready none) ((w.alloc (.deferred (some []))).alloc (.loop (iZ e a.tmps d b c w.heap.size .ready none))):=by refine ⟨(Below.heap_alloc _ _ _ (by simp)).trans (zs w _),?_⟩;have:=zs (w.alloc (.deferred (some []))) (.loop (iZ e a.tmps d b c w.heap.size .ready none));rwa [World.size_alloc] at this
 have I:((w.alloc (.deferred (some []))).alloc (.loop (iZ e a.tmps d b c w.heap.size .ready none))).heap.size=w.heap.size+1+1:=by simp
 rw [c6];have b7:=run_enterLoop_outer (P:=s) (w:=w) e a.tmps d b c;refine ⟨w.heap.size+1,[{target:=.collected w.heap.size,args:=#[]}],(w.alloc (.deferred (some []))).alloc (.loop (iZ e a.tmps d b c w.heap.size .ready none)),{target:=.fn (.func gf) lb,args:=#[.func (.yield (w.heap.size+1)) #[] #[]]},
  (w.alloc (.deferred (some []))).alloc (.loop (iZ e a.tmps d b c w.heap.size .ready none)),gf,#[.func (.yield (w.heap.size+1)) #[] #[]]++lb,(w.alloc (.deferred (some []))).alloc (.loop (iZ e a.tmps d b c w.heap.size .ready none)),b7,?_,?_,?_,λ_=>a8,?_⟩
 ·simp only [resolve,b9];simp [go_sem]
 ·intro d4 U;simp [Target.leads] at U;subst U;exact b0
 ·simp [invoke,go_sem,a4]
 refine (c7 _ _ (w.heap.size+1) (λg W=>r g W/\mP w.heap.size (iZ e a.tmps d b c w.heap.size .ready none) W)
  (λg W=>∃k,E k g W/\mP w.heap.size (iZ e a.tmps d b c w.heap.size .done (some k)) W) ?o1 ?o2 ?round ⟨v.alloc _ (v.alloc _ a7),b1⟩).mono ?behind
 case o1=>exact (rP v (by simp;omega)).and (mP.own (by simp))
 case o2=>
  rintro a1 O P a0 ⟨k,a5,a6⟩ V Y;exact ⟨k,rP (z k) (by simp;omega) a1 O P a0 a5 V Y,mP.own (by simp) a1 O P a0 a6 V Y⟩
 case round=>
  rintro g j l W Z ⟨A,q⟩ T;refine ⟨e,_,b,c,run_yield (P:=s) (args:=l) q.l (c5 j l W T),roundIn_of_wpIn b8 (b3 _ g j l W _ Z A T ?_)⟩;intro o a3 X c2 c1 b4;have C:=q.keep (zv _) X;refine ⟨_,run_beginRound C.l rfl,?_⟩;have H:=C.put (iZ e a.tmps d b c w.heap.size .busy none);have c0:=v.putObj (.loop (iZ e a.tmps d b c w.heap.size .busy none)) c1 (zx _) C.l rfl;have b2:=(a9 j o).putObj (s:=()) (.loop (iZ e a.tmps d b c w.heap.size .busy none)) b4 (zx _) C.l rfl;have G:lW S (w.heap.size+1+1) W _:=lW.trans ⟨c2,jY X (by omega)⟩ (lW.put a3 _ _ (.loop (iZ e a.tmps d b c w.heap.size .busy none)) C.l rfl (zw _));refine wpIn_mono (b5 _ g j o _ (zx _) Z c0 b2) ?_;rintro Q d3 d2 x;cases Q with
  |normal=>
   obtain ⟨m,c3,u⟩:=x;have f:=H.keep (zv _) m;have c4:=f.put (iZ e a.tmps d b c w.heap.size .ready none);exact ⟨_,_,run_endRound none f.l,.inl ⟨rfl,⟨v.putObj _ u (zx _) f.l rfl,c4⟩,by rw [I];exact (G.trans ⟨c3,jY m (by omega)⟩).trans (lW.put _ _ _ _ f.l rfl (zw _))⟩⟩
  |ret=>
   obtain ⟨m,u⟩:=x;have f:=H.keep (zv _) m;exact ⟨_,_,run_endRound (some .ret) f.l,.inr ⟨rfl,⟨.ret,(z _).putObj _ u (zx _) f.l rfl,f.put (iZ e a.tmps d b c w.heap.size .done (some .ret))⟩,by rw [I];exact (lX (lX G.2 (jY m (by omega))) (lW.put (S:=S) _ _ _ _ f.l rfl (zw _)).2)⟩⟩
  |exit i=>
   obtain ⟨m,u⟩:=x;have f:=H.keep (zv _) m;exact ⟨_,_,run_endRound (some (.exit i)) f.l,.inr ⟨rfl,⟨.exit i,(z _).putObj _ u (zx _) f.l rfl,f.put (iZ e a.tmps d b c w.heap.size .done (some (.exit i)))⟩,by rw [I];exact (lX (lX G.2 (jY m (by omega))) (lW.put (S:=S) _ _ _ _ f.l rfl (zw _)).2)⟩⟩
  |goto t=>
   obtain ⟨m,u⟩:=x;have f:=H.keep (zv _) m;exact ⟨_,_,run_endRound (some (.goto t)) f.l,.inr ⟨rfl,⟨.goto t,(z _).putObj _ u (zx _) f.l rfl,f.put (iZ e a.tmps d b c w.heap.size .done (some (.goto t)))⟩,by rw [I];exact (lX (lX G.2 (jY m (by omega))) (lW.put (S:=S) _ _ _ _ f.l rfl (zw _)).2)⟩⟩
  |panic ch=>exact x.elim
  |outgrown=>exact x.elim
 case behind=>
  rintro Q d1 ⟨⟨a2,rfl⟩,(⟨A,q⟩|⟨g,k,A,q⟩)⟩
  ·exact ⟨none,_,run_endLoop q.l (by simp [iZ]),b6 _ (v.putObj _ A (zx _) q.l rfl) ((zz (by omega)).trans q.k)⟩
  ·exact ⟨some k,_,run_endLoop q.l (by simp [iZ]),c8 k g _ ((z k).putObj _ A (zx _) q.l rfl) ((zz (by omega)).trans q.k)⟩
theorem aHf{l:Type}{f:Fence}{k:Nat}{j:Program}{y:Operand}{s:Array Tmp}{w x:Code}{q:Exit->Act->World->Prop}{g:Act}{a:World}
  (R:f.round=none) (D:1<=k) {gf:Nat} {lb:Array Value} (O:g.eval y=.func (.func gf) #[] lb) (E:f.fn gf) (z:∀c a,(callFunc gf c).run j a=.ok (.enter gf c) a)
  {Enc:l->Array Value->World->Prop} {S:List TypeId} {L:List l}
  (T:∀X Y,rO f (k-1) j gf lb Enc S L ((a.alloc X).alloc Y))
  (Q:∀b c W,Enc b c W->c.size=s.size)
  (i:Nat->World->Prop) (m:Code->Nat->World->Prop) (F:OwnFrom a.heap.size i) (G:∀n,OwnFrom a.heap.size (m n)) (C:i 0 a)
  (o:l->Act)
  (I:∀(e:Nat) (b:l) (c:Array Value) (W:World) (K:Act->World->Prop),Enc b c W->K (o b) W->
   w.wpIn (f.inRound e) (k-1-1) j (Exit.then K (λ_ _ _=>False)) {tmps:=(s.zip c).foldl (λt (p,v)=>t.setIfInBounds p v) g.tmps,defers:=[]} W)
  (J:∀(e d:Nat) (b:l) (W:World),a.heap.size<=e->L[d]?=some b->i d W->
   x.wpIn (f.inRound e) (k-1-1) j (yR a.heap.size S i m d W) (o b) W)
  (M:∀(W:World),i L.length W->W.heap[a.heap.size]?=some (.deferred (some []))->q .normal {g with defers:={target:=.collected a.heap.size,args:=#[]}::g.defers} W)
  (U:∀(n:Code) (d:Nat) (W:World),m n d W->W.heap[a.heap.size]?=some (.deferred (some []))->n.wpIn f k j q {g with defers:={target:=.collected a.heap.size,args:=#[]}::g.defers} W):(Code.rangeFunc y s w x).wpIn f k j q g a:=
 vU R D O E z T Q i m F G C (λb u _=>u=o b) (λ_ _ _ _ _ _ A _ _=>A)
  (λe d b c W K _ r N hK=>I e b c W K N (hK _ _ (KeepsFrom.refl _ _) (cK.refl _ _) r rfl))
  (λe d b u W P V r H=>by subst H;exact J e d b W P V r) M U
