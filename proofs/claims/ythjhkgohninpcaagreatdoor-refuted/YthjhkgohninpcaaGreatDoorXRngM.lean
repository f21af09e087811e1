import Derived.RangeFuncNested
import Derived.RangeFuncBound
import Derived.RangeFuncCalls
import Derived.RangeFuncLeaves
open Array renaming getElem?_eq_some_iff→zy
open Nat renaming le_succ→zx,lt_succ_self→zw,le_refl→zv,le_trans→zu
namespace Go.Proofs.YthjhkgohninpcaaGreatDoor
open World renaming putObj_heap_other→zz,alloc_heap_new→zt
open Go Go.RowKit
variable{S:List TypeId}{B:Nat}{W:World}
structure dT(S:List TypeId)(W W':World):Prop where
 size:W.heap.size<=W'.heap.size
 kc:∀(k:Nat) (cs:Array Value) (T:TypeId),W.heap[k]?=some (Obj.cells cs T (0,0))->T∉S->W'.heap[k]?=some (Obj.cells cs T (0,0))
theorem dT.refl(S:List TypeId)(W:World):dT S W W:=⟨zv _,λ_ _ _ a _=>a⟩
theorem dT.trans{S:List TypeId}{a B b:World}(e:dT S a B)(k:dT S B b):dT S a b:=⟨zu e.size k.size,λg d c i f=>k.kc g d c (e.kc g d c i f) f⟩
theorem dT.put(W:World)(l:Nat)(o d:Obj)(b:W.heap[l]?=some o)(c:o.isCells=false):dT S W (W.putObj l d):=
 ⟨by simp,λk f e a _=>(zz (by rintro rfl;rw [b] at a;cases a;cases c)).trans a⟩
theorem dT.grown{b d:World}{i:Option Nat}(e:b.grownBy d i)(m:∀g,i=some g->∃c:Obj,b.heap[g]?=some c/\c.isCells=false):dT S b d:=
 ⟨e.size,λf o n a _=>(e.block f (zy.1 a).1 (by
  intro j;obtain ⟨c,k,l⟩:=m f j.symm;rw [k] at a;cases a;cases l)).trans a⟩
def mX(S:List TypeId)(b:Nat)(W a:World):Prop:=dT S W a/\KeepsFrom b W a
theorem lF{a:Nat}{b:World}(c:KeepsFrom B W b)(f:B<=a):KeepsFrom a W b:=⟨c.size,λi j g d e=>c.same i j (zu f g) d e⟩
theorem mX.trans{S:List TypeId}{N:Nat}{b B c:World}(a:mX S N b B)(k:mX S N B c):mX S N b c:=⟨a.1.trans k.1,⟨zu a.2.size k.2.size,λf g e i d=>k.2.same f g e (a.2.same f g e i d) d⟩⟩
theorem mY{a:Nat}{b B c:World}(d:KeepsFrom a b B)(i:KeepsFrom a B c):KeepsFrom a b c:=⟨zu d.size i.size,λg j f k e=>i.same g j f (d.same g j f k e) e⟩
theorem mX.put{a:Nat}(W:World)(l:Nat)(o b:Obj)(d:W.heap[l]?=some o)(e:o.isCells=false)(f:l<a):mX S a W (W.putObj l b):=
 ⟨dT.put W l o b d e,⟨by simp,λk _ g c _=>(zz (by omega)).trans c⟩⟩
def vY{m:Type}(F:Fence)(n:Nat)(i:Program)(p:Nat)(q:Array Value)(o:m->Array Value->World->Prop)(S:List TypeId)(g:List m)(W:World):Prop:=
 ∀(k:Nat) (c f:Nat->World->Prop),OwnFrom W.heap.size c->OwnFrom W.heap.size f->
  (∀b l j d,g[b]?=some l->c b d->o l j d->YieldAt F (n-1) i k j d λe a=>
   (e=.returned (.bool true)/\c (b+1) a/\mX S W.heap.size d a)\/(e=.returned (.bool false)/\f b a/\KeepsFrom W.heap.size d a))->
  c 0 W->
  CallsIn F n i p (#[.func (.yield k) #[] #[]]++q) W λe a=>(∃r,e=.returned r)/\(c g.length a\/∃b,f b a)
def aCb(B:Nat)(S:List TypeId)(c:Nat->World->Prop)(b:Code->Nat->World->Prop)(a:Nat)(W:World):Exit->Act->World->Prop
 | .normal,_,W'=>KeepsFrom B W W'/\dT S W W'/\c (a+1) W'
 | .ret,_,W'=>KeepsFrom B W W'/\b .ret a W'
 | .exit i,_,W'=>KeepsFrom B W W'/\b (.exit i) a W'
 | .goto t,_,W'=>KeepsFrom B W W'/\b (.goto t) a W'
 | .panic _,_,_=>False
 | .outgrown,_,_=>False
theorem uG{n:Type}{a:Nat}{b:n->World->Prop}(i:OwnFrom B b)(j:B<=a):OwnFrom a b:=
 λs f g m l k d=>i s f g m l k (λe c=>⟨zu j (d e c).1,(d e c).2⟩)
def kB(d:FuncId)(g:Array Value)(f:Array Tmp)(a b:Code)(c:Nat)(s:LoopState)(e:Option Code):Loop:=
 {state:=s,pending:=e,fn:=d,tmps:=g,params:=f,assign:=a,body:=b,defers:=c}
structure oK(D:Nat)(r:Loop)(W:World):Prop where
 k:W.heap[D]?=some (.deferred (some []))
 l:W.heap[D+1]?=some (.loop r)
theorem oK.own{b:Nat}{f:Loop}(i:b+1<B):OwnFrom B (λ(_:Nat) W=>oK b f W):=λ_ X g j a c e=>by
 refine ⟨(c.block _ (zy.1 a.k).1 ?_).trans a.k,(c.block _ (zy.1 a.l).1 ?_).trans a.l⟩;all_goals
  intro d;have:=(e _ d.symm).1;omega
theorem oK.put{a:Nat}{d:Loop}(b:oK a d W)(c:Loop):oK a c (W.putObj (a+1) (.loop c)):=
 ⟨(zz (by omega)).trans b.k,World.putObj_heap_same (zy.1 b.l).1⟩
theorem oK.keep{a:Nat}{e:Loop}{b:World}(c:oK a e W)(f:B<=a)(d:KeepsFrom B W b):oK a e b:=
 ⟨d.same _ _ f c.k rfl,d.same _ _ (by omega) c.l rfl⟩
theorem aCc{D:Type}{F:Fence}{n:Nat}{s:Program}{R:Operand}{d:Array Tmp}{b c:Code}{N:Exit->Act->World->Prop}{a:Act}{w:World}
  (c6:F.round=none) (a8:1<=n) {gf:Nat} {lb:Array Value} (b9:a.eval R=.func (.func gf) #[] lb) (b0:F.fn gf) (a4:∀l w,(callFunc gf l).run s w=.ok (.enter gf l) w)
  {Enc:D->Array Value->World->Prop} {S:List TypeId} {L:List D}
  (c7:∀c9 d0,vY F (n-1) s gf lb Enc S L ((w.alloc c9).alloc d0))
  (c5:∀j l W,Enc j l W->l.size=d.size)
  (r:Nat->World->Prop) (E:Code->Nat->World->Prop) (v:OwnFrom w.heap.size r) (z:∀k,OwnFrom w.heap.size (E k)) (a7:r 0 w)
  (M:D->Act->World->Prop) (a9:∀j o,OwnFrom w.heap.size (λ(_:Unit) W=>M j o W))
  (b3:∀(J g:Nat) (j:D) (l:Array Value) (W:World) (K:Act->World->Prop),L[g]?=some j->r g W->Enc j l W->(∀o y,KeepsFrom w.heap.size W y->dT S W y->r g y->M j o y->K o y)->
   b.wpIn (F.inRound J) (n-1-1) s (Exit.then K (λ_ _ _=>False)) {tmps:=(d.zip l).foldl (λt (p,a2)=>t.setIfInBounds p a2) a.tmps,defers:=[]} W)
  (b5:∀(J g:Nat) (j:D) (o:Act) (W:World),w.heap.size<=J->L[g]?=some j->r g W->M j o W->
   c.wpIn (F.inRound J) (n-1-1) s (aCb w.heap.size S r E g W) o W)
  (b6:∀(W:World),r L.length W->W.heap[w.heap.size]?=some (.deferred (some []))->N .normal {a with defers:={target:=.collected w.heap.size,args:=#[]}::a.defers} W)
  (c8:∀(k:Code) (g:Nat) (W:World),E k g W->W.heap[w.heap.size]?=some (.deferred (some []))->k.wpIn F n s N {a with defers:={target:=.collected w.heap.size,args:=#[]}::a.defers} W):(Code.rangeFunc R d b c).wpIn F n s N a w:=by
 refine wpIn_rangeFunc λe b8=>?_
 have b1:oK w.heap.size (kB e a.tmps d b c w.heap.size .ready none) ((w.alloc (.deferred (some []))).alloc (.loop (kB e a.tmps d b c w.heap.size .ready none))):=by refine ⟨(Below.heap_alloc _ _ _ (by simp)).trans (zt w _),?_⟩;have:=zt (w.alloc (.deferred (some []))) (.loop (kB e a.tmps d b c w.heap.size .ready none));rwa [World.size_alloc] at this
 have I:((w.alloc (.deferred (some []))).alloc (.loop (kB e a.tmps d b c w.heap.size .ready none))).heap.size=w.heap.size+1+1:=by simp
 rw [c6];have b7:=run_enterLoop_outer (P:=s) (w:=w) e a.tmps d b c;refine ⟨w.heap.size+1,[{target:=.collected w.heap.size,args:=#[]}],(w.alloc (.deferred (some []))).alloc (.loop (kB e a.tmps d b c w.heap.size .ready none)),{target:=.fn (.func gf) lb,args:=#[.func (.yield (w.heap.size+1)) #[] #[]]},
  (w.alloc (.deferred (some []))).alloc (.loop (kB e a.tmps d b c w.heap.size .ready none)),gf,#[.func (.yield (w.heap.size+1)) #[] #[]]++lb,(w.alloc (.deferred (some []))).alloc (.loop (kB e a.tmps d b c w.heap.size .ready none)),b7,?_,?_,?_,λ_=>a8,?_⟩
 ·simp only [resolve,b9];simp [go_sem]
 ·intro d4 U;simp [Target.leads] at U;subst U;exact b0
 ·simp [invoke,go_sem,a4]
 refine (c7 _ _ (w.heap.size+1) (λg W=>r g W/\oK w.heap.size (kB e a.tmps d b c w.heap.size .ready none) W)
  (λg W=>∃k,E k g W/\oK w.heap.size (kB e a.tmps d b c w.heap.size .done (some k)) W) ?o1 ?o2 ?round ⟨v.alloc _ (v.alloc _ a7),b1⟩).mono ?behind
 case o1=>exact (uG v (by simp;omega)).and (oK.own (by simp))
 case o2=>
  rintro a1 O P a0 ⟨k,a5,a6⟩ V Y;exact ⟨k,uG (z k) (by simp;omega) a1 O P a0 a5 V Y,oK.own (by simp) a1 O P a0 a6 V Y⟩
 case round=>
  rintro g j l W Z ⟨A,q⟩ T;refine ⟨e,_,b,c,run_yield (P:=s) (args:=l) q.l (c5 j l W T),roundIn_of_wpIn b8 (b3 _ g j l W _ Z A T ?_)⟩;intro o a3 X c2 c1 b4;have C:=q.keep (zv _) X;refine ⟨_,run_beginRound C.l rfl,?_⟩;have H:=C.put (kB e a.tmps d b c w.heap.size .busy none);have c0:=v.putObj (.loop (kB e a.tmps d b c w.heap.size .busy none)) c1 (zx _) C.l rfl;have b2:=(a9 j o).putObj (s:=()) (.loop (kB e a.tmps d b c w.heap.size .busy none)) b4 (zx _) C.l rfl;have G:mX S (w.heap.size+1+1) W _:=mX.trans ⟨c2,lF X (by omega)⟩ (mX.put a3 _ _ (.loop (kB e a.tmps d b c w.heap.size .busy none)) C.l rfl (zw _));refine wpIn_mono (b5 _ g j o _ (zx _) Z c0 b2) ?_;rintro Q d3 d2 x;cases Q with
  |normal=>
   obtain ⟨m,c3,u⟩:=x;have f:=H.keep (zv _) m;have c4:=f.put (kB e a.tmps d b c w.heap.size .ready none);exact ⟨_,_,run_endRound none f.l,.inl ⟨rfl,⟨v.putObj _ u (zx _) f.l rfl,c4⟩,by rw [I];exact (G.trans ⟨c3,lF m (by omega)⟩).trans (mX.put _ _ _ _ f.l rfl (zw _))⟩⟩
  |ret=>
   obtain ⟨m,u⟩:=x;have f:=H.keep (zv _) m;exact ⟨_,_,run_endRound (some .ret) f.l,.inr ⟨rfl,⟨.ret,(z _).putObj _ u (zx _) f.l rfl,f.put (kB e a.tmps d b c w.heap.size .done (some .ret))⟩,by rw [I];exact (mY (mY G.2 (lF m (by omega))) (mX.put (S:=S) _ _ _ _ f.l rfl (zw _)).2)⟩⟩
  |exit i=>
   obtain ⟨m,u⟩:=x;have f:=H.keep (zv _) m;exact ⟨_,_,run_endRound (some (.exit i)) f.l,.inr ⟨rfl,⟨.exit i,(z _).putObj _ u (zx _) f.l rfl,f.put (kB e a.tmps d b c w.heap.size .done (some (.exit i)))⟩,by rw [I];exact (mY (mY G.2 (lF m (by omega))) (mX.put (S:=S) _ _ _ _ f.l rfl (zw _)).2)⟩⟩
  |goto t=>
   obtain ⟨m,u⟩:=x;have f:=H.keep (zv _) m;exact ⟨_,_,run_endRound (some (.goto t)) f.l,.inr ⟨rfl,⟨.goto t,(z _).putObj _ u (zx _) f.l rfl,f.put (kB e a.tmps d b c w.heap.size .done (some (.goto t)))⟩,by rw [I];exact (mY (mY G.2 (lF m (by omega))) (mX.put (S:=S) _ _ _ _ f.l rfl (zw _)).2)⟩⟩
  |panic ch=>exact x.elim
  |outgrown=>exact x.elim
 case behind=>
  rintro Q d1 ⟨⟨a2,rfl⟩,(⟨A,q⟩|⟨g,k,A,q⟩)⟩
  ·exact ⟨none,_,run_endLoop q.l (by simp [kB]),b6 _ (v.putObj _ A (zx _) q.l rfl) ((zz (by omega)).trans q.k)⟩
  ·exact ⟨some k,_,run_endLoop q.l (by simp [kB]),c8 k g _ ((z k).putObj _ A (zx _) q.l rfl) ((zz (by omega)).trans q.k)⟩
theorem aMr{l:Type}{f:Fence}{k:Nat}{j:Program}{y:Operand}{s:Array Tmp}{w x:Code}{q:Exit->Act->World->Prop}{g:Act}{a:World}
  (R:f.round=none) (D:1<=k) {gf:Nat} {lb:Array Value} (O:g.eval y=.func (.func gf) #[] lb) (E:f.fn gf) (z:∀c a,(callFunc gf c).run j a=.ok (.enter gf c) a)
  {Enc:l->Array Value->World->Prop} {S:List TypeId} {L:List l}
  (T:∀X Y,vY f (k-1) j gf lb Enc S L ((a.alloc X).alloc Y))
  (Q:∀b c W,Enc b c W->c.size=s.size)
  (i:Nat->World->Prop) (m:Code->Nat->World->Prop) (F:OwnFrom a.heap.size i) (G:∀n,OwnFrom a.heap.size (m n)) (C:i 0 a)
  (o:l->Act)
  (I:∀(e:Nat) (b:l) (c:Array Value) (W:World) (K:Act->World->Prop),Enc b c W->K (o b) W->
   w.wpIn (f.inRound e) (k-1-1) j (Exit.then K (λ_ _ _=>False)) {tmps:=(s.zip c).foldl (λt (p,v)=>t.setIfInBounds p v) g.tmps,defers:=[]} W)
  (J:∀(e d:Nat) (b:l) (W:World),a.heap.size<=e->L[d]?=some b->i d W->
   x.wpIn (f.inRound e) (k-1-1) j (aCb a.heap.size S i m d W) (o b) W)
  (M:∀(W:World),i L.length W->W.heap[a.heap.size]?=some (.deferred (some []))->q .normal {g with defers:={target:=.collected a.heap.size,args:=#[]}::g.defers} W)
  (U:∀(n:Code) (d:Nat) (W:World),m n d W->W.heap[a.heap.size]?=some (.deferred (some []))->n.wpIn f k j q {g with defers:={target:=.collected a.heap.size,args:=#[]}::g.defers} W):(Code.rangeFunc y s w x).wpIn f k j q g a:=
 aCc R D O E z T Q i m F G C (λb u _=>u=o b) (λ_ _ _ _ _ _ A _ _=>A)
  (λe d b c W K _ r N hK=>I e b c W K N (hK _ _ (KeepsFrom.refl _ _) (dT.refl _ _) r rfl))
  (λe d b u W P V r H=>by subst H;exact J e d b W P V r) M U
