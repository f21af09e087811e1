import Derived.Test.YtmelidkanelpbaaGreatDoorONumberH
import Derived.Test.YtmelidkanelpbaaGreatDoorText0H
import Derived.Test.YtmelidkanelpbaaGreatDoorXCutH
import Derived.Shelf.RegionOpen
import Derived.OwnWalkIn
import Derived.TacticsInMore
import Derived.LoopNIn
import Derived.LoopIn
open Array renaming getElem?_eq_some_iff→zz
open List renaming getElem_mem→zv,getElem?_eq_getElem→zp,range_succ→zo,prefix_append→zm,prefix_refl→zk,range→zj
open Nat renaming le_refl→zy,le_succ→zu,lt_succ_self→zt,le_trans→zs,zero_le→zn
open Prod renaming fst→zw
namespace Go.Proofs.YtmelidkanelpbaaGreatDoor
open _root_.Go.Proofs.Tryz renaming prog→zq
open World renaming putObj_heap_other→zx,alloc_heap_new→zr,size_alloc→zl
open Go.RowKit Go.Shelf Go.WideMaps
set_option maxHeartbeats 4000000
set_option maxRecDepth 100000
variable{c d:List Lt}{S:List TypeId}{B B':Nat}{U V W W' w:World}
def bR(B:Nat)(w:World)(f:Value)(e:List Lt):Prop:=∃a:List (Lt×Value),a.map zw=e/\w.ownsRow B 86 2 f a.length (bF a)/\(∀b∈a,yE w B b.2 b.1.2)/\((a.map Prod.snd).filterMap Value.ownBlock).Nodup
theorem bR.nil(B:Nat)(w:World):bR B w (.slice none 0 0) []:=⟨[],rfl,World.ownsRow_nil _ _ _ _,λq a=>by simp at a,by simp⟩
structure cO(S:List TypeId)(W W':World):Prop where
 size:W.heap.size<=W'.heap.size
 kc:∀(k:Nat) (cs:Array Value) (T:TypeId),W.heap[k]?=some (Obj.cells cs T (0,0))->T∉S->W'.heap[k]?=some (Obj.cells cs T (0,0))
theorem cO.refl(S:List TypeId)(W:World):cO S W W:=⟨zy _,λ_ _ _ a _=>a⟩
theorem cO.trans{S:List TypeId}{a B b:World}(g:cO S a B)(k:cO S B b):cO S a b:=⟨zs g.size k.size,λj f e l i=>k.kc j f e (g.kc j f e l i) i⟩
theorem cO.put(W:World)(l:Nat)(b g:Obj)(e:W.heap[l]?=some b)(f:b.isCells=false):cO S W (W.putObj l g):=
 ⟨by simp,λk j i a _=>(zx (by rintro rfl;rw [e] at a;cases a;cases f)).trans a⟩
theorem cO.grown{i:Option Nat}(e:U.grownBy V i)(m:∀g,i=some g->∃b:Obj,U.heap[g]?=some b/\b.isCells=false):cO S U V:=
 ⟨e.size,λf o n a _=>(e.block f (zz.1 a).1 (by
  intro j;obtain ⟨b,k,l⟩:=m f j.symm;rw [k] at a;cases a;cases l)).trans a⟩
def nB(S:List TypeId)(a:Nat)(W W':World):Prop:=cO S W W'/\KeepsFrom a W W'
theorem kT(a:KeepsFrom B W W')(f:B<=B'):KeepsFrom B' W W':=⟨a.size,λi j g b e=>a.same i j (zs f g) b e⟩
theorem nB.trans{S:List TypeId}{N:Nat}{b B e:World}(a:nB S N b B)(k:nB S N B e):nB S N b e:=⟨a.1.trans k.1,⟨zs a.2.size k.2.size,λi j g l f=>k.2.same i j g (a.2.same i j g l f) f⟩⟩
theorem nC{a:Nat}{b B e:World}(f:KeepsFrom a b B)(k:KeepsFrom a B e):KeepsFrom a b e:=⟨zs f.size k.size,λj l i m g=>k.same j l i (f.same j l i m g) g⟩
theorem nB.put{b:Nat}(W:World)(l:Nat)(a e:Obj)(g:W.heap[l]?=some a)(i:a.isCells=false)(j:l<b):nB S b W (W.putObj l e):=
 ⟨cO.put W l a e g i,⟨by simp,λk _ m f _=>(zx (by omega)).trans f⟩⟩
def tN{o:Type}(F:Fence)(n:Nat)(j:Program)(q:Nat)(lb:Array Value)(p:o->Array Value->World->Prop)(S:List TypeId)(i:List o)(W:World):Prop:=
 ∀(l:Nat) (b g:Nat->World->Prop),OwnFrom W.heap.size b->OwnFrom W.heap.size g->
  (∀a m k e,i[a]?=some m->b a e->p m k e->YieldAt F (n-1) j l k e λf W'=>
   (f=.returned (.bool true)/\b (a+1) W'/\nB S W.heap.size e W')\/(f=.returned (.bool false)/\g a W'/\KeepsFrom W.heap.size e W'))->
  b 0 W->
  CallsIn F n j q (#[.func (.yield l) #[] #[]]++lb) W λf W'=>(∃r,f=.returned r)/\(b i.length W'\/∃a,g a W')
def aBo(B:Nat)(S:List TypeId)(e:Nat->World->Prop)(b:Code->Nat->World->Prop)(a:Nat)(W:World):Exit->Act->World->Prop
 | .normal,_,W'=>KeepsFrom B W W'/\cO S W W'/\e (a+1) W'
 | .ret,_,W'=>KeepsFrom B W W'/\b .ret a W'
 | .exit i,_,W'=>KeepsFrom B W W'/\b (.exit i) a W'
 | .goto t,_,W'=>KeepsFrom B W W'/\b (.goto t) a W'
 | .panic _,_,_=>False
 | .outgrown,_,_=>False
theorem tO{o:Type}{a:o->World->Prop}(j:OwnFrom B a)(k:B<=B'):OwnFrom B' a:=
 λs g i n m l e=>j s g i n m l (λf b=>⟨zs k (e f b).1,(e f b).2⟩)
def jR(e:FuncId)(i:Array Value)(g:Array Tmp)(a b:Code)(d:Nat)(s:LoopState)(f:Option Code):Loop:=
 {state:=s,pending:=f,fn:=e,tmps:=i,params:=g,assign:=a,body:=b,defers:=d}
structure oB(D:Nat)(r:Loop)(W:World):Prop where
 k:W.heap[D]?=some (.deferred (some []))
 l:W.heap[D+1]?=some (.loop r)
theorem oB.own{b:Nat}{i:Loop}(l:b+1<B):OwnFrom B (λ(_:Nat) W=>oB b i W):=λ_ j k m a e g=>by
 refine ⟨(e.block _ (zz.1 a.k).1 ?_).trans a.k,(e.block _ (zz.1 a.l).1 ?_).trans a.l⟩;all_goals
  intro f;have:=(g _ f.symm).1;omega
theorem oB.put{a:Nat}{f:Loop}(b:oB a f W)(e:Loop):oB a e (W.putObj (a+1) (.loop e)):=
 ⟨(zx (by omega)).trans b.k,World.putObj_heap_same (zz.1 b.l).1⟩
theorem oB.keep{a:Nat}{f:Loop}(b:oB a f W)(g:B<=a)(e:KeepsFrom B W W'):oB a f W':=
 ⟨e.same _ _ g b.k rfl,e.same _ _ (by omega) b.l rfl⟩
theorem zA{D:Type}{F:Fence}{n:Nat}{u:Program}{R:Operand}{f:Array Tmp}{b e:Code}{N:Exit->Act->World->Prop}{a:Act}
  (c8:F.round=none) (b0:1<=n) {gf:Nat} {lb:Array Value} (c1:a.eval R=.func (.func gf) #[] lb) (b2:F.fn gf) (a6:∀m w,(callFunc gf m).run u w=.ok (.enter gf m) w)
  {Enc:D->Array Value->World->Prop} {S:List TypeId} {L:List D}
  (c9:∀d1 d2,tN F (n-1) u gf lb Enc S L ((w.alloc d1).alloc d2))
  (c7:∀l m W,Enc l m W->m.size=f.size)
  (s:Nat->World->Prop) (E:Code->Nat->World->Prop) (x:OwnFrom w.heap.size s) (z:∀c,OwnFrom w.heap.size (E c)) (a9:s 0 w)
  (M:D->Act->World->Prop) (b1:∀l q,OwnFrom w.heap.size (λ(_:Unit) W=>M l q W))
  (b5:∀(J k:Nat) (l:D) (m:Array Value) (W:World) (K:Act->World->Prop),L[k]?=some l->s k W->Enc l m W->(∀q W',KeepsFrom w.heap.size W W'->cO S W W'->s k W'->M l q W'->K q W')->
   b.wpIn (F.inRound J) (n-1-1) u (Exit.then K (λ_ _ _=>False)) {tmps:=(f.zip m).foldl (λt (p,a4)=>t.setIfInBounds p a4) a.tmps,defers:=[]} W)
  (b7:∀(J k:Nat) (l:D) (q:Act) (W:World),w.heap.size<=J->L[k]?=some l->s k W->M l q W->
   e.wpIn (F.inRound J) (n-1-1) u (aBo w.heap.size S s E k W) q W)
  (b8:∀(W:World),s L.length W->W.heap[w.heap.size]?=some (.deferred (some []))->N .normal {a with defers:={target:=.collected w.heap.size,args:=#[]}::a.defers} W)
  (d0:∀(c:Code) (k:Nat) (W:World),E c k W->W.heap[w.heap.size]?=some (.deferred (some []))->c.wpIn F n u N {a with defers:={target:=.collected w.heap.size,args:=#[]}::a.defers} W):(Code.rangeFunc R f b e).wpIn F n u N a w:=by
 refine wpIn_rangeFunc λg c0=>?_
 have b3:oB w.heap.size (jR g a.tmps f b e w.heap.size .ready none) ((w.alloc (.deferred (some []))).alloc (.loop (jR g a.tmps f b e w.heap.size .ready none))):=by refine ⟨(Below.heap_alloc _ _ _ (by simp)).trans (zr w _),?_⟩;have:=zr (w.alloc (.deferred (some []))) (.loop (jR g a.tmps f b e w.heap.size .ready none));rwa [zl] at this
 have I:((w.alloc (.deferred (some []))).alloc (.loop (jR g a.tmps f b e w.heap.size .ready none))).heap.size=w.heap.size+1+1:=by simp
 rw [c8];have b9:=run_enterLoop_outer (P:=u) (w:=w) g a.tmps f b e;refine ⟨w.heap.size+1,[{target:=.collected w.heap.size,args:=#[]}],(w.alloc (.deferred (some []))).alloc (.loop (jR g a.tmps f b e w.heap.size .ready none)),{target:=.fn (.func gf) lb,args:=#[.func (.yield (w.heap.size+1)) #[] #[]]},
  (w.alloc (.deferred (some []))).alloc (.loop (jR g a.tmps f b e w.heap.size .ready none)),gf,#[.func (.yield (w.heap.size+1)) #[] #[]]++lb,(w.alloc (.deferred (some []))).alloc (.loop (jR g a.tmps f b e w.heap.size .ready none)),b9,?_,?_,?_,λ_=>b0,?_⟩
 ·simp only [resolve,c1];simp [go_sem]
 ·intro d6 X;simp [Target.leads] at X;subst X;exact b2
 ·simp [invoke,go_sem,a6]
 refine (c9 _ _ (w.heap.size+1) (λk W=>s k W/\oB w.heap.size (jR g a.tmps f b e w.heap.size .ready none) W)
  (λk W=>∃c,E c k W/\oB w.heap.size (jR g a.tmps f b e w.heap.size .done (some c)) W) ?o1 ?o2 ?round ⟨x.alloc _ (x.alloc _ a9),b3⟩).mono ?behind
 case o1=>exact (tO x (by simp;omega)).and (oB.own (by simp))
 case o2=>
  rintro a3 O P a2 ⟨c,a7,a8⟩ Y a0;exact ⟨c,tO (z c) (by simp;omega) a3 O P a2 a7 Y a0,oB.own (by simp) a3 O P a2 a8 Y a0⟩
 case round=>
  rintro k l m W a1 ⟨A,r⟩ T;refine ⟨g,_,b,e,run_yield (P:=u) (args:=m) r.l (c7 l m W T),roundIn_of_wpIn c0 (b5 _ k l m W _ a1 A T ?_)⟩;intro q a5 Z c4 c3 b6;have C:=r.keep (zy _) Z;refine ⟨_,run_beginRound C.l rfl,?_⟩;have H:=C.put (jR g a.tmps f b e w.heap.size .busy none);have c2:=x.putObj (.loop (jR g a.tmps f b e w.heap.size .busy none)) c3 (zu _) C.l rfl;have b4:=(b1 l q).putObj (s:=()) (.loop (jR g a.tmps f b e w.heap.size .busy none)) b6 (zu _) C.l rfl;have G:nB S (w.heap.size+1+1) W _:=nB.trans ⟨c4,kT Z (by omega)⟩ (nB.put a5 _ _ (.loop (jR g a.tmps f b e w.heap.size .busy none)) C.l rfl (zt _));refine wpIn_mono (b7 _ k l q _ (zu _) a1 c2 b4) ?_;rintro Q d5 d4 y;cases Q with
  |normal=>
   obtain ⟨o,c5,v⟩:=y;have j:=H.keep (zy _) o;have c6:=j.put (jR g a.tmps f b e w.heap.size .ready none);exact ⟨_,_,run_endRound none j.l,.inl ⟨rfl,⟨x.putObj _ v (zu _) j.l rfl,c6⟩,by rw [I];exact (G.trans ⟨c5,kT o (by omega)⟩).trans (nB.put _ _ _ _ j.l rfl (zt _))⟩⟩
  |ret=>
   obtain ⟨o,v⟩:=y;have j:=H.keep (zy _) o;exact ⟨_,_,run_endRound (some .ret) j.l,.inr ⟨rfl,⟨.ret,(z _).putObj _ v (zu _) j.l rfl,j.put (jR g a.tmps f b e w.heap.size .done (some .ret))⟩,by rw [I];exact (nC (nC G.2 (kT o (by omega))) (nB.put (S:=S) _ _ _ _ j.l rfl (zt _)).2)⟩⟩
  |exit i=>
   obtain ⟨o,v⟩:=y;have j:=H.keep (zy _) o;exact ⟨_,_,run_endRound (some (.exit i)) j.l,.inr ⟨rfl,⟨.exit i,(z _).putObj _ v (zu _) j.l rfl,j.put (jR g a.tmps f b e w.heap.size .done (some (.exit i)))⟩,by rw [I];exact (nC (nC G.2 (kT o (by omega))) (nB.put (S:=S) _ _ _ _ j.l rfl (zt _)).2)⟩⟩
  |goto t=>
   obtain ⟨o,v⟩:=y;have j:=H.keep (zy _) o;exact ⟨_,_,run_endRound (some (.goto t)) j.l,.inr ⟨rfl,⟨.goto t,(z _).putObj _ v (zu _) j.l rfl,j.put (jR g a.tmps f b e w.heap.size .done (some (.goto t)))⟩,by rw [I];exact (nC (nC G.2 (kT o (by omega))) (nB.put (S:=S) _ _ _ _ j.l rfl (zt _)).2)⟩⟩
  |panic ch=>exact y.elim
  |outgrown=>exact y.elim
 case behind=>
  rintro Q d3 ⟨⟨a4,rfl⟩,(⟨A,r⟩|⟨k,c,A,r⟩)⟩
  ·exact ⟨none,_,run_endLoop r.l (by simp [jR]),b8 _ (x.putObj _ A (zu _) r.l rfl) ((zx (by omega)).trans r.k)⟩
  ·exact ⟨some c,_,run_endLoop r.l (by simp [jR]),d0 c k _ ((z c).putObj _ A (zu _) r.l rfl) ((zx (by omega)).trans r.k)⟩
theorem aN0{m:Type}{g:Fence}{l:Nat}{k:Program}{z:Operand}{s:Array Tmp}{x y:Code}{q:Exit->Act->World->Prop}{i:Act}
  (T:g.round=none) (E:1<=l) {gf:Nat} {lb:Array Value} (P:i.eval z=.func (.func gf) #[] lb) (F:g.fn gf) (A:∀b w,(callFunc gf b).run k w=.ok (.enter gf b) w)
  {Enc:m->Array Value->World->Prop} {S:List TypeId} {L:List m}
  (X:∀a0 a1,tN g (l-1) k gf lb Enc S L ((w.alloc a0).alloc a1))
  (R:∀a b W,Enc a b W->b.size=s.size)
  (j:Nat->World->Prop) (n:Code->Nat->World->Prop) (G:OwnFrom w.heap.size j) (H:∀c,OwnFrom w.heap.size (n c)) (D:j 0 w)
  (o:m->Act)
  (J:∀(f:Nat) (a:m) (b:Array Value) (W:World) (K:Act->World->Prop),Enc a b W->K (o a) W->
   x.wpIn (g.inRound f) (l-1-1) k (Exit.then K (λ_ _ _=>False)) {tmps:=(s.zip b).foldl (λt (p,v)=>t.setIfInBounds p v) i.tmps,defers:=[]} W)
  (M:∀(f e:Nat) (a:m) (W:World),w.heap.size<=f->L[e]?=some a->j e W->
   y.wpIn (g.inRound f) (l-1-1) k (aBo w.heap.size S j n e W) (o a) W)
  (N:∀(W:World),j L.length W->W.heap[w.heap.size]?=some (.deferred (some []))->q .normal {i with defers:={target:=.collected w.heap.size,args:=#[]}::i.defers} W)
  (Y:∀(c:Code) (e:Nat) (W:World),n c e W->W.heap[w.heap.size]?=some (.deferred (some []))->c.wpIn g l k q {i with defers:={target:=.collected w.heap.size,args:=#[]}::i.defers} W):(Code.rangeFunc z s x y).wpIn g l k q i w:=
 zA T E P F A X R j n G H D (λa u _=>u=o a) (λ_ _ _ _ _ _ C _ _=>C)
  (λf e a b W K _ r O hK=>J f a b W K O (hK _ _ (KeepsFrom.refl _ _) (cO.refl _ _) r rfl))
  (λf e a u W Q Z r I=>by subst I;exact M f e a W Q Z r) N Y
structure Mv(S:List TypeId)(B:Nat)(W W':World):Prop where
 os:W'.os=W.os
 tape:W'.tape=W.tape
 output:W'.output=W.output
 size:W.heap.size<=W'.heap.size
 keep:∀k o,W.heap[k]?=some o->(k<B\/∀cs T,o=.cells cs T (0,0)->T∉S)->W'.heap[k]?=some o
theorem Mv.refl(S:List TypeId)(B:Nat)(W:World):Mv S B W W:=⟨rfl,rfl,rfl,zy _,λ_ _ a _=>a⟩
theorem Mv.trans{S:List TypeId}{B:Nat}{U V W:World}(a:Mv S B U V)(k:Mv S B V W):Mv S B U W:=
 ⟨k.os.trans a.os,k.tape.trans a.tape,k.output.trans a.output,zs a.size k.size,λe f g b=>k.keep e f (a.keep e f g b) b⟩
theorem Mv.mono{S':List TypeId}(a:Mv S B U V)(f:∀t∈S,t∈S')(k:B'<=B):Mv S' B' U V:=
 ⟨a.os,a.tape,a.output,a.size,λi o g ho=>a.keep i o g (by
  rcases ho with ho|ho
  ·exact Or.inl (by omega)
  ·exact Or.inr (λb T e j=>ho b T e (f _ j)))⟩
theorem Mv.of_below(a:aB U V):Mv S B U V:=
 ⟨a.os,a.tape,a.output,a.size,λe _ b _=>(a.block e (zz.1 b).1).trans b⟩
theorem Mv.of_grown{j:Option Nat}(a:U.grownBy V j)(n:∀g,j=some g->B<=g/\∃f b,U.heap[g]?=some (.cells f b (0,0))/\b∈S):Mv S B U V:=
 ⟨a.os,a.tape,a.output,a.size,λi p e ho=>(a.block i (zz.1 e).1 (by
  intro k;obtain ⟨o,f,b,l,m⟩:=n i k.symm;rw [l] at e;cases e;rcases ho with ho|ho
  ·omega
  ·exact ho f b rfl m)).trans e⟩
theorem Mv.cells(f:Mv S B U V){k:Nat}{b:Array Value}{a:TypeId}(i:U.heap[k]?=some (.cells b a (0,0)))(g:a∉S):V.heap[k]?=some (.cells b a (0,0)):=
 f.keep k _ i (Or.inr (λl j e=>by cases e;exact g))
theorem Mv.below(a:Mv S B U V)(g:B<=U.heap.size):Below B U V:=
 ⟨a.os,a.tape,a.output,a.size,λk f=>by
  obtain ⟨b,e⟩ : ∃b,U.heap[k]?=some b:=⟨_,Array.getElem?_eq_getElem (by omega)⟩;rw [a.keep k b e (Or.inl f),e]⟩
theorem Mv.keepsFrom(a:Mv S B U V):KeepsFrom B' U V:=
 ⟨a.size,λg i _ e f=>a.keep g i e (Or.inr (λk j b=>by subst b;cases f))⟩
theorem Mv.row(k:Mv S B U V){a:TypeId}{f:Nat}{v:Value}{n:Nat}{e:List Value}(q:U.ownsRow B' a f v n e)(o:a∉S):V.ownsRow B' a f v n e:=by
 obtain ⟨b,⟨rfl,l⟩|⟨g,i,j,rfl,m,p,r⟩⟩:=q
 ·exact ⟨b,Or.inl ⟨rfl,l⟩⟩
 ·exact ⟨b,Or.inr ⟨g,i,j,rfl,m,k.cells p o,r⟩⟩
theorem Mv.clause(a:Mv S B U V){b:Value}{c:List Lt}(i:bR B' U b c)(f:86∉S)(g:117∉S):bR B' V b c:=by obtain ⟨e,l,m,n,o⟩:=i;exact ⟨e,l,a.row m f,λk j=>a.row (n k j) g,o⟩
theorem Mv.boxed(e:Mv S B U V){b:Nat}{a:TypeId}{v:Value}(g:Boxed U b a v)(f:a∉S):Boxed V b a v:=e.cells g f
theorem Mv.kps(a:Mv S B U V):cO S U V:=⟨a.size,λ_ _ _ b e=>a.cells b e⟩
theorem cO.row(k:cO S U V){a:TypeId}{f:Nat}{v:Value}{n:Nat}{e:List Value}(q:U.ownsRow B' a f v n e)(o:a∉S):V.ownsRow B' a f v n e:=by
 obtain ⟨b,⟨rfl,l⟩|⟨g,i,j,rfl,m,p,r⟩⟩:=q
 ·exact ⟨b,Or.inl ⟨rfl,l⟩⟩
 ·exact ⟨b,Or.inr ⟨g,i,j,rfl,m,k.kc _ _ _ p o,r⟩⟩
theorem cO.clause(a:cO S U V){b:Value}{c:List Lt}(i:bR B' U b c)(f:86∉S)(g:117∉S):bR B' V b c:=by obtain ⟨e,l,m,n,o⟩:=i;exact ⟨e,l,a.row m f,λk j=>a.row (n k j) g,o⟩
theorem cO.boxed(e:cO S U V){b:Nat}{a:TypeId}{v:Value}(g:Boxed U b a v)(f:a∉S):Boxed V b a v:=e.kc _ _ _ g f
structure kU(c:List Lt):Prop where
 len:c.length<=8
 term:∀x∈c,aQ x.2 1=true/\x.2.length<=60
theorem aFh{n:Nd}(a:dC n=true):n.1.size<=80:=by
 unfold dC at a;split at a
 ·rename_i b;have:n.1.size=0:=by
   simp [aL] at b;have:=congrArg List.length b;rw [ByteArray.toList_eq] at this;simpa using this
  omega
 ·simp at a;exact (aM1 _ a.1).2
theorem aFi:∀(b:List Nd) (e:Nat),aQ b e=true->∀a∈b,dC a=true
 |[],_,_,a,hn=>by simp at hn
 |x::r,e,h,a,hn=>by
  unfold aQ at h;split at h
  ·cases h
  ·split at h
   ·rename_i f;rcases List.mem_cons.1 hn with rfl|hn
    ·exact f
    ·exact aFi r _ h a hn
   ·cases h
theorem kU.nodes(e:kU c){x:Lt}(i:x∈c):x.2.length<=60/\0<x.2.length/\∀b (e:b<x.2.length),x.2[b].1.size<=80:=by
 obtain ⟨a,f⟩:=e.term x i;refine ⟨f,?_,λb g=>aFh (aFi _ _ a _ (zv g))⟩;cases hl:x.2 with
 |nil=>rw [hl] at a;simp [aQ] at a
 |cons=>simp
theorem kV(a:aS c=true):kU c:=by simp only [aS,Bool.and_eq_true,bL,decide_eq_true_eq,List.all_eq_true] at a;exact ⟨a.1.1.1,λx b=>aKl (a.1.2 x b)⟩
theorem bR.lits{v:Value}(D:bR B w v c)(r:kU c):∃b g,v=.slice b c.length g/\c.length<=g/\cH w b c/\aAw w b c:=by
 obtain ⟨j,I,i,u,T⟩:=D;subst I;obtain ⟨b,g,rfl⟩:=bA i;refine ⟨b,g,by simp,?_,aEa (P:=j) (by simpa using i) rfl (λt s=>?_) (by have:=r.len;omega),?_⟩
 ·obtain ⟨_,⟨a,z⟩|⟨C,o,y,a,_,_,l,_⟩⟩:=i
  ·simp [z]
  ·simp at a;obtain ⟨_,rfl⟩:=a;simpa using l
 ·obtain ⟨N,O,E⟩:=r.nodes (x:=t.1) (by simp;exact ⟨_,s⟩);obtain ⟨n,p,a,H⟩:=vL (u t s) (by omega) (λf m=>by have:=E f m;omega);exact ⟨n,p,a,H⟩
 ·intro f m L R n Q p A q;have G:f<j.length:=by simpa using m
  obtain ⟨J,o,a,l⟩:=tY i;simp at a;obtain ⟨rfl,rfl⟩:=a;obtain ⟨C,k,_,e⟩:=l f G;rw [A] at k;simp at k;obtain ⟨rfl,rfl⟩:=k;rw [Nat.zero_add] at q;rw [q] at e;obtain ⟨_,⟨a,_⟩|⟨M,o,y,a,_,_,F,_⟩⟩:=u j[f] (zv _)
  ·rw [a] at e;cases e;omega
  ·rw [a] at e;cases e;exact F
section
attribute [local go_sem] Oper.semAt_some
def iW(c:List Lt)(a:Nat):Option Nd:=(c[a]?).bind λb=>b.2[0]?
def kW(c d:List Lt)(b e:Nat):List (Nat×Nat):=((zj e).filter λa=>decide (iW c b=iW d a)).map λa=>(b,a)
def lJ(c d:List Lt)(b:Nat):List (Nat×Nat):=(zj b).flatMap λa=>kW c d a d.length
def fH(c d:List Lt):List (Nat×Nat):=lJ c d c.length
theorem aBp(c d:List Lt)(a:Nat):lJ c d (a+1)=lJ c d a++kW c d a d.length:=by simp [lJ,zo]
theorem aBq(c d:List Lt)(a b:Nat):kW c d a (b+1)=kW c d a b++if iW c a=iW d b then [(a,b)] else []:=by
 unfold kW;rw [zo,List.filter_append,List.map_append];congr 1
 by_cases e:iW c a=iW d b<;>simp [e]
theorem bBs(c d:List Lt){b e:Nat}(f:b<=e):lJ c d b <+: lJ c d e:=by
 obtain ⟨a,rfl⟩ : ∃a,e=b+a:=⟨e-b,by omega⟩;clear f;induction a with
 |zero=>exact zk _
 |succ a ih=>rw [<-Nat.add_assoc,aBp];exact ih.trans (zm _ _)
theorem bBt(c d:List Lt)(f:Nat){b e:Nat}(g:b<=e):kW c d f b <+: kW c d f e:=by
 obtain ⟨a,rfl⟩ : ∃a,e=b+a:=⟨e-b,by omega⟩;clear g;induction a with
 |zero=>exact zk _
 |succ a ih=>rw [<-Nat.add_assoc,aBq];exact ih.trans (zm _ _)
theorem bBu{a b:Nat}(k:a<c.length)(l:b<d.length)(j:iW c a=iW d b):(fH c d)[(lJ c d a++kW c d a b).length]?=some (a,b):=by have e:kW c d a (b+1) <+: kW c d a d.length:=bBt c d a (by omega);have f:lJ c d (a+1) <+: fH c d:=bBs c d (by omega);rw [aBq,aH j] at e;rw [aBp] at f;obtain ⟨m,g⟩:=e;obtain ⟨n,i⟩:=f;rw [<-i,<-g];simp
def bU:List TypeId:=[76,100,73]
structure qA(B:Nat)(W:World)(b1 b2:Nat)(v1 v2:Value)(c d:List Lt):Prop where
 x1:Boxed W b1 51 v1
 x2:Boxed W b2 51 v2
 m1:bR B W v1 c
 m2:bR B W v2 d
theorem qA.kept{b e:Nat}{f g:Value}(a:qA B W b e f g c d)(k:cO bU W W'):qA B W' b e f g c d:=
 ⟨k.boxed a.x1 (by decide),k.boxed a.x2 (by decide),k.clause a.m1 (by decide) (by decide),k.clause a.m2 (by decide) (by decide)⟩
theorem qA.drawn{a b:Nat}{f g:Value}(i:qA B W a b f g c d)(e:Nat):qA B (W.drewN e) a b f g c d:=
 i.kept (Mv.of_below (S:=bU) (B:=0) (aU ⟨e,rfl⟩)).kps
theorem aN1{a:Nat->World->Prop}{e:Nat}(g:OwnFrom e a){b:Nat}{w:World}(i:a b w)(d:Nat):a b (w.drewN d):=
 g b w _ none i ⟨rfl,rfl,rfl,zy _,λ_ _ _=>rfl⟩ (λj f=>by cases f)
theorem aN2{a:Nat}(e:a<c.length)(b:0<c[a].2.length):iW c a=some c[a].2[0]:=by unfold iW;rw [zp e];simp [zp b]
theorem aN3(X n o B:Nat)(b7 b8:Value)(c d:List Lt)(e4:1<=X)(s:kU c)(t:kU d)(W:World)(k:qA B W n o b7 b8 c d):tN Fence.wide X zq 110 #[.pointer (some ⟨n,0,none⟩),.pointer (some ⟨o,0,none⟩)] (λ(Z:Nat×Nat) args _=>args=#[.int .i64 Z.1,.int .i64 Z.2]) bU (fH c d) W:=by
 intro e9 F b9 N d7 O a5;have d8:=s.len;have d9:=t.len;have a1:=aA O;have E:=aA N;clear O N;refine callsIn_of_wp Tryz.func110 rfl trivial ?_;simp only [Tryz.ntmps110,List.size_toArray,List.length_cons,List.length_nil,Nat.reduceAdd,Nat.reduceSub,Array.replicate_succ,Array.replicate_zero,List.push_toArray,List.append_toArray,List.nil_append,List.cons_append];obtain ⟨G,I,rfl,_,l,_⟩:=k.m1.lits s;obtain ⟨H,J,rfl,_,m,_⟩:=k.m2.lits t;have M:=k.x1.cell;have a0:=aA k;clear k l m;gi_wp2
 clear M;gi_loopw [8] (λi wr=>∃a:Nat,a<=c.length/\i=.int .i64 a/\qA B wr n o (.slice G c.length I) (.slice H d.length J) c d/\F (lJ c d a).length wr) (λi _=>c.length-(intOf i).toNat)
 case atStart=>exact ⟨0,zn _,by go_num,a0.o,by simpa [lJ] using a5⟩
 case round=>
  obtain ⟨a,e0,rfl,e,g⟩:=hrel;have a4:=e.x2.cell;have j:=aA e;have f:=aA g;clear e g;by_cases q:a<c.length
  ·have a9:(a:Int)<(c.length:Int):=by omega
   gi_wp2
   clear a4;gi_loopw [13] (λi wr=>∃b:Nat,b<=d.length/\i=.int .i64 b/\qA B wr n o (.slice G c.length I) (.slice H d.length J) c d/\F (lJ c d a++kW c d a b).length wr) (λi _=>d.length-(intOf i).toNat)
   case atStart=>exact ⟨0,zn _,by go_num,j.o,by simpa [kW] using f.o⟩
   case round=>
    obtain ⟨b,e1,rfl,e,g⟩:=hrel;by_cases r:b<d.length
    ·have b0:(b:Int)<(d.length:Int):=by omega
     obtain ⟨c1,c9,a2,_,l,_⟩:=e.m1.lits s;obtain ⟨c2,d0,a3,_,m,_⟩:=e.m2.lits t;cases a2;cases a3;obtain ⟨d3,f0,c3,c4,rfl,b1,e8,T⟩:=l.cell a q;obtain ⟨d4,f1,c6,c7,rfl,b2,f4,Y⟩:=m.cell b r;have x:=(s.nodes (zv q)).2.1;have y:=(t.nodes (zv r)).2.1;obtain ⟨d5,f2,rfl,b3,b4⟩:=T.cell 0 x;obtain ⟨d6,f3,rfl,b5,b6⟩:=Y.cell 0 y;have Q:=aN2 q x;have R:=aN2 r y;have M:=e.x1.cell;have d1:=e.x2.cell;generalize hxe:c[a].2[0]=xe at *;generalize hye:d[b].2[0]=ye at *;obtain ⟨A,z⟩:=xe;obtain ⟨D,C⟩:=ye;simp only [Nat.zero_mul,Nat.add_zero] at b3 b4 b5 b6;have e2:(0:Int)<(c[a].2.length:Int):=by omega
     have e3:(0:Int)<(d[b].2.length:Int):=by omega
     clear hxe hye x y T Y l m;generalize c[a].2.length=m1 at *;generalize d[b].2.length=m2 at *;have e6:=xR A D z C;have e5:=xP;have v:=xQ (A,z) (D,C);simp only at v;have j:=aA e;have f:=aA g;clear e g b1 b2;by_cases p:(A,z)=(D,C)
     ·rw [fC p] at v;have u:zq.follows .mixedOrders=true:=by kernel_rfl
      have P:iW c a=iW d b:=by rw [Q,R,p]
      gi_wp2
      refine aFw [_,_,_,_,_,_,_,_,_,_,_,_,_,_,_,_,_,_,_] [_,_,_] rfl (aNp rfl) u (by kernel_rfl) (by kernel_rfl) ?_;repeat (gi_big_quiet_step (fail))
      refine wpQuietIn_nil ?_;rintro _ ⟨nq,rfl⟩;obtain ⟨d2,f5,c5,c8,e7,a6⟩:=a1.o _ (a,b) #[.int .i64 a,.int .i64 b] (wr.drewN nq) (bBu q r P) (aN1 E.o f.o nq) rfl;refine wpAnyIn_ready (rs:=[19]) (by kernel_rfl) (by simp) ?_;refine AllReadyIn.cons rfl (λK hK=>?_) AllReadyIn.nil;go_simp;refine a6.mono ?_;rintro L c0 (⟨rfl,hJ3,hk3⟩|⟨rfl,hJx3,_⟩)
      ·refine hK _ _ ?_;clear hK K;refine wpAnyIn_ready (rs:=[20]) (by kernel_rfl) (by simp) ?_;refine AllReadyIn.cons rfl (λK hK=>?_) AllReadyIn.nil;go_simp;refine hK _ _ ?_;clear hK K;refine wpAnyIn_ready (rs:=[21]) (by kernel_rfl) (by simp) ?_;refine AllReadyIn.cons rfl (λK hK=>?_) AllReadyIn.nil;go_simp;refine hK _ _ ?_;clear hK K;refine wpAnyIn_done (by kernel_rfl) ?_ _;gi_wp2
       go_roundw;case rel=>exact ⟨b+1,by omega,by go_num,(j.o.drawn nq).kept hk3.1,by rw [aBq,aH P,<-List.append_assoc,List.length_append];exact hJ3⟩
       case measure=>simp [intOf];omega
      ·refine hK _ _ ?_;clear hK K;refine wpAnyIn_ready (rs:=[20]) (by kernel_rfl) (by simp) ?_;refine AllReadyIn.cons rfl (λK hK=>?_) AllReadyIn.nil;go_simp;refine hK _ _ ?_;clear hK K;refine wpAnyIn_ready (rs:=[21]) (by kernel_rfl) (by simp) ?_;refine AllReadyIn.cons rfl (λK hK=>?_) AllReadyIn.nil;go_simp;refine hK _ _ ?_;clear hK K;refine wpAnyIn_done (by kernel_rfl) ?_ _;gi_wp2
       refine bodyPost_ret (results_none rfl _ _ _) rfl ?_;exact ⟨⟨_,rfl⟩,.inr ⟨_,hJx3⟩⟩
     ·rw [gB p] at v;have u:zq.follows .mixedOrders=true:=by kernel_rfl
      gi_wp2
      refine aFw [_,_,_,_,_,_,_,_,_,_,_,_,_,_,_,_,_,_,_] [_,_,_] rfl (aNp rfl) u (by kernel_rfl) (by kernel_rfl) ?_;repeat (gi_big_quiet_step (fail))
      refine wpQuietIn_nil ?_;rintro _ ⟨nq,rfl⟩;refine wpAnyIn_ready (rs:=[19]) (by kernel_rfl) (by simp) ?_;refine AllReadyIn.cons rfl (λK hK=>?_) AllReadyIn.nil;go_simp;refine ⟨λ_ _=>trivial,hK _ _ ?_⟩;clear hK K;refine wpAnyIn_ready (rs:=[20]) (by kernel_rfl) (by simp) ?_;refine AllReadyIn.cons rfl (λK hK=>?_) AllReadyIn.nil;go_simp;refine hK _ _ ?_;clear hK K;refine wpAnyIn_ready (rs:=[21]) (by kernel_rfl) (by simp) ?_;refine AllReadyIn.cons rfl (λK hK=>?_) AllReadyIn.nil;go_simp;refine hK _ _ ?_;clear hK K;refine wpAnyIn_done (by kernel_rfl) ?_ _;gi_wp2
      go_roundw;case rel=>exact ⟨b+1,by omega,by go_num,j.o.drawn nq,by rw [aBq,aI (by rw [Q,R];intro L;exact p (Option.some.inj L)),List.append_nil];exact aN1 E.o f.o nq⟩
      case measure=>simp [intOf];omega
    ·have b0:¬(b:Int)<(d.length:Int):=by omega
     have a8:b=d.length:=by omega
     have j:=aA e;have f:=aA g;clear e g;gi_wp2
     go_roundw;case rel=>exact ⟨a+1,by omega,by go_num,j.o,by rw [aBp,<-a8];exact f.o⟩
     case measure=>simp [intOf];omega
  ·have a9:¬(a:Int)<(c.length:Int):=by omega
   have a7:a=c.length:=by omega
   gi_wp2
   go_end0;exact ⟨⟨_,rfl⟩,.inl (by unfold fH;rw [<-a7];exact f.o)⟩
end
theorem bBv(f l:Bool)(e i:Option Addr)(j m k:Nat)(b g:List Nd)(w:World)(o:dW w e b)(p:dW w i g)(u:w.cell? ⟨k,0,none⟩=some (.bool l))(v:w.cell? ⟨k,1,none⟩=some (.slice i g.length m)):Calls zq 71 #[.agg #[.bool f,.slice e b.length j],.pointer (some ⟨k,0,none⟩)] w λn x=>n=.returned (.bool (mH (f,b) (l,g)))/\aB w x:=by
 have a:aB w (w.alloc (.cells #[.bool f,.slice e b.length j] 86)):=(Below.refl _ _).alloc (zy _) _;have r:=aA (aEc f l e i j m b g _ (o.below a (zy _)) (p.below a (zy _)));have y:=aC a u;have z:=aC a v;have s:=aA a;clear a o p;go_enter Tryz.func71,Tryz.ntmps71;go_wp2_with (go_at_call 37;refine (aD r).mono ?_;rintro n A ⟨rfl,q⟩;have t:=aA (s.o.trans (q.mono (by simp)));clear q);go_ret;exact ⟨rfl,t.o⟩
theorem bBw(C r:Option Addr)(Y D m:Nat)(b:List (Lt×Value))(g:Bool)(f:List Nd)(w:World)(a8:b.length<=4398046511104)
  (H:∀a (a7:a<b.length),∃n,C=some ⟨n,0,none⟩/\w.cell? ⟨n,a*2,none⟩=some (.bool b[a].1.1)/\w.cell? ⟨n,a*2+1,none⟩=some b[a].2)
  (F:∀N∈b,lA w N.2 N.1.2) (E:dW w r f) (Z:w.cell? ⟨m,0,none⟩=some (.bool g)) (a0:w.cell? ⟨m,1,none⟩=some (.slice r f.length D)):Calls zq 94 #[.slice C b.length Y,.func (Fn.func 71) #[] #[.pointer (some ⟨m,0,none⟩)]] w λs a3=>∃O:Int,s=.returned (.int .i64 O)/\decide (0<=O)=fO (b.map zw) (g,f)/\aB w a3:=by
 have X:=aA H;have T:=aA F;have R:=aA E;clear H F E;go_enter Tryz.func94,Tryz.ntmps94;go_wp2;go_loopw [8] (λy wr=>∃a:Nat,a<=b.length/\y=.int .i64 a/\fO ((b.map zw).take a) (g,f)=false/\aB w wr) (λy _=>b.length-(intOf y).toNat);case atStart=>exact ⟨0,zn _,rfl,rfl,Below.refl _ _⟩
 case round=>
  obtain ⟨a,a9,rfl,L,e⟩:=hrel;have q:=aA L;clear L;by_cases J:a<b.length
  ·obtain ⟨n,rfl,t,l⟩:=X.o a J;obtain ⟨a1,a2,M,v⟩:=T.o b[a] (zv _);rw [M] at l;have o:=aKx b (g,f) a J;rw [q.o,Bool.false_or] at o;have u:=aKy b (g,f) (a+1);rw [o] at u;generalize b[a].1=x at *;obtain ⟨P,Q⟩:=x;simp only at t l v;have a5:=aC e t;have a6:=aC e l;have j:=aA (bBv P g a1 r a2 D m Q f wr (v.below e (zy _)) (R.o.below e (zy _)) (aC e Z) (aC e a0));have z:=aA o;have A:=aA u;have k:=aA e;have G:=e.size;clear o u e M v t l;cases hl:mH (P,Q) (g,f)
   ·rw [hl] at j z;clear hl;go_wp2_with (go_at_call 71;refine (aD j).mono ?_;rintro s a4 ⟨rfl,i⟩;have p:=aA (k.o.trans (i.mono G));clear i);go_roundw;case rel=>exact ⟨a+1,by omega,by go_num,z.o,p.o⟩
    case measure=>simp [intOf];omega
   ·rw [hl] at j A;clear hl;go_wp2_with (go_at_call 71;refine (aD j).mono ?_;rintro s a4 ⟨rfl,i⟩;have p:=aA (k.o.trans (i.mono G));clear i);go_ret;exact ⟨_,rfl,by rw [A.o (by first|rfl|trivial)];simp,p.o⟩
  ·have I:(b.map zw).take a=b.map zw:=List.take_of_length_le (by simp;omega);rw [I] at q;have k:=aA e;clear I e;go_wp2;go_ret;exact ⟨_,rfl,by rw [q.o];rfl,k.o⟩
theorem bBx(f g:Option Addr)(m l b:Nat)(a:List (Lt×Value))(j:Bool)(e:List Nd)(w:World)(A:a.length<=4398046511104)
  (t:∀k (D:k<a.length),∃i,f=some ⟨i,0,none⟩/\w.cell? ⟨i,k*2,none⟩=some (.bool a[k].1.1)/\w.cell? ⟨i,k*2+1,none⟩=some a[k].2)
  (r:∀v∈a,lA w v.2 v.1.2) (q:dW w g e) (o:w.cell? ⟨b,0,none⟩=some (.bool j)) (p:w.cell? ⟨b,1,none⟩=some (.slice g e.length l)):Calls zq 70 #[.slice f a.length m,.func (Fn.func 71) #[] #[.pointer (some ⟨b,0,none⟩)]] w λn C=>n=.returned (.bool (fO (a.map zw) (j,e)))/\aB w C:=by
 have x:=aA (bBw f g m l b a j e w A t r q o p);clear t r q o p;go_enter Tryz.func70,Tryz.ntmps70;go_wp2_with (go_at_call 94;refine (aD x).mono ?_;rintro n F ⟨E,rfl,u,s⟩;have z:=aA u;have y:=aA s;clear u s);go_ret;exact ⟨dL z.o,y.o⟩
def pA(c:List Lt)(b:Nat):Bool:=(zj b).any λa=>fO (c.take a) (!(c.getD a default).1,(c.getD a default).2)
def dP(c:List Lt):Bool:=pA c c.length
theorem aN4(c:List Lt)(a:Nat)(b:a<c.length):pA c (a+1)=(pA c a || fO (c.take a) (!c[a].1,c[a].2)):=by unfold pA;rw [zo,List.any_append];simp [b]
theorem bBy(c:List Lt){k:Nat}(f:k<=c.length)(a:pA c k=true):dP c=true:=by unfold dP pA at *;rw [List.any_eq_true] at *;obtain ⟨g,e,b⟩:=a;exact ⟨g,List.mem_range.2 (Nat.lt_of_lt_of_le (List.mem_range.1 e) f),b⟩
theorem aFj(I:Option Addr)(q:Nat)(b:List (Lt×Value))(w:World)(b0:b.length<=100000)(a9:b.length<=q)
  (L:∀a (a8:a<b.length),∃n,I=some ⟨n,0,none⟩/\w.cell? ⟨n,a*2,none⟩=some (.bool b[a].1.1)/\w.cell? ⟨n,a*2+1,none⟩=some b[a].2)
  (J:∀s∈b,lA w s.2 s.1.2):Calls zq 43 #[.slice I b.length q] w λu a4=>u=.returned (.bool (dP (b.map zw)))/\aB w a4:=by
 have F:=aA L;have E:=aA J;clear L J;go_enter Tryz.func43,Tryz.ntmps43;go_wp2;go_loopw [8] (λD wr=>∃a:Nat,a<=b.length/\D=.int .i64 a/\pA (b.map zw) a=false/\aB w wr) (λD _=>b.length-(intOf D).toNat);case atStart=>exact ⟨0,zn _,rfl,rfl,Below.refl _ _⟩
 case round=>
  obtain ⟨a,b2,rfl,p,j⟩:=hrel;have H:=aA p;clear p;by_cases M:a<b.length
  ·obtain ⟨n,rfl,v,r⟩:=F.o a M;obtain ⟨e,f,N,z⟩:=E.o b[a] (zv _);rw [N] at r;have A:=aN4 (b.map zw) a (by simpa using M);rw [H.o,Bool.false_or] at A;have C:pA (b.map zw) (a+1)=fO ((b.map zw).take a) (!b[a].1.1,b[a].1.2):=by simpa using A
   generalize b[a].1=x at *;obtain ⟨g,i⟩:=x;simp only at v r z C;have a6:=aC j v;have a7:=aC j r;have Z:=j.size;have b4:(a:Int)<(b.length:Int):=by omega
   have b3:(a:Int)<=(q:Int):=by omega
   have l:aB w ((wr.alloc (.cells #[.bool g,.slice e i.length f] 86)).alloc (.cells #[.bool !g,.slice e i.length f] 86)):=(j.alloc Z _).alloc (by simp;omega) _;have y:((wr.alloc (.cells #[.bool g,.slice e i.length f] 86)).alloc (.cells #[.bool !g,.slice e i.length f] 86)).heap[wr.heap.size+1]?=some (.cells #[.bool !g,.slice e i.length f] 86):=by have:=zr (wr.alloc (.cells #[.bool g,.slice e i.length f] 86)) (.cells #[.bool !g,.slice e i.length f] 86);rwa [zl] at this
   have O:(b.take a).length=a:=by simp;omega
   have m:=aA (bBx (some ⟨n,0,none⟩) e q f (wr.heap.size+1) (b.take a) (!g) i ((wr.alloc (.cells #[.bool g,.slice e i.length f] 86)).alloc (.cells #[.bool !g,.slice e i.length f] 86)) (by omega)
    (λa3 b1=>by
     obtain ⟨R,T,X,Y⟩:=F.o a3 (by omega);rw [List.getElem_take];exact ⟨R,T,aC l X,aC l Y⟩)
    (λs a2=>(E.o s (List.mem_of_mem_take a2)).below l (zy _)) (z.below l (zy _)) (aKk y).1 (aKk y).2)
   rw [O,List.map_take,<-C] at m;have k:=aA l;have G:=aA (bBy (b.map zw) (k:=a+1) (by simp;omega));clear A C l y O v r z N j;cases hi:pA (b.map zw) (a+1)
   ·rw [hi] at m;have P:=aA hi;clear hi;go_wp2_with (first
     |(go_at_call 70;refine (aD m).mono ?_;rintro u a5 ⟨rfl,o⟩;have t:=aA (k.o.trans (o.mono (by have:=k.o.size;simpa using this)));clear o)
     |go_in)
    go_roundw;case rel=>exact ⟨a+1,by omega,by go_num,P.o,t.o⟩
    case measure=>simp [intOf];omega
   ·have Q:=aA (G.o hi);rw [hi] at m;clear hi G;go_wp2_with (first
     |(go_at_call 70;refine (aD m).mono ?_;rintro u a5 ⟨rfl,o⟩;have t:=aA (k.o.trans (o.mono (by have:=k.o.size;simpa using this)));clear o)
     |go_in)
    go_ret;exact ⟨by rw [Q.o];rfl,t.o⟩
  ·have a1:a=(b.map zw).length:=by simp;omega
   have k:=aA j;clear j;go_wp2;go_ret;have a0:dP (b.map zw)=false:=by have p:=H.o;rw [a1] at p;exact p
   exact ⟨by rw [a0];rfl,k.o⟩
