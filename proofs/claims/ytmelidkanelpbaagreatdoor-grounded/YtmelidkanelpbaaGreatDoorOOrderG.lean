import Derived.Test.YtmelidkanelpbaaGreatDoorONumberG
import Derived.Test.YtmelidkanelpbaaGreatDoorText0G
import Derived.Handy
import Derived.Deep.RegionHeld3
open Array renaming getElem?_eq_some_iff→zz,getElem?_eq_getElem→zr
open List renaming getElem_mem→zu,findIdx_lt_length→zq,any_eq_true→zn
open Nat renaming le_refl→zy,le_succ→zw,le_trans→zv,lt_succ_self→zs,lt_of_lt_of_le→zo
namespace Go.Proofs.YtmelidkanelpbaaGreatDoor
open _root_.Go.Proofs.Tryz renaming prog→zt
open World renaming putObj_heap_other→zx,alloc_heap_new→zp
open Go.RowKit Go.Shelf Go.WideMaps
set_option maxHeartbeats 2000000
set_option maxRecDepth 100000
variable{ks:List Nat}{S:List TypeId}{B B' cap g hp n:Nat}{v:Value}{U V W w w':World}
theorem aDp{a:Option Addr}{P:List (Lt×Value)}{c:List Lt}(u:w'.ownsRow B 86 2 (.slice a c.length cap) P.length (bF P))(p:P.map Prod.fst=c)(o:∀f∈P,lB w' f.2 f.1.2)(r:c.length<=4398046511104):cH w' a c:=by
 subst p;obtain ⟨x,y,d,q⟩:=tV u;simp at d;obtain ⟨rfl,_⟩:=d;refine ⟨r,λb s=>?_⟩;have t:b<P.length:=by simpa using s
 obtain ⟨g,rfl,k,e⟩:=q b t;obtain ⟨i,j,l,m⟩:=o P[b] (zu _);rw [l] at e;refine ⟨g,0,i,j,rfl,?_,?_,?_⟩
 ·simpa using k
 ·simpa using e
 ·simpa using m
structure wG(w:World)(c:List Lt)(v:Value)(nb:Nat)(Q:List (Lt×Value))(w':World):Prop where
 val:v=.slice (some ⟨nb,0,none⟩) (aV c).length (aV c).length
 made:Q.map Prod.fst=aV c
 row:w'.ownsRow w.heap.size 86 2 (.slice (some ⟨nb,0,none⟩) (aV c).length (aV c).length) (aV c).length (bF Q)
 atoms:∀q∈Q,w'.ownsRow w.heap.size 117 2 q.2 q.1.2.length (bA q.1.2)
 once:(Q.map λq=>q.2.ownBlock).Nodup
 apart:∀q∈Q,q.2.ownBlock≠some nb
 low:aB w w'
theorem aK3(e:Option Addr)(r:Nat)(a:List Lt)(w:World)(M:cH w e a)(A:∀d∈a,wE d.2)(N:aS a<=100000)(O:a.length<=100000):Calls zt 42 #[.slice e a.length r] w λf w'=>∃v o c,f=.returned v/\wG w a v o c w':=by
 have F:=aA (aKh e r a w M);obtain ⟨J,L,s⟩:=mH a;have G:=aA (λa' cp' wx (T:cH wx a' (bT a))=>aUu a' cp' (bT a) wx T (λd P=>A d (s d P)) (by omega) (by omega));have Z:(bT a).length<=100000:=by omega
 clear J L s A N O;go_enter Tryz.func42,Tryz.ntmps42;go_wp2_with (first
  |(go_at_call 68;refine (aD G C D E H.o).mono ?_;rintro f a0 ⟨o,c,rfl,b⟩;have I:=aA b;clear b)
  |(go_at_call 69;refine (aD F).mono ?_;rintro f E ⟨v,q,rfl,i,u,l,k⟩;obtain ⟨C,D,rfl⟩:=aZ l;have j:q.length=(bT a).length:=(by rw [<-i];simp);have H:=aA (aDp (w':=E) (B:=w.heap.size) (a:=C) (P:=q) (c:=bT a) (cap:=D) (by rw [<-j];exact l) i (λX hp=>(u X hp).below k (zy _)) (by omega));rw [j];have p:=aA k;clear i u l k j))
 go_ret;have b:=I.o;have Q:c.length=(bT a).length:=by have t:=congrArg List.length b.made;rw [(pF _).1] at t;simpa using t
 have y:(aV a).length=(bT a).length:=by unfold aV;exact (pF _).1
 have x:=b.made;rw [List.take_length] at x;have m:=p.o.size;have z:=b.row;rw [Q,Nat.sub_self,List.replicate_zero,List.append_nil] at z;exact ⟨_,o,c,rfl,by rw [y];rfl,x,by rw [y];exact iP z m,λY R=>iP (b.atoms Y R) m,b.once,b.apart,p.o.trans (b.low.mono m)⟩
def bR(B:Nat)(w:World)(v:Value)(c:List Lt):Prop:=∃a:List (Lt×Value),a.map Prod.fst=c/\w.ownsRow B 86 2 v a.length (bF a)/\(∀b∈a,zB w B b.2 b.1.2)/\((a.map Prod.snd).filterMap Value.ownBlock).Nodup
theorem bR.nil(B:Nat)(w:World):bR B w (.slice none 0 0) []:=⟨[],rfl,World.ownsRow_nil _ _ _ _,λq a=>by simp at a,by simp⟩
structure cN(S:List TypeId)(W W':World):Prop where
 size:W.heap.size<=W'.heap.size
 kc:∀(k:Nat) (cs:Array Value) (T:TypeId),W.heap[k]?=some (Obj.cells cs T (0,0))->T∉S->W'.heap[k]?=some (Obj.cells cs T (0,0))
theorem cN.refl(S:List TypeId)(W:World):cN S W W:=⟨zy _,λ_ _ _ a _=>a⟩
theorem cN.trans{S:List TypeId}{a B b:World}(e:cN S a B)(k:cN S B b):cN S a b:=⟨zv e.size k.size,λi d c j f=>k.kc i d c (e.kc i d c j f) f⟩
theorem cN.put(W:World)(l:Nat)(b e:Obj)(c:W.heap[l]?=some b)(d:b.isCells=false):cN S W (W.putObj l e):=
 ⟨by simp,λk i f a _=>(zx (by rintro rfl;rw [c] at a;cases a;cases d)).trans a⟩
theorem cN.grown{f:Option Nat}(c:U.grownBy V f)(l:∀e,f=some e->∃b:Obj,U.heap[e]?=some b/\b.isCells=false):cN S U V:=
 ⟨c.size,λd o m a _=>(c.block d (zz.1 a).1 (by
  intro i;obtain ⟨b,j,k⟩:=l d i.symm;rw [j] at a;cases a;cases k)).trans a⟩
def mN(S:List TypeId)(b:Nat)(W a:World):Prop:=cN S W a/\KeepsFrom b W a
theorem kM{a:World}(b:KeepsFrom B W a)(e:B<=B'):KeepsFrom B' W a:=⟨b.size,λi j f c d=>b.same i j (zv e f) c d⟩
theorem mN.trans{S:List TypeId}{N:Nat}{b B c:World}(a:mN S N b B)(k:mN S N B c):mN S N b c:=⟨a.1.trans k.1,⟨zv a.2.size k.2.size,λf i e j d=>k.2.same f i e (a.2.same f i e j d) d⟩⟩
theorem mO{a:Nat}{b B c:World}(d:KeepsFrom a b B)(j:KeepsFrom a B c):KeepsFrom a b c:=⟨zv d.size j.size,λi k f l e=>j.same i k f (d.same i k f l e) e⟩
theorem mN.put{b:Nat}(W:World)(l:Nat)(a c:Obj)(e:W.heap[l]?=some a)(f:a.isCells=false)(i:l<b):mN S b W (W.putObj l c):=
 ⟨cN.put W l a c e f,⟨by simp,λk _ j d _=>(zx (by omega)).trans d⟩⟩
def sZ{o:Type}(F:Fence)(n:Nat)(j:Program)(g:Nat)(lb:Array Value)(p:o->Array Value->World->Prop)(S:List TypeId)(i:List o)(W:World):Prop:=
 ∀(l:Nat) (c f:Nat->World->Prop),OwnFrom W.heap.size c->OwnFrom W.heap.size f->
  (∀b m k d,i[b]?=some m->c b d->p m k d->YieldAt F (n-1) j l k d λe a=>
   (e=.returned (.bool true)/\c (b+1) a/\mN S W.heap.size d a)\/(e=.returned (.bool false)/\f b a/\KeepsFrom W.heap.size d a))->
  c 0 W->
  CallsIn F n j g (#[.func (.yield l) #[] #[]]++lb) W λe a=>(∃v,e=.returned v)/\(c i.length a\/∃b,f b a)
def aAp(B:Nat)(S:List TypeId)(c:Nat->World->Prop)(b:Code->Nat->World->Prop)(a:Nat)(W:World):Exit->Act->World->Prop
 | .normal,_,W'=>KeepsFrom B W W'/\cN S W W'/\c (a+1) W'
 | .ret,_,W'=>KeepsFrom B W W'/\b .ret a W'
 | .exit i,_,W'=>KeepsFrom B W W'/\b (.exit i) a W'
 | .goto t,_,W'=>KeepsFrom B W W'/\b (.goto t) a W'
 | .panic _,_,_=>False
 | .outgrown,_,_=>False
theorem tA{o:Type}{a:o->World->Prop}(i:OwnFrom B a)(j:B<=B'):OwnFrom B' a:=
 λs e f m l k c=>i s e f m l k (λd b=>⟨zv j (c d b).1,(c d b).2⟩)
def jO(d:FuncId)(i:Array Value)(f:Array Tmp)(a b:Code)(c:Nat)(s:LoopState)(e:Option Code):Loop:=
 {state:=s,pending:=e,fn:=d,tmps:=i,params:=f,assign:=a,body:=b,defers:=c}
structure nV(D:Nat)(r:Loop)(W:World):Prop where
 k:W.heap[D]?=some (.deferred (some []))
 l:W.heap[D+1]?=some (.loop r)
theorem nV.own{b:Nat}{f:Loop}(k:b+1<B):OwnFrom B (λ(_:Nat) W=>nV b f W):=λ_ i j l a c e=>by
 refine ⟨(c.block _ (zz.1 a.k).1 ?_).trans a.k,(c.block _ (zz.1 a.l).1 ?_).trans a.l⟩;all_goals
  intro d;have:=(e _ d.symm).1;omega
theorem nV.put{a:Nat}{d:Loop}(b:nV a d W)(c:Loop):nV a c (W.putObj (a+1) (.loop c)):=
 ⟨(zx (by omega)).trans b.k,World.putObj_heap_same (zz.1 b.l).1⟩
theorem nV.keep{a:Nat}{e:Loop}{b:World}(c:nV a e W)(f:B<=a)(d:KeepsFrom B W b):nV a e b:=
 ⟨d.same _ _ f c.k rfl,d.same _ _ (by omega) c.l rfl⟩
theorem yJ{E:Type}{F:Fence}{u:Program}{g:Operand}{d:Array Tmp}{b c:Code}{O:Exit->Act->World->Prop}{a:Act}
  (c7:F.round=none) (a9:1<=n) {gf:Nat} {lb:Array Value} (c0:a.eval g=.func (.func gf) #[] lb) (b1:F.fn gf) (a5:∀m w,(callFunc gf m).run u w=.ok (.enter gf m) w)
  {Enc:E->Array Value->World->Prop} {S:List TypeId} {L:List E}
  (c8:∀d0 d1,sZ F (n-1) u gf lb Enc S L ((w.alloc d0).alloc d1))
  (c6:∀k m W,Enc k m W->m.size=d.size)
  (s:Nat->World->Prop) (G:Code->Nat->World->Prop) (y:OwnFrom w.heap.size s) (A:∀l,OwnFrom w.heap.size (G l)) (a8:s 0 w)
  (N:E->Act->World->Prop) (b0:∀k q,OwnFrom w.heap.size (λ(_:Unit) W=>N k q W))
  (b4:∀(M j:Nat) (k:E) (m:Array Value) (W:World) (K:Act->World->Prop),L[j]?=some k->s j W->Enc k m W->(∀q z,KeepsFrom w.heap.size W z->cN S W z->s j z->N k q z->K q z)->
   b.wpIn (F.inRound M) (n-1-1) u (Exit.then K (λ_ _ _=>False)) {tmps:=(d.zip m).foldl (λt (p,v)=>t.setIfInBounds p v) a.tmps,defers:=[]} W)
  (b6:∀(M j:Nat) (k:E) (q:Act) (W:World),w.heap.size<=M->L[j]?=some k->s j W->N k q W->
   c.wpIn (F.inRound M) (n-1-1) u (aAp w.heap.size S s G j W) q W)
  (b7:∀(W:World),s L.length W->W.heap[w.heap.size]?=some (.deferred (some []))->O .normal {a with defers:={target:=.collected w.heap.size,args:=#[]}::a.defers} W)
  (c9:∀(l:Code) (j:Nat) (W:World),G l j W->W.heap[w.heap.size]?=some (.deferred (some []))->l.wpIn F n u O {a with defers:={target:=.collected w.heap.size,args:=#[]}::a.defers} W):(Code.rangeFunc g d b c).wpIn F n u O a w:=by
 refine wpIn_rangeFunc λe b9=>?_
 have b2:nV w.heap.size (jO e a.tmps d b c w.heap.size .ready none) ((w.alloc (.deferred (some []))).alloc (.loop (jO e a.tmps d b c w.heap.size .ready none))):=by refine ⟨(Below.heap_alloc _ _ _ (by simp)).trans (zp w _),?_⟩;have:=zp (w.alloc (.deferred (some []))) (.loop (jO e a.tmps d b c w.heap.size .ready none));rwa [World.size_alloc] at this
 have J:((w.alloc (.deferred (some []))).alloc (.loop (jO e a.tmps d b c w.heap.size .ready none))).heap.size=w.heap.size+1+1:=by simp
 rw [c7];have b8:=run_enterLoop_outer (P:=u) (w:=w) e a.tmps d b c;refine ⟨w.heap.size+1,[{target:=.collected w.heap.size,args:=#[]}],(w.alloc (.deferred (some []))).alloc (.loop (jO e a.tmps d b c w.heap.size .ready none)),{target:=.fn (.func gf) lb,args:=#[.func (.yield (w.heap.size+1)) #[] #[]]},
  (w.alloc (.deferred (some []))).alloc (.loop (jO e a.tmps d b c w.heap.size .ready none)),gf,#[.func (.yield (w.heap.size+1)) #[] #[]]++lb,(w.alloc (.deferred (some []))).alloc (.loop (jO e a.tmps d b c w.heap.size .ready none)),b8,?_,?_,?_,λ_=>a9,?_⟩
 ·simp only [resolve,c0];simp [go_sem]
 ·intro d5 X;simp [Target.leads] at X;subst X;exact b1
 ·simp [invoke,go_sem,a5]
 refine (c8 _ _ (w.heap.size+1) (λj W=>s j W/\nV w.heap.size (jO e a.tmps d b c w.heap.size .ready none) W)
  (λj W=>∃l,G l j W/\nV w.heap.size (jO e a.tmps d b c w.heap.size .done (some l)) W) ?o1 ?o2 ?round ⟨y.alloc _ (y.alloc _ a8),b2⟩).mono ?behind
 case o1=>exact (tA y (by simp;omega)).and (nV.own (by simp))
 case o2=>
  rintro a3 P Q a2 ⟨l,a6,a7⟩ Y a0;exact ⟨l,tA (A l) (by simp;omega) a3 P Q a2 a6 Y a0,nV.own (by simp) a3 P Q a2 a7 Y a0⟩
 case round=>
  rintro j k m W a1 ⟨C,r⟩ T;refine ⟨e,_,b,c,run_yield (P:=u) (args:=m) r.l (c6 k m W T),roundIn_of_wpIn b9 (b4 _ j k m W _ a1 C T ?_)⟩;intro q a4 Z c3 c2 b5;have D:=r.keep (zy _) Z;refine ⟨_,run_beginRound D.l rfl,?_⟩;have I:=D.put (jO e a.tmps d b c w.heap.size .busy none);have c1:=y.putObj (.loop (jO e a.tmps d b c w.heap.size .busy none)) c2 (zw _) D.l rfl;have b3:=(b0 k q).putObj (s:=()) (.loop (jO e a.tmps d b c w.heap.size .busy none)) b5 (zw _) D.l rfl;have H:mN S (w.heap.size+1+1) W _:=mN.trans ⟨c3,kM Z (by omega)⟩ (mN.put a4 _ _ (.loop (jO e a.tmps d b c w.heap.size .busy none)) D.l rfl (zs _));refine wpIn_mono (b6 _ j k q _ (zw _) a1 c1 b3) ?_;rintro R d4 d3 hp;cases R with
  |normal=>
   obtain ⟨o,c4,x⟩:=hp;have f:=I.keep (zy _) o;have c5:=f.put (jO e a.tmps d b c w.heap.size .ready none);exact ⟨_,_,run_endRound none f.l,.inl ⟨rfl,⟨y.putObj _ x (zw _) f.l rfl,c5⟩,by rw [J];exact (H.trans ⟨c4,kM o (by omega)⟩).trans (mN.put _ _ _ _ f.l rfl (zs _))⟩⟩
  |ret=>
   obtain ⟨o,x⟩:=hp;have f:=I.keep (zy _) o;exact ⟨_,_,run_endRound (some .ret) f.l,.inr ⟨rfl,⟨.ret,(A _).putObj _ x (zw _) f.l rfl,f.put (jO e a.tmps d b c w.heap.size .done (some .ret))⟩,by rw [J];exact (mO (mO H.2 (kM o (by omega))) (mN.put (S:=S) _ _ _ _ f.l rfl (zs _)).2)⟩⟩
  |exit i=>
   obtain ⟨o,x⟩:=hp;have f:=I.keep (zy _) o;exact ⟨_,_,run_endRound (some (.exit i)) f.l,.inr ⟨rfl,⟨.exit i,(A _).putObj _ x (zw _) f.l rfl,f.put (jO e a.tmps d b c w.heap.size .done (some (.exit i)))⟩,by rw [J];exact (mO (mO H.2 (kM o (by omega))) (mN.put (S:=S) _ _ _ _ f.l rfl (zs _)).2)⟩⟩
  |goto t=>
   obtain ⟨o,x⟩:=hp;have f:=I.keep (zy _) o;exact ⟨_,_,run_endRound (some (.goto t)) f.l,.inr ⟨rfl,⟨.goto t,(A _).putObj _ x (zw _) f.l rfl,f.put (jO e a.tmps d b c w.heap.size .done (some (.goto t)))⟩,by rw [J];exact (mO (mO H.2 (kM o (by omega))) (mN.put (S:=S) _ _ _ _ f.l rfl (zs _)).2)⟩⟩
  |panic ch=>exact hp.elim
  |outgrown=>exact hp.elim
 case behind=>
  rintro R d2 ⟨⟨v,rfl⟩,(⟨C,r⟩|⟨j,l,C,r⟩)⟩
  ·exact ⟨none,_,run_endLoop r.l (by simp [jO]),b7 _ (y.putObj _ C (zw _) r.l rfl) ((zx (by omega)).trans r.k)⟩
  ·exact ⟨some l,_,run_endLoop r.l (by simp [jO]),c9 l j _ ((A l).putObj _ C (zw _) r.l rfl) ((zx (by omega)).trans r.k)⟩
theorem aK4{k:Type}{e:Fence}{j:Program}{g:Operand}{s:Array Tmp}{x y:Code}{q:Exit->Act->World->Prop}{f:Act}
  (R:e.round=none) (D:1<=n) {gf:Nat} {lb:Array Value} (O:f.eval g=.func (.func gf) #[] lb) (E:e.fn gf) (z:∀b w,(callFunc gf b).run j w=.ok (.enter gf b) w)
  {Enc:k->Array Value->World->Prop} {S:List TypeId} {L:List k}
  (T:∀Z a0,sZ e (n-1) j gf lb Enc S L ((w.alloc Z).alloc a0))
  (Q:∀a b W,Enc a b W->b.size=s.size)
  (i:Nat->World->Prop) (l:Code->Nat->World->Prop) (F:OwnFrom w.heap.size i) (G:∀m,OwnFrom w.heap.size (l m)) (C:i 0 w)
  (o:k->Act)
  (I:∀(d:Nat) (a:k) (b:Array Value) (W:World) (K:Act->World->Prop),Enc a b W->K (o a) W->
   x.wpIn (e.inRound d) (n-1-1) j (Exit.then K (λ_ _ _=>False)) {tmps:=(s.zip b).foldl (λt (p,v)=>t.setIfInBounds p v) f.tmps,defers:=[]} W)
  (J:∀(d c:Nat) (a:k) (W:World),w.heap.size<=d->L[c]?=some a->i c W->
   y.wpIn (e.inRound d) (n-1-1) j (aAp w.heap.size S i l c W) (o a) W)
  (M:∀(W:World),i L.length W->W.heap[w.heap.size]?=some (.deferred (some []))->q .normal {f with defers:={target:=.collected w.heap.size,args:=#[]}::f.defers} W)
  (X:∀(m:Code) (c:Nat) (W:World),l m c W->W.heap[w.heap.size]?=some (.deferred (some []))->m.wpIn e n j q {f with defers:={target:=.collected w.heap.size,args:=#[]}::f.defers} W):(Code.rangeFunc g s x y).wpIn e n j q f w:=
 yJ R D O E z T Q i l F G C (λa u _=>u=o a) (λ_ _ _ _ _ _ A _ _=>A)
  (λd c a b W K _ r N hK=>I d a b W K N (hK _ _ (KeepsFrom.refl _ _) (cN.refl _ _) r rfl))
  (λd c a u W P Y r H=>by subst H;exact J d c a W P Y r) M X
structure Mv(S:List TypeId)(B:Nat)(W W':World):Prop where
 os:W'.os=W.os
 tape:W'.tape=W.tape
 output:W'.output=W.output
 size:W.heap.size<=W'.heap.size
 keep:∀k o,W.heap[k]?=some o->(k<B\/∀cs T,o=.cells cs T (0,0)->T∉S)->W'.heap[k]?=some o
theorem Mv.refl(S:List TypeId)(B:Nat)(W:World):Mv S B W W:=⟨rfl,rfl,rfl,zy _,λ_ _ a _=>a⟩
theorem Mv.trans{S:List TypeId}{B:Nat}{U V W:World}(a:Mv S B U V)(k:Mv S B V W):Mv S B U W:=
 ⟨k.os.trans a.os,k.tape.trans a.tape,k.output.trans a.output,zv a.size k.size,λc d e b=>k.keep c d (a.keep c d e b) b⟩
theorem Mv.mono{S':List TypeId}(a:Mv S B U V)(d:∀t∈S,t∈S')(j:B'<=B):Mv S' B' U V:=
 ⟨a.os,a.tape,a.output,a.size,λi o e ho=>a.keep i o e (by
  rcases ho with ho|ho
  ·exact Or.inl (by omega)
  ·exact Or.inr (λb T c f=>ho b T c (d _ f)))⟩
theorem Mv.of_below(a:aB U V):Mv S B U V:=
 ⟨a.os,a.tape,a.output,a.size,λc _ b _=>(a.block c (zz.1 b).1).trans b⟩
theorem Mv.of_grown{i:Option Nat}(a:U.grownBy V i)(m:∀e,i=some e->B<=e/\∃d b,U.heap[e]?=some (.cells d b (0,0))/\b∈S):Mv S B U V:=
 ⟨a.os,a.tape,a.output,a.size,λf p c ho=>(a.block f (zz.1 c).1 (by
  intro j;obtain ⟨o,d,b,k,l⟩:=m f j.symm;rw [k] at c;cases c;rcases ho with ho|ho
  ·omega
  ·exact ho d b rfl l)).trans c⟩
theorem Mv.cells(d:Mv S B U V){k:Nat}{b:Array Value}{a:TypeId}(f:U.heap[k]?=some (.cells b a (0,0)))(e:a∉S):V.heap[k]?=some (.cells b a (0,0)):=
 d.keep k _ f (Or.inr (λj i c=>by cases c;exact e))
theorem Mv.below(a:Mv S B U V)(e:B<=U.heap.size):Below B U V:=
 ⟨a.os,a.tape,a.output,a.size,λk d=>by
  obtain ⟨b,c⟩ : ∃b,U.heap[k]?=some b:=⟨_,zr (by omega)⟩;rw [a.keep k b c (Or.inl d),c]⟩
theorem Mv.keepsFrom(a:Mv S B U V):KeepsFrom B' U V:=
 ⟨a.size,λe f _ c d=>a.keep e f c (Or.inr (λj i b=>by subst b;cases d))⟩
theorem Mv.row(f:Mv S B U V){a:TypeId}{d:Nat}{v:Value}{n:Nat}{c:List Value}(m:U.ownsRow B' a d v n c)(k:a∉S):V.ownsRow B' a d v n c:=by
 obtain ⟨b,⟨rfl,i⟩|⟨g,cap,e,rfl,j,l,o⟩⟩:=m
 ·exact ⟨b,Or.inl ⟨rfl,i⟩⟩
 ·exact ⟨b,Or.inr ⟨g,cap,e,rfl,j,f.cells l k,o⟩⟩
theorem Mv.clause(b:Mv S B U V){v:Value}{a:List Lt}(f:bR B' U v a)(d:86∉S)(e:117∉S):bR B' V v a:=by obtain ⟨c,k,l,m,o⟩:=f;exact ⟨c,k,b.row l d,λj i=>b.row (m j i) e,o⟩
theorem Mv.boxed(c:Mv S B U V){b:Nat}{a:TypeId}{v:Value}(e:Boxed U b a v)(d:a∉S):Boxed V b a v:=c.cells e d
theorem Mv.kps(a:Mv S B U V):cN S U V:=⟨a.size,λ_ _ _ b c=>a.cells b c⟩
theorem cN.row(f:cN S U V){a:TypeId}{d:Nat}{v:Value}{n:Nat}{c:List Value}(m:U.ownsRow B' a d v n c)(k:a∉S):V.ownsRow B' a d v n c:=by
 obtain ⟨b,⟨rfl,i⟩|⟨g,cap,e,rfl,j,l,o⟩⟩:=m
 ·exact ⟨b,Or.inl ⟨rfl,i⟩⟩
 ·exact ⟨b,Or.inr ⟨g,cap,e,rfl,j,f.kc _ _ _ l k,o⟩⟩
theorem cN.clause(b:cN S U V){v:Value}{a:List Lt}(f:bR B' U v a)(d:86∉S)(e:117∉S):bR B' V v a:=by obtain ⟨c,k,l,m,o⟩:=f;exact ⟨c,k,b.row l d,λj i=>b.row (m j i) e,o⟩
theorem cN.boxed(c:cN S U V){b:Nat}{a:TypeId}{v:Value}(e:Boxed U b a v)(d:a∉S):Boxed V b a v:=c.kc _ _ _ e d
structure kO(c:List Lt):Prop where
 len:c.length<=8
 term:∀x∈c,aQ x.2 1=true/\x.2.length<=60
theorem aDq{n:Nd}(a:cZ n=true):n.1.size<=80:=by
 unfold cZ at a;split at a
 ·rename_i b;have:n.1.size=0:=by
   simp [aK] at b;have:=congrArg List.length b;rw [ByteArray.toList_eq] at this;simpa using this
  omega
 ·simp at a;exact (aM8 _ a.1).2
theorem aDr:∀(a:List Nd) (b:Nat),aQ a b=true->∀n∈a,cZ n=true
 |[],_,_,n,hn=>by simp at hn
 |x::r,b,h,n,hn=>by
  unfold aQ at h;split at h
  ·cases h
  ·split at h
   ·rename_i c;rcases List.mem_cons.1 hn with rfl|hn
    ·exact c
    ·exact aDr r _ h n hn
   ·cases h
theorem kO.nodes{c:List Lt}(d:kO c){x:Lt}(i:x∈c):x.2.length<=60/\0<x.2.length/\∀b (d:b<x.2.length),x.2[b].1.size<=80:=by
 obtain ⟨a,e⟩:=d.term x i;refine ⟨e,?_,λb f=>aDq (aDr _ _ a _ (zu f))⟩;cases hl:x.2 with
 |nil=>rw [hl] at a;simp [aQ] at a
 |cons=>simp
theorem lF{b:List Lt}(a:aY b=true):kO b:=by simp only [aY,Bool.and_eq_true,bP,decide_eq_true_eq,List.all_eq_true] at a;exact ⟨a.1.1.1,λx c=>aLp (a.1.2 x c)⟩
theorem bR.lits{b:List Lt}(C:bR B w v b)(r:kO b):∃c cap,v=.slice c b.length cap/\b.length<=cap/\cH w c b/\aB5 w c b:=by
 obtain ⟨i,H,f,u,Q⟩:=C;subst H;obtain ⟨c,cap,rfl⟩:=aZ f;refine ⟨c,cap,by simp,?_,aDp (P:=i) (by simpa using f) rfl (λt s=>?_) (by have:=r.len;omega),?_⟩
 ·obtain ⟨_,⟨a,z⟩|⟨g,o,y,a,_,_,k,_⟩⟩:=f
  ·simp [z]
  ·simp at a;obtain ⟨_,rfl⟩:=a;simpa using k
 ·obtain ⟨M,N,D⟩:=r.nodes (x:=t.1) (by simp;exact ⟨_,s⟩);obtain ⟨m,p,a,G⟩:=vI (u t s) (by omega) (λe l=>by have:=D e l;omega);exact ⟨m,p,a,G⟩
 ·intro e l J O m n p A q;have F:e<i.length:=by simpa using l
  obtain ⟨I,o,a,k⟩:=tV f;simp at a;obtain ⟨rfl,rfl⟩:=a;obtain ⟨g,j,_,d⟩:=k e F;rw [A] at j;simp at j;obtain ⟨rfl,rfl⟩:=j;rw [Nat.zero_add] at q;rw [q] at d;obtain ⟨_,⟨a,_⟩|⟨L,o,y,a,_,_,E,_⟩⟩:=u i[e] (zu _)
  ·rw [a] at d;cases d;omega
  ·rw [a] at d;cases d;exact E
structure Cd where
 r:Int
 a:Int
 b:Int
 i:Int
 j:Int
 ad:Option Addr
 ln:Nat
 cp:Nat
 wt:Int
 nm:Int
 c:List Lt
def Cd.cells(x:Cd):List Value:=[.int .i64 x.r,.int .i64 x.a,.int .i64 x.b,.int .i64 x.i,.int .i64 x.j,.slice x.ad x.ln x.cp,.int .i64 x.wt,.int .i64 x.nm]
def Cd.agg(x:Cd):Value:=.agg #[.int .i64 x.r,.int .i64 x.a,.int .i64 x.b,.int .i64 x.i,.int .i64 x.j,.slice x.ad x.ln x.cp,.int .i64 x.wt,.int .i64 x.nm]
def gO(a:List Cd):List Value:=a.flatMap Cd.cells
theorem aUv:(zt.info? 73).map (λa=>(a.zero,a.size,a.bytes))=some (some (.agg #[.int .i64 0,.int .i64 0,.int .i64 0,.int .i64 0,.int .i64 0,.slice none 0 0,.int .i64 0,.int .i64 0]),8,80):=by kernel_rfl
theorem aK5(a:List Cd):(gO a).length=a.length*8:=by
 induction a with
 |nil=>rfl
 |cons x r ih=>simp [gO,Cd.cells] at ih ⊢;omega
theorem wH(b:Cd)(a:List Cd):gO (b::a)=b.cells++gO a:=rfl
theorem aUw(a b:List Cd):gO (a++b)=gO a++gO b:=by simp [gO]
theorem aAq(a:Cd):a.cells.length=8:=rfl
theorem rN:∀(c:List Cd) (a:Nat) (d:a<c.length) (b:Nat),b<8->(gO c)[a*8+b]?=(c[a]).cells[b]?
 |[],a,d,_,_=>by simp at d
 |x::c,0,_,b,ht=>by rw [wH,List.getElem?_append_left (by rw [aAq];omega)];simp
 |x::c,a+1,d,b,ht=>by
  have:=rN c a (by simpa using d) b ht;rw [wH,List.getElem?_append_right (by rw [aAq];omega),aAq,show (a+1)*8+b-8=a*8+b by omega,this];simp
def aAr(c:List Value)(b:Nat)(a:Cd):List Value:=(((((((c.set b (.int .i64 a.r)).set (b+1) (.int .i64 a.a)).set (b+2) (.int .i64 a.b)).set (b+3) (.int .i64 a.i)).set (b+4) (.int .i64 a.j)).set (b+5) (.slice a.ad a.ln a.cp)).set (b+6) (.int .i64 a.wt)).set (b+7) (.int .i64 a.nm)
theorem aK6:∀(b:List Cd) (a:Nat) (c:Cd),a<b.length->aAr (gO b) (a*8) c=gO (b.set a c)
 |[],a,_,h=>by simp at h
 |y::b,0,c,_=>by simp [aAr,gO,Cd.cells]
 |y::b,a+1,c,h=>by
  have:=aK6 b a c (by simpa using h);rw [List.set_cons_succ,wH,wH,<-this];have d:(a+1)*8=a*8+8:=by omega
  simp only [aAr,d];simp [Cd.cells]
theorem rO{d:TypeId}{i:Nat}{f:List Value}(k:w.ownsRow B d i (.slice (some ⟨g,0,none⟩) n cap) n f)(b:Nat)(c:Value):(w.setCell ⟨g,b,none⟩ c).ownsRow B d i (.slice (some ⟨g,0,none⟩) n cap) n (f.set b c):=by
 obtain ⟨l,⟨a,_⟩|⟨u,t,j,a,m,e,o,q,s,r⟩⟩:=k
 ·cases a
 ·simp at a;obtain ⟨rfl,rfl⟩:=a;refine ⟨by simpa using l,Or.inr ⟨g,cap,j.setIfInBounds b c,rfl,m,?_,o,q,by simpa using s,?_⟩⟩
  ·have p:=(zz.1 e).1;show (w.heap.modify g _)[g]?=_;rw [zr (by rw [Array.size_modify];exact p),Array.getElem_modify_self];rw [(zz.1 e).2];rfl
  ·rw [<-r];simp [List.take_set]
structure cG(B:Nat)(w:World)(hp:Nat)(v:Value)(L:List Cd):Prop where
 box:w.heap[hp]?=some (.cells #[v,.func (.func 29) #[] #[]] 100 (0,0))
 row:w.ownsRow B 73 8 v L.length (gO L)
 base:B<=hp
theorem cG.c0{b:List Cd}(a:cG B w hp v b):w.cell? ⟨hp,0,none⟩=some v/\w.cell? ⟨hp,1,none⟩=some (.func (.func 29) #[] #[]):=⟨by simp [World.cell?,a.box],by simp [World.cell?,a.box]⟩
theorem cG.cells{a:List Cd}(d:cG B w hp v a){k:Nat}(b:k<a.length):∃g cap,v=.slice (some ⟨g,0,none⟩) a.length cap/\w.cell? ⟨g,k*8,none⟩=some (.int .i64 a[k].r)/\w.cell? ⟨g,k*8+1,none⟩=some (.int .i64 a[k].a)/\w.cell? ⟨g,k*8+2,none⟩=some (.int .i64 a[k].b)/\w.cell? ⟨g,k*8+3,none⟩=some (.int .i64 a[k].i)/\
   w.cell? ⟨g,k*8+4,none⟩=some (.int .i64 a[k].j)/\w.cell? ⟨g,k*8+5,none⟩=some (.slice a[k].ad a[k].ln a[k].cp)/\w.cell? ⟨g,k*8+6,none⟩=some (.int .i64 a[k].wt)/\w.cell? ⟨g,k*8+7,none⟩=some (.int .i64 a[k].nm):=by
 obtain ⟨i,⟨_,f⟩|⟨g,cap,e,rfl,j,l,o⟩⟩:=d.row
 ·omega
 ·have c:=d.row;have m:=aK5 a;refine ⟨g,cap,rfl,?_,?_,?_,?_,?_,?_,?_,?_⟩
  ·rw [c.cellAt (k*8) (by omega)];exact rN a k b 0 (by omega)
  ·rw [c.cellAt (k*8+1) (by omega)];exact rN a k b 1 (by omega)
  ·rw [c.cellAt (k*8+2) (by omega)];exact rN a k b 2 (by omega)
  ·rw [c.cellAt (k*8+3) (by omega)];exact rN a k b 3 (by omega)
  ·rw [c.cellAt (k*8+4) (by omega)];exact rN a k b 4 (by omega)
  ·rw [c.cellAt (k*8+5) (by omega)];exact rN a k b 5 (by omega)
  ·rw [c.cellAt (k*8+6) (by omega)];exact rN a k b 6 (by omega)
  ·rw [c.cellAt (k*8+7) (by omega)];exact rN a k b 7 (by omega)
def gG(w:World)(g a:Nat)(x:Cd):World:=(((((((w.setCell ⟨g,a,none⟩ (.int .i64 x.r)).setCell ⟨g,a+1,none⟩ (.int .i64 x.a)).setCell ⟨g,a+2,none⟩ (.int .i64 x.b)).setCell ⟨g,a+3,none⟩ (.int .i64 x.i)).setCell ⟨g,a+4,none⟩ (.int .i64 x.j)).setCell ⟨g,a+5,none⟩ (.slice x.ad x.ln x.cp)).setCell ⟨g,a+6,none⟩ (.int .i64 x.wt)).setCell ⟨g,a+7,none⟩ (.int .i64 x.nm)
theorem aUx{b:Nat}{c:TypeId}{a:List Cd}{x:Cd}(d:w.ownsRow B c 8 (.slice (some ⟨g,0,none⟩) n cap) n (gO a))(e:b<a.length):(gG w g (b*8) x).ownsRow B c 8 (.slice (some ⟨g,0,none⟩) n cap) n (gO (a.set b x)):=by rw [<-aK6 a b x e];unfold gG aAr;exact rO (rO (rO (rO (rO (rO (rO (rO d _ _) _ _) _ _) _ _) _ _) _ _) _ _) _ _
theorem aK7(w:World)(g k:Nat)(x:Cd):w.grownBy (gG w g k x) (some g):=by
 unfold gG;have a:∀(d:World) (e:Nat) (v:Value),w.grownBy d (some g)->w.grownBy (d.setCell ⟨g,e,none⟩ v) (some g):=λd e v b=>by
  have c:=cM d ⟨g,e,none⟩ v;exact ⟨c.os.trans b.os,c.tape.trans b.tape,c.output.trans b.output,zv b.size c.size,λj f i=>(c.block j (zo f b.size) i).trans (b.block j f i)⟩
 refine a _ _ _ (a _ _ _ (a _ _ _ (a _ _ _ (a _ _ _ (a _ _ _ (a _ _ _ (a _ _ _ ?_)))))));exact ⟨rfl,rfl,rfl,zy _,λ_ _ _=>rfl⟩
theorem aUy(w:World)(g b a:Nat)(x:Cd)(c:a<b\/b+8<=a):(gG w g b x).cell? ⟨g,a,none⟩=w.cell? ⟨g,a,none⟩:=by unfold gG;iterate 8 rw [World.cell?_setCell_other _ _ _ _ (by intro c;simp only [Addr.mk.injEq] at c;omega)]
theorem cG.frozen{b:List Cd}(c:cG B w hp (.slice (some ⟨g,0,none⟩) n cap) b)(e:Nat):w.frozen? ⟨g,e,none⟩=false:=by
 obtain ⟨_,⟨a,_⟩|⟨j,f,i,a,k,d,_⟩⟩:=c.row
 ·cases a
 ·simp at a;obtain ⟨rfl,_⟩:=a;simp [World.frozen?,d]
def lG(a b:Cd):Bool:=if a.wt=b.wt then decide (a.nm<b.nm) else decide (a.wt<b.wt)
theorem aK8(a b:Cd)(w:World):Calls zt 29 #[a.agg,b.agg] w λc w'=>c=.returned (.bool (lG a b))/\aB w w':=by
 unfold Cd.agg;go_enter Tryz.func29,Tryz.ntmps29;go_wp2
 ·have e:a.wt≠b.wt:=by simpa using ‹(a.wt != b.wt)=true›
  go_ret;exact ⟨by simp [lG,e],((Below.refl _ w).alloc (zy _) _).alloc (by simp) _⟩
 ·have d:a.wt=b.wt:=by simpa using ‹(a.wt != b.wt)=false›
  go_ret;exact ⟨by simp [lG,d],((Below.refl _ w).alloc (zy _) _).alloc (by simp) _⟩
theorem cG.below{b:List Cd}(a:cG B w hp v b)(c:aB w w'):cG B w' hp v b:=
 ⟨(c.block _ (zz.1 a.box).1).trans a.box,bK a.row c (zy _),a.base⟩
theorem cG.put{k:Nat}{c:List Cd}{x:Cd}(b:cG B w hp (.slice (some ⟨g,0,none⟩) n cap) c)(i:n=c.length)(f:k<c.length):cG B (gG w g (k*8) x) hp (.slice (some ⟨g,0,none⟩) n cap) (c.set k x)/\w.grownBy (gG w g (k*8) x) (some g):=by
 subst i;obtain ⟨_,⟨a,_⟩|⟨m,j,l,a,_,e,_⟩⟩:=b.row
 ·cases a
 ·simp at a;obtain ⟨rfl,rfl⟩:=a;have d:=aK7 w g (k*8) x;refine ⟨⟨?_,?_,b.base⟩,d⟩
  ·rw [d.block hp (zz.1 b.box).1 (by
    intro a;cases a;rw [b.box] at e;cases e)]
   exact b.box
  ·have:=aUx (x:=x) b.row f;simpa using this
theorem lH{d e f:World}{c:Option Nat}(a:d.grownBy e c)(b:e.grownBy f c):d.grownBy f c:=
 ⟨b.os.trans a.os,b.tape.trans a.tape,b.output.trans a.output,zv a.size b.size,λk i j=>(b.block k (zo i a.size) j).trans (a.block k i j)⟩
theorem cG.mv{b:List Cd}(d:cG B w hp v b)(f:w.grownBy w' v.ownBlock):Mv [73] B w w':=by
 refine Mv.of_grown f (λk a=>?_);obtain ⟨_,⟨rfl,_⟩|⟨g,cap,c,rfl,e,i,_⟩⟩:=d.row
 ·cases a
 ·cases a;exact ⟨e,c,_,i,by simp⟩
def nW(a:List Cd)(b c:Nat)(d:b<a.length)(e:c<a.length):List Cd:=(a.set b a[c]).set c a[b]
theorem yK{a:List Cd}{b c:Nat}(d:b<a.length)(e:c<a.length):(nW a b c d e).length=a.length:=by simp [nW]
theorem aK9(B hp:Nat)(v:Value)(a:List Cd)(d b:Nat)(w:World)(e:cG B w hp v a)(i:d<a.length)(j:b<a.length)(X:d≠b):Calls zt 95 #[.pointer (some ⟨hp,0,none⟩),.int .i64 d,.int .i64 b] w λf w'=>(∃q,f=.returned q)/\cG B w' hp v (nW a d b i j)/\w.grownBy w' v.ownBlock:=by
 obtain ⟨g,cap,rfl,Z,a0,a1,a2,a3,a4,a5,a6⟩:=e.cells i;obtain ⟨O,N,f,r,s,u,y,z,A,C,D⟩:=e.cells j;cases f;have M:=e.c0.1;have R:=e.frozen;have P:(d:Int)<(a.length:Int):=by omega
 have Q:(b:Int)<(a.length:Int):=by omega
 have c:=λt (Y:t<8)=>aUy w g (d*8) (b*8+t) a[b] (by omega)
 have o:=(c 0 (by omega)).trans r;have E:=(c 1 (by omega)).trans s;have F:=(c 2 (by omega)).trans u;have G:=(c 3 (by omega)).trans y;have H:=(c 4 (by omega)).trans z;have I:=(c 5 (by omega)).trans A;have J:=(c 6 (by omega)).trans C;have L:=(c 7 (by omega)).trans D;clear c;unfold gG at o E F G H I J L;simp only [Nat.add_zero] at o;have p:=aA e;clear e;go_enter Tryz.func95,Tryz.ntmps95;have T:zt.follows .mixedOrders=true:=by kernel_rfl
 go_region;go_end0;have l:=p.o.put (x:=a[b]) rfl i;have m:=l.1.put (k:=b) (x:=a[d]) (by simp) (by simpa using j);refine ⟨⟨_,rfl⟩,?_,?_⟩
 ·exact m.1.below (aR ⟨1,rfl⟩)
 ·exact lH (lH l.2 m.2) (gS (aR ⟨1,rfl⟩))
def dN(B:Nat)(w:World)(v:Value)(ks:List Nat):Prop:=w.ownsRow B 3 1 v ks.length (ks.map λa=>Value.int .i64 (a:Nat))
theorem dN.cell{a:Option Addr}(c:dN B w (.slice a n cap) ks){i:Nat}(d:i<ks.length):∃g,a=some ⟨g,0,none⟩/\w.cell? ⟨g,i,none⟩=some (.int .i64 (ks[i]:Nat)):=by
 have e:w.ownsRow B 3 1 (.slice a n cap) ks.length (ks.map λk=>Value.int .i64 (k:Nat)):=c;obtain ⟨_,⟨_,b⟩|⟨g,f,j,b,_⟩⟩:=c
 ·omega
 ·simp at b;refine ⟨g,b.1,?_⟩;obtain ⟨rfl,rfl,rfl⟩:=b;rw [e.cellAt i (by simpa using d)];simp [d]
theorem dN.shape(b:dN B w v ks):∃a cap,v=.slice a ks.length cap:=aZ b
def oQ(p:Nat->Bool)(ks:List Nat):Int:=if ks.findIdx p<ks.length then (ks.findIdx p:Nat) else -1
theorem aKa{p:Nat->Bool}{a:Nat}(d:a<ks.length)(f:p ks[a]=true)(i:∀b (c:b<a),p (ks[b]'(by omega))=false):oQ p ks=(a:Nat):=by have e:ks.findIdx p=a:=(List.findIdx_eq d).2 ⟨f,λb c=>by simpa using i b c⟩;unfold oQ;rw [e,aI d]
theorem aDs{p:Nat->Bool}(d:∀a (b:a<ks.length),p ks[a]=false):oQ p ks=-1:=by
 have c:ks.findIdx p=ks.length:=List.findIdx_eq_length.2 (λf e=>by
  obtain ⟨a,b,rfl⟩:=List.getElem_of_mem e;exact d a b)
 unfold oQ;rw [c,aH (by omega)]
theorem aUz{p:Nat->Bool}:decide (0<=oQ p ks)=ks.any p:=by
 unfold oQ;split
 ·rename_i a;rw [show decide (0<=((ks.findIdx p:Nat):Int))=true by simp];rw [zq] at a;exact (zn.2 a).symm
 ·rename_i a;rw [zq] at a;have:ks.any p=false:=by
   rw [Bool.eq_false_iff];exact λb=>a (zn.1 b)
  rw [this];rfl
def aKb(w:World)(c d:Nat)(p:Nat->Bool)(ks:List Nat):Prop:=∀b∈ks,∀a,aB w a->Calls zt 75 #[.int .i64 (b:Nat),.pointer (some ⟨c,0,none⟩),.pointer (some ⟨d,0,none⟩)] a λe w'=>e=.returned (.bool (p b))/\aB a w'
theorem aV0(B A C:Nat)(p:Nat->Bool)(z:Option Addr)(cap:Nat)(ks:List Nat)(w:World)(e:dN B w (.slice z ks.length cap) ks)(P:ks.length<=1000000)(F:aKb w A C p ks):Calls zt 79 #[.slice z ks.length cap,.func (.func 75) #[] #[.pointer (some ⟨A,0,none⟩),.pointer (some ⟨C,0,none⟩)]] w λr w'=>r=.returned (.int .i64 (oQ p ks))/\aB w w':=by
 have H:=aA F;have G:=aA e;clear F e;go_enter Tryz.func79,Tryz.ntmps79;go_wp2;go_loopw [8] (λx wr=>∃b:Nat,b<=ks.length/\x=.int .i64 b/\(∀a (d:a<ks.length),a<b->p ks[a]=false)/\aB w wr) (λx _=>ks.length-(intOf x).toNat);case atStart=>exact ⟨0,Nat.zero_le _,rfl,λa _ e=>by omega,Below.refl _ _⟩
 case round=>
  obtain ⟨b,M,rfl,E,c⟩:=hrel;have o:=aA E;have l:=aA c;clear E;by_cases u:b<ks.length
  ·obtain ⟨g,rfl,s⟩:=G.o.cell u;have I:=aC c s;have O:(b:Int)<(ks.length:Int):=by omega
   obtain ⟨k,j⟩ : ∃k,ks[b]=k:=⟨_,rfl⟩;rw [j] at s I;have i:=aA (H.o k (by rw [<-j];exact zu u) wr c);have y:=aA j;have D:=c.size;clear s j c;cases hp:p k
   ·rw [hp] at i;have q:=aA hp;clear hp;go_wp2_with (first
     |(go_at_call 75;refine (aD i).mono ?_;rintro r J ⟨rfl,f⟩;have m:=aA (l.o.trans (f.mono D));clear f)
     |go_in)
    go_roundw;case rel=>exact ⟨b+1,by omega,by go_num,λa d L=>by
     rcases (show a<b\/a=b by omega) with e|rfl
     ·exact o.o a d e
     ·rw [y.o];exact q.o,m.o⟩
    case measure=>simp [intOf];omega
   ·rw [hp] at i;have q:=aA hp;clear hp;go_wp2_with (first
     |(go_at_call 75;refine (aD i).mono ?_;rintro r J ⟨rfl,f⟩;have m:=aA (l.o.trans (f.mono D));clear f)
     |go_in)
    go_ret;have t:=aKa u (by rw [y.o];exact q.o) (λa d=>o.o a (by omega) d);exact ⟨by rw [t];rfl,m.o⟩
  ·have N:b=ks.length:=by omega
   clear c;go_wp2;go_ret;have t:=aDs (λa d=>o.o a d (by omega));exact ⟨by rw [t];rfl,l.o⟩
theorem aV1(B b c:Nat)(p:Nat->Bool)(a:Option Addr)(cap:Nat)(ks:List Nat)(w:World)(e:dN B w (.slice a ks.length cap) ks)(o:ks.length<=1000000)(j:aKb w b c p ks):Calls zt 74 #[.slice a ks.length cap,.func (.func 75) #[] #[.pointer (some ⟨b,0,none⟩),.pointer (some ⟨c,0,none⟩)]] w λd w'=>d=.returned (.bool (ks.any p))/\aB w w':=by
 have k:=aA (aV0 B b c p a cap ks w e o j);have f:=aUz (p:=p) (ks:=ks);clear e j;generalize oQ p ks=r at *;generalize ks.any p=q at *;have l:=aA f;clear f;go_enter Tryz.func74,Tryz.ntmps74;go_wp2_with (go_at_call 79;refine (aD k).mono ?_;rintro d s ⟨rfl,i⟩;have m:=aA i;clear i);go_ret;exact ⟨by rw [<-l.o];rfl,m.o⟩
def aKc(w:World)(c d:Nat)(f:Nat->Bool)(ks:List Nat):Prop:=∀b∈ks,∀a,aB w a->Calls zt 50 #[.int .i64 (b:Nat),.pointer (some ⟨c,0,none⟩),.pointer (some ⟨d,0,none⟩)] a λe w'=>e=.returned (.bool (f b))/\aB a w'
theorem aKd(B A C:Nat)(p:Nat->Bool)(z:Option Addr)(cap:Nat)(ks:List Nat)(w:World)(e:dN B w (.slice z ks.length cap) ks)(P:ks.length<=1000000)(F:aKc w A C p ks):Calls zt 79 #[.slice z ks.length cap,.func (.func 50) #[] #[.pointer (some ⟨A,0,none⟩),.pointer (some ⟨C,0,none⟩)]] w λs w'=>s=.returned (.int .i64 (oQ p ks))/\aB w w':=by
 have H:=aA F;have G:=aA e;clear F e;go_enter Tryz.func79,Tryz.ntmps79;go_wp2;go_loopw [8] (λi wr=>∃b:Nat,b<=ks.length/\i=.int .i64 b/\(∀a (d:a<ks.length),a<b->p ks[a]=false)/\aB w wr) (λi _=>ks.length-(intOf i).toNat);case atStart=>exact ⟨0,Nat.zero_le _,rfl,λa _ e=>by omega,Below.refl _ _⟩
 case round=>
  obtain ⟨b,M,rfl,E,c⟩:=hrel;have q:=aA E;have m:=aA c;clear E;by_cases x:b<ks.length
  ·obtain ⟨g,rfl,t⟩:=G.o.cell x;have I:=aC c t;have O:(b:Int)<(ks.length:Int):=by omega
   obtain ⟨l,k⟩ : ∃l,ks[b]=l:=⟨_,rfl⟩;rw [k] at t I;have j:=aA (H.o l (by rw [<-k];exact zu x) wr c);have y:=aA k;have D:=c.size;clear t k c;cases hp:p l
   ·rw [hp] at j;have r:=aA hp;clear hp;go_wp2_with (first
     |(go_at_call 50;refine (aD j).mono ?_;rintro s J ⟨rfl,f⟩;have o:=aA (m.o.trans (f.mono D));clear f)
     |go_in)
    go_roundw;case rel=>exact ⟨b+1,by omega,by go_num,λa d L=>by
     rcases (show a<b\/a=b by omega) with e|rfl
     ·exact q.o a d e
     ·rw [y.o];exact r.o,o.o⟩
    case measure=>simp [intOf];omega
   ·rw [hp] at j;have r:=aA hp;clear hp;go_wp2_with (first
     |(go_at_call 50;refine (aD j).mono ?_;rintro s J ⟨rfl,f⟩;have o:=aA (m.o.trans (f.mono D));clear f)
     |go_in)
    go_ret;have u:=aKa x (by rw [y.o];exact r.o) (λa d=>q.o a (by omega) d);exact ⟨by rw [u];rfl,o.o⟩
  ·have N:b=ks.length:=by omega
   clear c;go_wp2;go_ret;have u:=aDs (λa d=>q.o a d (by omega));exact ⟨by rw [u];rfl,m.o⟩
