import Derived.Test.YtcldkjcpofjmhaaGreatDoorONumberM
import Derived.RangeFuncNested
import Derived.RangeFuncBound
import Derived.RangeFuncCalls
import Derived.RangeFuncLeaves
import Derived.Lib.SliceRun
open Array renaming getElem?_eq_some_iff→zz,getElem?_eq_getElem→zm
open List renaming getElem_mem→zw,findIdx_lt_length→zr,take_succ_eq_append_getElem→zq,any_eq_true→zp,length_set→zo,replicate→zn,getElem?_eq_getElem→zl,take_take→zj,getElem_of_mem→zh,take_set_of_le→zg,take_length→zc
open Nat renaming le_refl→zy,le_succ→zu,le_trans→zt,lt_succ_self→zs,lt_of_lt_of_le→ze
namespace Go.Proofs.YtcldkjcpofjmhaaGreatDoor
open _root_.Go.Proofs.Tryz renaming prog→zv
open World renaming putObj_heap_other→zx,alloc_heap_new→zk,frozen?→zf
set_option maxHeartbeats 8000000
set_option maxRecDepth 100000
section
open Go.RowKit Go.Shelf Go.WideMaps
theorem tC{w':World}{B:Nat}{a:Option Addr}{cap:Nat}{P:List (Lt×Value)}{c:List Lt}(ho:w'.ownsRow B 39 2 (.slice a c.length cap) P.length (bA P))(hP:P.map Prod.fst=c)(hA:∀p∈P,jX w' p.2 p.1.2)(hf:c.length<=4398046511104):bD w' a c:=by
 subst hP;obtain ⟨a',cap',e,hc⟩:=qH ho;simp at e;obtain ⟨rfl,_⟩:=e;refine ⟨hf,λk hk=>?_⟩;have hk':k<P.length:=by simpa using hk
 obtain ⟨g,rfl,h1,h2⟩:=hc k hk';obtain ⟨aa,cp,h3,h4⟩:=hA P[k] (zw _);rw [h3] at h2;refine ⟨g,0,aa,cp,rfl,?_,?_,?_⟩
 ·simpa using h1
 ·simpa using h2
 ·simpa using h4
structure uR(w:World)(c:List Lt)(v:Value)(nb:Nat)(Q:List (Lt×Value))(w':World):Prop where
 val:v=.slice (some ⟨nb,0,none⟩) (aR c).length (aR c).length
 made:Q.map Prod.fst=aR c
 row:w'.ownsRow w.heap.size 39 2 (.slice (some ⟨nb,0,none⟩) (aR c).length (aR c).length) (aR c).length (bA Q)
 atoms:∀q∈Q,w'.ownsRow w.heap.size 36 2 q.2 q.1.2.length (aH q.1.2)
 once:(Q.map λq=>q.2.ownBlock).Nodup
 apart:∀q∈Q,q.2.ownBlock≠some nb
 low:Below w.heap.size w w'
theorem aGr(a:Option Addr)(cp:Nat)(c:List Lt)(w:World)(h:bD w a c)(hv:∀l∈c,uO l.2)(hc:aK c<=100000)(hl:c.length<=100000) :
  Calls zv 52 #[.slice a c.length cp] w λe w'=>∃v nb Q,e=.returned v/\uR w c v nb Q w':=by
 have CD:=aA (aHj a cp c w h);obtain ⟨d1,d2,d3⟩:=qG c;have CN:=aA (λa' cp' wx (hx:bD wx a' (cJ c))=>aQ7 a' cp' (cJ c) wx hx (λl hlm=>hv l (d3 l hlm)) (by omega) (by omega));have hd:(cJ c).length<=100000:=by omega
 clear d1 d2 d3 hv hc hl;go_enter Tryz.func52,Tryz.ntmps52;go_wp2_with (first
  | (go_at_call 84;refine (aB CN va vcp w1 HL.out).mono ?_;rintro e w2 ⟨nb,Q,rfl,hN⟩;have HN:=aA hN;clear hN)
  | (go_at_call 85;refine (aB CD).mono ?_;rintro e w1 ⟨v,P,rfl,hP,hA,ho,hb⟩;obtain ⟨va,vcp,rfl⟩:=aS ho;have hPl:P.length=(cJ c).length:=(by rw [<-hP];simp);have HL:=aA (tC (w':=w1) (B:=w.heap.size) (a:=va) (P:=P) (c:=cJ c) (cap:=vcp) (by rw [<-hPl];exact ho) hP (λp hp=>(hA p hp).below hb (zy _)) (by omega));rw [hPl];have HB:=aA hb;clear hP hA ho hb hPl))
 go_ret;have hN:=HN.out;have hq:Q.length=(cJ c).length:=by have h1:=congrArg List.length hN.made;rw [(pA _).1] at h1;simpa using h1
 have hol:(aR c).length=(cJ c).length:=by unfold aR;exact (pA _).1
 have hm:=hN.made;rw [zc] at hm;have hw:=HB.out.size;have hr:=hN.row;rw [hq,Nat.sub_self,List.replicate_zero,List.append_nil] at hr;exact ⟨_,nb,Q,rfl,by rw [hol];rfl,hm,by rw [hol];exact dI hr hw,λq hqm=>dI (hN.atoms q hqm) hw,hN.once,hN.apart,HB.out.trans (hN.low.mono hw)⟩
end
section
open Go.RowKit
def bM(B:Nat)(w:World)(v:Value)(out:List Lt):Prop:=∃Q:List (Lt×Value),Q.map Prod.fst=out/\w.ownsRow B 39 2 v Q.length (bA Q)/\(∀q∈Q,fG w B q.2 q.1.2)/\((Q.map Prod.snd).filterMap Value.ownBlock).Nodup
theorem bM.nil(B:Nat)(w:World):bM B w (.slice none 0 0) []:=⟨[],rfl,World.ownsRow_nil _ _ _ _,λq hq=>by simp at hq,by simp⟩
end
section
open Go Go.RowKit
structure dC(S:List TypeId)(W W':World):Prop where
 size:W.heap.size<=W'.heap.size
 kc:∀(k:Nat) (cs:Array Value) (T:TypeId),W.heap[k]?=some (Obj.cells cs T (0,0))->T∉S->W'.heap[k]?=some (Obj.cells cs T (0,0))
theorem dC.refl(S:List TypeId)(W:World):dC S W W:=⟨zy _,λ_ _ _ h _=>h⟩
theorem dC.trans{S:List TypeId}{A B C:World}(h:dC S A B)(k:dC S B C):dC S A C:=⟨zt h.size k.size,λi cs T hi ht=>k.kc i cs T (h.kc i cs T hi ht) ht⟩
theorem dC.put{S:List TypeId}(W:World)(l:Nat)(o o':Obj)(hl:W.heap[l]?=some o)(ho:o.isCells=false):dC S W (W.putObj l o'):=
 ⟨by simp,λk cs T hk _=>(zx (by rintro rfl;rw [hl] at hk;cases hk;cases ho)).trans hk⟩
theorem dC.grown{S:List TypeId}{U V:World}{row:Option Nat}(h:U.grownBy V row)(hr:∀r,row=some r->∃o:Obj,U.heap[r]?=some o/\o.isCells=false):dC S U V:=
 ⟨h.size,λi cs T hi _=>(h.block i (zz.1 hi).1 (by
  intro e;obtain ⟨o,h1,h2⟩:=hr i e.symm;rw [h1] at hi;cases hi;cases h2)).trans hi⟩
def lB(S:List TypeId)(N:Nat)(W W':World):Prop:=dC S W W'/\KeepsFrom N W W'
theorem jK{B B':Nat}{W W':World}(h:KeepsFrom B W W')(hB:B<=B'):KeepsFrom B' W W':=⟨h.size,λk o hk h1 h2=>h.same k o (zt hB hk) h1 h2⟩
theorem lB.trans{S:List TypeId}{N:Nat}{A B C:World}(h:lB S N A B)(k:lB S N B C):lB S N A C:=⟨h.1.trans k.1,⟨zt h.2.size k.2.size,λi o hi h1 h2=>k.2.same i o hi (h.2.same i o hi h1 h2) h2⟩⟩
theorem lC{N:Nat}{A B C:World}(h:KeepsFrom N A B)(k:KeepsFrom N B C):KeepsFrom N A C:=⟨zt h.size k.size,λi o hi h1 h2=>k.same i o hi (h.same i o hi h1 h2) h2⟩
theorem lB.put{S:List TypeId}{N:Nat}(W:World)(l:Nat)(o o':Obj)(hl:W.heap[l]?=some o)(ho:o.isCells=false)(hN:l<N):lB S N W (W.putObj l o'):=
 ⟨dC.put W l o o' hl ho,⟨by simp,λk _ hk h1 _=>(zx (by omega)).trans h1⟩⟩
def tD{α:Type}(F:Fence)(n:Nat)(P:Program)(g:Nat)(lb:Array Value)(Enc:α->Array Value->World->Prop)(S:List TypeId)(L:List α)(W:World):Prop:=
 ∀(l:Nat) (J Jx:Nat->World->Prop),OwnFrom W.heap.size J->OwnFrom W.heap.size Jx->
  (∀k x args W1,L[k]?=some x->J k W1->Enc x args W1->YieldAt F (n-1) P l args W1 λe W'=>
   (e=.returned (.bool true)/\J (k+1) W'/\lB S W.heap.size W1 W')\/(e=.returned (.bool false)/\Jx k W'/\KeepsFrom W.heap.size W1 W'))->
  J 0 W->
  CallsIn F n P g (#[.func (.yield l) #[] #[]]++lb) W λe W'=>(∃v,e=.returned v)/\(J L.length W'\/∃k,Jx k W')
def zA(B:Nat)(S:List TypeId)(I:Nat->World->Prop)(Ix:Code->Nat->World->Prop)(k:Nat)(W:World):Exit->Act->World->Prop
 | .normal,_,W'=>KeepsFrom B W W'/\dC S W W'/\I (k+1) W'
 | .ret,_,W'=>KeepsFrom B W W'/\Ix .ret k W'
 | .exit i,_,W'=>KeepsFrom B W W'/\Ix (.exit i) k W'
 | .goto t,_,W'=>KeepsFrom B W W'/\Ix (.goto t) k W'
 | .panic _,_,_=>False
 | .outgrown,_,_=>False
theorem rV{β:Type}{B B':Nat}{I:β->World->Prop}(h:OwnFrom B I)(hB:B<=B'):OwnFrom B' I:=
 λs X Y row hs hg hr=>h s X Y row hs hg (λr e=>⟨zt hB (hr r e).1,(hr r e).2⟩)
def iW(fn:FuncId)(tmps:Array Value)(ps:Array Tmp)(assign body:Code)(d:Nat)(s:LoopState)(p:Option Code):Loop:=
 {state:=s,pending:=p,fn:=fn,tmps:=tmps,params:=ps,assign:=assign,body:=body,defers:=d}
structure lU(D:Nat)(r:Loop)(W:World):Prop where
 k:W.heap[D]?=some (.deferred (some []))
 l:W.heap[D+1]?=some (.loop r)
theorem lU.own{B D:Nat}{r:Loop}(hB:D+1<B):OwnFrom B (λ(_:Nat) W=>lU D r W):=λ_ X Y row hs hg hr=>by
 refine ⟨(hg.block _ (zz.1 hs.k).1 ?_).trans hs.k,(hg.block _ (zz.1 hs.l).1 ?_).trans hs.l⟩;all_goals
  intro e;have:=(hr _ e.symm).1;omega
theorem lU.put{D:Nat}{r:Loop}{W:World}(h:lU D r W)(r':Loop):lU D r' (W.putObj (D+1) (.loop r')):=
 ⟨(zx (by omega)).trans h.k,World.putObj_heap_same (zz.1 h.l).1⟩
theorem lU.keep{B D:Nat}{r:Loop}{W W':World}(h:lU D r W)(hB:B<=D)(hk:KeepsFrom B W W'):lU D r W':=
 ⟨hk.same _ _ hB h.k rfl,hk.same _ _ (by omega) h.l rfl⟩
theorem zB{α:Type}{F:Fence}{n:Nat}{P:Program}{g:Operand}{ps:Array Tmp}{assign body:Code}{Q:Exit->Act->World->Prop}{a:Act}{w:World}
  (hro:F.round=none) (h1:1<=n) {gf:Nat} {lb:Array Value} (hg:a.eval g=.func (.func gf) #[] lb) (hFg:F.fn gf) (eg:∀args w,(callFunc gf args).run P w=.ok (.enter gf args) w)
  {Enc:α->Array Value->World->Prop} {S:List TypeId} {L:List α}
  (hseq:∀o o',tD F (n-1) P gf lb Enc S L ((w.alloc o).alloc o'))
  (hps:∀x args W,Enc x args W->args.size=ps.size)
  (I:Nat->World->Prop) (Ix:Code->Nat->World->Prop) (hI:OwnFrom w.heap.size I) (hIx:∀c,OwnFrom w.heap.size (Ix c)) (h0:I 0 w)
  (Ax:α->Act->World->Prop) (hAx:∀x a',OwnFrom w.heap.size (λ(_:Unit) W=>Ax x a' W))
  (hassign:∀(l k:Nat) (x:α) (args:Array Value) (W:World) (K:Act->World->Prop),L[k]?=some x->I k W->Enc x args W->(∀a' W',KeepsFrom w.heap.size W W'->dC S W W'->I k W'->Ax x a' W'->K a' W')->
   assign.wpIn (F.inRound l) (n-1-1) P (Exit.then K (λ_ _ _=>False)) {tmps:=(ps.zip args).foldl (λt (p,v)=>t.setIfInBounds p v) a.tmps,defers:=[]} W)
  (hbody:∀(l k:Nat) (x:α) (a':Act) (W:World),w.heap.size<=l->L[k]?=some x->I k W->Ax x a' W->
   body.wpIn (F.inRound l) (n-1-1) P (zA w.heap.size S I Ix k W) a' W)
  (hdone:∀(W:World),I L.length W->W.heap[w.heap.size]?=some (.deferred (some []))->Q .normal {a with defers:={target:=.collected w.heap.size,args:=#[]} :: a.defers} W)
  (hstop:∀(c:Code) (k:Nat) (W:World),Ix c k W->W.heap[w.heap.size]?=some (.deferred (some []))->c.wpIn F n P Q {a with defers:={target:=.collected w.heap.size,args:=#[]} :: a.defers} W) :
  (Code.rangeFunc g ps assign body).wpIn F n P Q a w:=by
 refine wpIn_rangeFunc λfn hfn=>?_
 have hL1:lU w.heap.size (iW fn a.tmps ps assign body w.heap.size .ready none) ((w.alloc (.deferred (some []))).alloc (.loop (iW fn a.tmps ps assign body w.heap.size .ready none))):=by refine ⟨(Below.heap_alloc _ _ _ (by simp)).trans (zk w _),?_⟩;have:=zk (w.alloc (.deferred (some []))) (.loop (iW fn a.tmps ps assign body w.heap.size .ready none));rwa [World.size_alloc] at this
 have hz:((w.alloc (.deferred (some []))).alloc (.loop (iW fn a.tmps ps assign body w.heap.size .ready none))).heap.size=w.heap.size+1+1:=by simp
 rw [hro];have henter:=run_enterLoop_outer (P:=P) (w:=w) fn a.tmps ps assign body;refine ⟨w.heap.size+1,[{target:=.collected w.heap.size,args:=#[]}],(w.alloc (.deferred (some []))).alloc (.loop (iW fn a.tmps ps assign body w.heap.size .ready none)),{target:=.fn (.func gf) lb,args:=#[.func (.yield (w.heap.size+1)) #[] #[]]},
  (w.alloc (.deferred (some []))).alloc (.loop (iW fn a.tmps ps assign body w.heap.size .ready none)),gf,#[.func (.yield (w.heap.size+1)) #[] #[]]++lb,(w.alloc (.deferred (some []))).alloc (.loop (iW fn a.tmps ps assign body w.heap.size .ready none)),henter,?_,?_,?_,λ_=>h1,?_⟩
 ·simp only [resolve,hg];simp [go_sem]
 ·intro f' hf';simp [Target.leads] at hf';subst hf';exact hFg
 ·simp [invoke,go_sem,eg]
 refine (hseq _ _ (w.heap.size+1) (λk W=>I k W/\lU w.heap.size (iW fn a.tmps ps assign body w.heap.size .ready none) W)
  (λk W=>∃c,Ix c k W/\lU w.heap.size (iW fn a.tmps ps assign body w.heap.size .done (some c)) W) ?o1 ?o2 ?round ⟨hI.alloc _ (hI.alloc _ h0),hL1⟩).mono ?behind
 case o1=>exact (rV hI (by simp;omega)).and (lU.own (by simp))
 case o2=>
  rintro s X Y row ⟨c,h,h'⟩ hg' hr;exact ⟨c,rV (hIx c) (by simp;omega) s X Y row h hg' hr,lU.own (by simp) s X Y row h' hg' hr⟩
 case round=>
  rintro k x args W hx ⟨hi,hl⟩ he;refine ⟨fn,_,assign,body,run_yield (P:=P) (args:=args) hl.l (hps x args W he),roundIn_of_wpIn hfn (hassign _ k x args W _ hx hi he ?_)⟩;intro a' Wa hkf hkp hia hax;have hla:=hl.keep (zy _) hkf;refine ⟨_,run_beginRound hla.l rfl,?_⟩;have hl2:=hla.put (iW fn a.tmps ps assign body w.heap.size .busy none);have hi2:=hI.putObj (.loop (iW fn a.tmps ps assign body w.heap.size .busy none)) hia (zu _) hla.l rfl;have ha2:=(hAx x a').putObj (s:=()) (.loop (iW fn a.tmps ps assign body w.heap.size .busy none)) hax (zu _) hla.l rfl;have hk2:lB S (w.heap.size+1+1) W _:=lB.trans ⟨hkp,jK hkf (by omega)⟩ (lB.put Wa _ _ (.loop (iW fn a.tmps ps assign body w.heap.size .busy none)) hla.l rfl (zs _));refine wpIn_mono (hbody _ k x a' _ (zu _) hx hi2 ha2) ?_;rintro e a3 W3 hp;cases e with
  | normal=>
   obtain ⟨hk3,hkp3,hi3⟩:=hp;have hl3:=hl2.keep (zy _) hk3;have hl4:=hl3.put (iW fn a.tmps ps assign body w.heap.size .ready none);exact ⟨_,_,run_endRound none hl3.l,.inl ⟨rfl,⟨hI.putObj _ hi3 (zu _) hl3.l rfl,hl4⟩,by rw [hz];exact (hk2.trans ⟨hkp3,jK hk3 (by omega)⟩).trans (lB.put _ _ _ _ hl3.l rfl (zs _))⟩⟩
  | ret=>
   obtain ⟨hk3,hi3⟩:=hp;have hl3:=hl2.keep (zy _) hk3;exact ⟨_,_,run_endRound (some .ret) hl3.l,.inr ⟨rfl,⟨.ret,(hIx _).putObj _ hi3 (zu _) hl3.l rfl,hl3.put (iW fn a.tmps ps assign body w.heap.size .done (some .ret))⟩,by rw [hz];exact (lC (lC hk2.2 (jK hk3 (by omega))) (lB.put (S:=S) _ _ _ _ hl3.l rfl (zs _)).2)⟩⟩
  | exit i=>
   obtain ⟨hk3,hi3⟩:=hp;have hl3:=hl2.keep (zy _) hk3;exact ⟨_,_,run_endRound (some (.exit i)) hl3.l,.inr ⟨rfl,⟨.exit i,(hIx _).putObj _ hi3 (zu _) hl3.l rfl,hl3.put (iW fn a.tmps ps assign body w.heap.size .done (some (.exit i)))⟩,by rw [hz];exact (lC (lC hk2.2 (jK hk3 (by omega))) (lB.put (S:=S) _ _ _ _ hl3.l rfl (zs _)).2)⟩⟩
  | goto t=>
   obtain ⟨hk3,hi3⟩:=hp;have hl3:=hl2.keep (zy _) hk3;exact ⟨_,_,run_endRound (some (.goto t)) hl3.l,.inr ⟨rfl,⟨.goto t,(hIx _).putObj _ hi3 (zu _) hl3.l rfl,hl3.put (iW fn a.tmps ps assign body w.heap.size .done (some (.goto t)))⟩,by rw [hz];exact (lC (lC hk2.2 (jK hk3 (by omega))) (lB.put (S:=S) _ _ _ _ hl3.l rfl (zs _)).2)⟩⟩
  | panic ch=>exact hp.elim
  | outgrown=>exact hp.elim
 case behind=>
  rintro e W2 ⟨⟨v,rfl⟩,(⟨hi,hl⟩ | ⟨k,c,hi,hl⟩)⟩
  ·exact ⟨none,_,run_endLoop hl.l (by simp [iW]),hdone _ (hI.putObj _ hi (zu _) hl.l rfl) ((zx (by omega)).trans hl.k)⟩
  ·exact ⟨some c,_,run_endLoop hl.l (by simp [iW]),hstop c k _ ((hIx c).putObj _ hi (zu _) hl.l rfl) ((zx (by omega)).trans hl.k)⟩
theorem aGs{α:Type}{F:Fence}{n:Nat}{P:Program}{g:Operand}{ps:Array Tmp}{assign body:Code}{Q:Exit->Act->World->Prop}{a:Act}{w:World}
  (hro:F.round=none) (h1:1<=n) {gf:Nat} {lb:Array Value} (hg:a.eval g=.func (.func gf) #[] lb) (hFg:F.fn gf) (eg:∀args w,(callFunc gf args).run P w=.ok (.enter gf args) w)
  {Enc:α->Array Value->World->Prop} {S:List TypeId} {L:List α}
  (hseq:∀o o',tD F (n-1) P gf lb Enc S L ((w.alloc o).alloc o'))
  (hps:∀x args W,Enc x args W->args.size=ps.size)
  (I:Nat->World->Prop) (Ix:Code->Nat->World->Prop) (hI:OwnFrom w.heap.size I) (hIx:∀c,OwnFrom w.heap.size (Ix c)) (h0:I 0 w)
  (A:α->Act)
  (hassign:∀(l:Nat) (x:α) (args:Array Value) (W:World) (K:Act->World->Prop),Enc x args W->K (A x) W->
   assign.wpIn (F.inRound l) (n-1-1) P (Exit.then K (λ_ _ _=>False)) {tmps:=(ps.zip args).foldl (λt (p,v)=>t.setIfInBounds p v) a.tmps,defers:=[]} W)
  (hbody:∀(l k:Nat) (x:α) (W:World),w.heap.size<=l->L[k]?=some x->I k W->
   body.wpIn (F.inRound l) (n-1-1) P (zA w.heap.size S I Ix k W) (A x) W)
  (hdone:∀(W:World),I L.length W->W.heap[w.heap.size]?=some (.deferred (some []))->Q .normal {a with defers:={target:=.collected w.heap.size,args:=#[]} :: a.defers} W)
  (hstop:∀(c:Code) (k:Nat) (W:World),Ix c k W->W.heap[w.heap.size]?=some (.deferred (some []))->c.wpIn F n P Q {a with defers:={target:=.collected w.heap.size,args:=#[]} :: a.defers} W) :
  (Code.rangeFunc g ps assign body).wpIn F n P Q a w:=
 zB hro h1 hg hFg eg hseq hps I Ix hI hIx h0 (λx a' _=>a'=A x) (λ_ _ _ _ _ _ h _ _=>h)
  (λl k x args W K _ hi he hK=>hassign l x args W K he (hK _ _ (KeepsFrom.refl _ _) (dC.refl _ _) hi rfl))
  (λl k x a' W hl hx hi ha=>by subst ha;exact hbody l k x W hl hx hi) hdone hstop
end
section
open Go.RowKit
structure Mv(S:List TypeId)(B:Nat)(W W':World):Prop where
 os:W'.os=W.os
 tape:W'.tape=W.tape
 output:W'.output=W.output
 size:W.heap.size<=W'.heap.size
 keep:∀k o,W.heap[k]?=some o->(k<B\/∀cs T,o=.cells cs T (0,0)->T∉S)->W'.heap[k]?=some o
theorem Mv.refl(S:List TypeId)(B:Nat)(W:World):Mv S B W W:=⟨rfl,rfl,rfl,zy _,λ_ _ h _=>h⟩
theorem Mv.trans{S:List TypeId}{B:Nat}{U V W:World}(h:Mv S B U V)(k:Mv S B V W):Mv S B U W:=
 ⟨k.os.trans h.os,k.tape.trans h.tape,k.output.trans h.output,zt h.size k.size,λi o hi ho=>k.keep i o (h.keep i o hi ho) ho⟩
theorem Mv.mono{S S':List TypeId}{B B':Nat}{U V:World}(h:Mv S B U V)(hS:∀t∈S,t∈S')(hB:B'<=B):Mv S' B' U V:=
 ⟨h.os,h.tape,h.output,h.size,λi o hi ho=>h.keep i o hi (by
  rcases ho with ho | ho
  ·exact Or.inl (by omega)
  ·exact Or.inr (λcs T e hm=>ho cs T e (hS _ hm)))⟩
theorem Mv.of_below{S:List TypeId}{B:Nat}{U V:World}(h:Below U.heap.size U V):Mv S B U V:=
 ⟨h.os,h.tape,h.output,h.size,λi _ hi _=>(h.block i (zz.1 hi).1).trans hi⟩
theorem Mv.of_grown{S:List TypeId}{B:Nat}{U V:World}{row:Option Nat}(h:U.grownBy V row)(hr:∀k,row=some k->B<=k/\∃cs T,U.heap[k]?=some (.cells cs T (0,0))/\T∈S):Mv S B U V:=
 ⟨h.os,h.tape,h.output,h.size,λi o hi ho=>(h.block i (zz.1 hi).1 (by
  intro e;obtain ⟨h1,cs,T,h2,h3⟩:=hr i e.symm;rw [h2] at hi;cases hi;rcases ho with ho | ho
  ·omega
  ·exact ho cs T rfl h3)).trans hi⟩
theorem Mv.cells{S:List TypeId}{B:Nat}{U V:World}(h:Mv S B U V){k:Nat}{cs:Array Value}{T:TypeId}(hk:U.heap[k]?=some (.cells cs T (0,0)))(hT:T∉S):V.heap[k]?=some (.cells cs T (0,0)):=
 h.keep k _ hk (Or.inr (λcs' T' e=>by cases e;exact hT))
theorem Mv.below{S:List TypeId}{B:Nat}{U V:World}(h:Mv S B U V)(hB:B<=U.heap.size):Below B U V:=
 ⟨h.os,h.tape,h.output,h.size,λk hk=>by
  obtain ⟨o,ho⟩ : ∃o,U.heap[k]?=some o:=⟨_,zm (by omega)⟩;rw [h.keep k o ho (Or.inl hk),ho]⟩
theorem Mv.keepsFrom{S:List TypeId}{B B':Nat}{U V:World}(h:Mv S B U V):KeepsFrom B' U V:=
 ⟨h.size,λk o _ hk ho=>h.keep k o hk (Or.inr (λcs T e=>by subst e;cases ho))⟩
theorem Mv.row{S:List TypeId}{B B':Nat}{U V:World}(h:Mv S B U V){e:TypeId}{z:Nat}{v:Value}{n:Nat}{xs:List Value}(hr:U.ownsRow B' e z v n xs)(he:e∉S):V.ownsRow B' e z v n xs:=by
 obtain ⟨h1,⟨rfl,h2⟩ | ⟨g,cap,cur,rfl,hb,hh,hx⟩⟩:=hr
 ·exact ⟨h1,Or.inl ⟨rfl,h2⟩⟩
 ·exact ⟨h1,Or.inr ⟨g,cap,cur,rfl,hb,h.cells hh he,hx⟩⟩
theorem Mv.clause{S:List TypeId}{B B':Nat}{U V:World}(h:Mv S B U V){v:Value}{c:List Lt}(hc:bM B' U v c)(h1:39∉S)(h2:36∉S):bM B' V v c:=by obtain ⟨Q,q1,q2,q3,q4⟩:=hc;exact ⟨Q,q1,h.row q2 h1,λq hq=>h.row (q3 q hq) h2,q4⟩
theorem Mv.boxed{S:List TypeId}{B:Nat}{U V:World}(h:Mv S B U V){k:Nat}{T:TypeId}{v:Value}(hb:Boxed U k T v)(hT:T∉S):Boxed V k T v:=h.cells hb hT
theorem Mv.kps{S:List TypeId}{B:Nat}{U V:World}(h:Mv S B U V):dC S U V:=⟨h.size,λ_ _ _ hk ht=>h.cells hk ht⟩
theorem dC.row{S:List TypeId}{B':Nat}{U V:World}(h:dC S U V){e:TypeId}{z:Nat}{v:Value}{n:Nat}{xs:List Value}(hr:U.ownsRow B' e z v n xs)(he:e∉S):V.ownsRow B' e z v n xs:=by
 obtain ⟨h1,⟨rfl,h2⟩ | ⟨g,cap,cur,rfl,hb,hh,hx⟩⟩:=hr
 ·exact ⟨h1,Or.inl ⟨rfl,h2⟩⟩
 ·exact ⟨h1,Or.inr ⟨g,cap,cur,rfl,hb,h.kc _ _ _ hh he,hx⟩⟩
theorem dC.clause{S:List TypeId}{B':Nat}{U V:World}(h:dC S U V){v:Value}{c:List Lt}(hc:bM B' U v c)(h1:39∉S)(h2:36∉S):bM B' V v c:=by obtain ⟨Q,q1,q2,q3,q4⟩:=hc;exact ⟨Q,q1,h.row q2 h1,λq hq=>h.row (q3 q hq) h2,q4⟩
theorem dC.boxed{S:List TypeId}{U V:World}(h:dC S U V){k:Nat}{T:TypeId}{v:Value}(hb:Boxed U k T v)(hT:T∉S):Boxed V k T v:=h.kc _ _ _ hb hT
structure jE(c:List Lt):Prop where
 len:c.length<=8
 term:∀x∈c,aW x.2 1=true/\x.2.length<=60
theorem aGt{n:Nd}(h:dU n=true):n.1.size<=80:=by
 unfold dU at h;split at h
 ·rename_i h';have:n.1.size=0:=by
   simp [aF] at h';have:=congrArg List.length h';rw [ByteArray.toList_eq] at this;simpa using this
  omega
 ·simp at h;exact (aIc _ h.1).2
theorem aBy:∀(l:List Nd) (q:Nat),aW l q=true->∀n∈l,dU n=true
 | [],_,_,n,hn=>by simp at hn
 | x :: r,q,h,n,hn=>by
  unfold aW at h;split at h
  ·cases h
  ·split at h
   ·rename_i hx;rcases List.mem_cons.1 hn with rfl | hn
    ·exact hx
    ·exact aBy r _ h n hn
   ·cases h
theorem jE.nodes{c:List Lt}(h:jE c){x:Lt}(hx:x∈c):x.2.length<=60/\0<x.2.length/\∀k (h:k<x.2.length),x.2[k].1.size<=80:=by
 obtain ⟨h1,h2⟩:=h.term x hx;refine ⟨h2,?_,λk hk=>aGt (aBy _ _ h1 _ (zw hk))⟩;cases hl:x.2 with
 | nil=>rw [hl] at h1;simp [aW] at h1
 | cons=>simp
theorem oY{c:List Lt}(h:dB c=true):jE c:=by simp only [dB,Bool.and_eq_true,dL,decide_eq_true_eq,List.all_eq_true] at h;exact ⟨h.1.1.1,λx hx=>aP4 (h.1.2 x hx)⟩
theorem bM.lits{B:Nat}{w:World}{v:Value}{c:List Lt}(h:bM B w v c)(hn:jE c):∃a cap,v=.slice a c.length cap/\c.length<=cap/\bD w a c/\aP3 w a c:=by
 obtain ⟨Q,q1,q2,q3,q4⟩:=h;subst q1;obtain ⟨a,cap,rfl⟩:=aS q2;refine ⟨a,cap,by simp,?_,tC (P:=Q) (by simpa using q2) rfl (λq hq=>?_) (by have:=hn.len;omega),?_⟩
 ·obtain ⟨_,⟨e,e'⟩ | ⟨g,cap',cur,e,_,_,hc,_⟩⟩:=q2
  ·simp [e']
  ·simp at e;obtain ⟨_,rfl⟩:=e;simpa using hc
 ·obtain ⟨h1,h2,h3⟩:=hn.nodes (x:=q.1) (by simp;exact ⟨_,hq⟩);obtain ⟨aa,cp,e,hx⟩:=rH (q3 q hq) (by omega) (λk hk=>by have:=h3 k hk;omega);exact ⟨aa,cp,e,hx⟩
 ·intro k hk b o aa n cp ea hcell;have hk':k<Q.length:=by simpa using hk
  obtain ⟨a',cap',e,hc⟩:=qH q2;simp at e;obtain ⟨rfl,rfl⟩:=e;obtain ⟨g,e1,_,e3⟩:=hc k hk';rw [ea] at e1;simp at e1;obtain ⟨rfl,rfl⟩:=e1;rw [Nat.zero_add] at hcell;rw [hcell] at e3;obtain ⟨_,⟨e,_⟩ | ⟨g',cap',cur,e,_,_,hcc,_⟩⟩:=q3 Q[k] (zw _)
  ·rw [e] at e3;cases e3;omega
  ·rw [e] at e3;cases e3;exact hcc
def dF(B:Nat)(w:World)(v:Value)(ks:List Nat):Prop:=w.ownsRow B 3 1 v ks.length (ks.map λk=>Value.int .i64 (k:Nat))
theorem dF.cell{B:Nat}{w:World}{a:Option Addr}{n cap:Nat}{ks:List Nat}(h:dF B w (.slice a n cap) ks){i:Nat}(hi:i<ks.length):∃g,a=some ⟨g,0,none⟩/\w.cell? ⟨g,i,none⟩=some (.int .i64 (ks[i]:Nat)):=by
 have h':w.ownsRow B 3 1 (.slice a n cap) ks.length (ks.map λk=>Value.int .i64 (k:Nat)):=h;obtain ⟨_,⟨_,e⟩ | ⟨g,cap',cur,e,_⟩⟩:=h
 ·omega
 ·simp at e;refine ⟨g,e.1,?_⟩;obtain ⟨rfl,rfl,rfl⟩:=e;rw [h'.cellAt i (by simpa using hi)];simp [hi]
theorem dF.shape{B:Nat}{w:World}{v:Value}{ks:List Nat}(h:dF B w v ks):∃a cap,v=.slice a ks.length cap:=aS h
def mW(p:Nat->Bool)(ks:List Nat):Int:=if ks.findIdx p<ks.length then (ks.findIdx p:Nat) else -1
theorem aGu{p:Nat->Bool}{ks:List Nat}{k:Nat}(hk:k<ks.length)(h:p ks[k]=true)(ho:∀j (hj:j<k),p (ks[j]'(by omega))=false):mW p ks=(k:Nat):=by have e:ks.findIdx p=k:=(List.findIdx_eq hk).2 ⟨h,λj hj=>by simpa using ho j hj⟩;unfold mW;rw [e,if_pos hk]
theorem aBz{p:Nat->Bool}{ks:List Nat}(ho:∀j (hj:j<ks.length),p ks[j]=false):mW p ks=-1:=by
 have e:ks.findIdx p=ks.length:=List.findIdx_eq_length.2 (λx hx=>by
  obtain ⟨j,hj,rfl⟩:=zh hx;exact ho j hj)
 unfold mW;rw [e,if_neg (by omega)]
theorem aQv{p:Nat->Bool}{ks:List Nat}:decide (0<=mW p ks)=ks.any p:=by
 unfold mW;split
 ·rename_i h;rw [show decide (0<=((ks.findIdx p:Nat):Int))=true by simp];rw [zr] at h;exact (zp.2 h).symm
 ·rename_i h;rw [zr] at h;have:ks.any p=false:=by
   rw [Bool.eq_false_iff];exact λhh=>h (zp.1 hh)
  rw [this];rfl
def aGv(w:World)(b1 b2:Nat)(p:Nat->Bool)(ks:List Nat):Prop:=∀k∈ks,∀wx,Below w.heap.size w wx->Calls zv 121 #[.int .i64 (k:Nat),.pointer (some ⟨b1,0,none⟩),.pointer (some ⟨b2,0,none⟩)] wx λe w'=>e=.returned (.bool (p k))/\Below wx.heap.size wx w'
theorem aQw(B b1 b2:Nat)(p:Nat->Bool)(a:Option Addr)(cap:Nat)(ks:List Nat)(w:World)(h:dF B w (.slice a ks.length cap) ks)(hl:ks.length<=1000000)(hs:aGv w b1 b2 p ks) :
  Calls zv 125 #[.slice a ks.length cap,.func (.func 121) #[] #[.pointer (some ⟨b1,0,none⟩),.pointer (some ⟨b2,0,none⟩)]] w λe w'=>e=.returned (.int .i64 (mW p ks))/\Below w.heap.size w w':=by
 have HS:=aA hs;have HH:=aA h;clear hs h;go_enter Tryz.func125,Tryz.ntmps125;go_wp2;go_loopw [8] (λi wr=>∃k:Nat,k<=ks.length/\i=.int .i64 k/\(∀j (hj:j<ks.length),j<k->p ks[j]=false)/\Below w.heap.size w wr) (λi _=>ks.length-(intOf i).toNat);case atStart=>exact ⟨0,Nat.zero_le _,rfl,λj _ h=>by omega,Below.refl _ _⟩
 case round=>
  obtain ⟨k,hk,rfl,hm,hb⟩:=hrel;have HM:=aA hm;have HB:=aA hb;clear hm;by_cases hlt:k<ks.length
  ·obtain ⟨g,rfl,hc⟩:=HH.out.cell hlt;have hc2:=Below.at' hb (zy _) hc;have hki:(k:Int)<(ks.length:Int):=by omega
   obtain ⟨x,hx⟩ : ∃x,ks[k]=x:=⟨_,rfl⟩;rw [hx] at hc hc2;have CP:=aA (HS.out x (by rw [<-hx];exact zw hlt) wr hb);have HX:=aA hx;have hbs:=hb.size;clear hc hx hb;cases hp:p x
   ·rw [hp] at CP;have HP:=aA hp;clear hp;go_wp2_with (first
     | (go_at_call 121;refine (aB CP).mono ?_;rintro e w1 ⟨rfl,hb1⟩;have HB1:=aA (HB.out.trans (hb1.mono hbs));clear hb1)
     | go_in)
    go_roundw;case rel=>exact ⟨k+1,by omega,by go_num,λj hj hjk=>by
     rcases (show j<k\/j=k by omega) with h | rfl
     ·exact HM.out j hj h
     ·rw [HX.out];exact HP.out,HB1.out⟩
    case measure=>simp [intOf];omega
   ·rw [hp] at CP;have HP:=aA hp;clear hp;go_wp2_with (first
     | (go_at_call 121;refine (aB CP).mono ?_;rintro e w1 ⟨rfl,hb1⟩;have HB1:=aA (HB.out.trans (hb1.mono hbs));clear hb1)
     | go_in)
    go_ret;have hf:=aGu hlt (by rw [HX.out];exact HP.out) (λj hj=>HM.out j (by omega) hj);exact ⟨by rw [hf];rfl,HB1.out⟩
  ·have hke:k=ks.length:=by omega
   clear hb;go_wp2;go_ret;have hf:=aBz (λj hj=>HM.out j hj (by omega));exact ⟨by rw [hf];rfl,HB.out⟩
theorem aQx(B b1 b2:Nat)(p:Nat->Bool)(a:Option Addr)(cap:Nat)(ks:List Nat)(w:World)(h:dF B w (.slice a ks.length cap) ks)(hl:ks.length<=1000000)(hs:aGv w b1 b2 p ks) :
  Calls zv 120 #[.slice a ks.length cap,.func (.func 121) #[] #[.pointer (some ⟨b1,0,none⟩),.pointer (some ⟨b2,0,none⟩)]] w λe w'=>e=.returned (.bool (ks.any p))/\Below w.heap.size w w':=by
 have CI:=aA (aQw B b1 b2 p a cap ks w h hl hs);have hany:=aQv (p:=p) (ks:=ks);clear h hs;generalize mW p ks=r at *;generalize ks.any p=q at *;have HA:=aA hany;clear hany;go_enter Tryz.func120,Tryz.ntmps120;go_wp2_with (go_at_call 125;refine (aB CI).mono ?_;rintro e w1 ⟨rfl,hb⟩;have HB:=aA hb;clear hb);go_ret;exact ⟨by rw [<-HA.out];rfl,HB.out⟩
def aGw(w:World)(b1 b2:Nat)(p:Nat->Bool)(ks:List Nat):Prop:=∀k∈ks,∀wx,Below w.heap.size w wx->Calls zv 99 #[.int .i64 (k:Nat),.pointer (some ⟨b1,0,none⟩),.pointer (some ⟨b2,0,none⟩)] wx λe w'=>e=.returned (.bool (p k))/\Below wx.heap.size wx w'
theorem aGx(B b1 b2:Nat)(p:Nat->Bool)(a:Option Addr)(cap:Nat)(ks:List Nat)(w:World)(h:dF B w (.slice a ks.length cap) ks)(hl:ks.length<=1000000)(hs:aGw w b1 b2 p ks) :
  Calls zv 125 #[.slice a ks.length cap,.func (.func 99) #[] #[.pointer (some ⟨b1,0,none⟩),.pointer (some ⟨b2,0,none⟩)]] w λe w'=>e=.returned (.int .i64 (mW p ks))/\Below w.heap.size w w':=by
 have HS:=aA hs;have HH:=aA h;clear hs h;go_enter Tryz.func125,Tryz.ntmps125;go_wp2;go_loopw [8] (λi wr=>∃k:Nat,k<=ks.length/\i=.int .i64 k/\(∀j (hj:j<ks.length),j<k->p ks[j]=false)/\Below w.heap.size w wr) (λi _=>ks.length-(intOf i).toNat);case atStart=>exact ⟨0,Nat.zero_le _,rfl,λj _ h=>by omega,Below.refl _ _⟩
 case round=>
  obtain ⟨k,hk,rfl,hm,hb⟩:=hrel;have HM:=aA hm;have HB:=aA hb;clear hm;by_cases hlt:k<ks.length
  ·obtain ⟨g,rfl,hc⟩:=HH.out.cell hlt;have hc2:=Below.at' hb (zy _) hc;have hki:(k:Int)<(ks.length:Int):=by omega
   obtain ⟨x,hx⟩ : ∃x,ks[k]=x:=⟨_,rfl⟩;rw [hx] at hc hc2;have CP:=aA (HS.out x (by rw [<-hx];exact zw hlt) wr hb);have HX:=aA hx;have hbs:=hb.size;clear hc hx hb;cases hp:p x
   ·rw [hp] at CP;have HP:=aA hp;clear hp;go_wp2_with (first
     | (go_at_call 99;refine (aB CP).mono ?_;rintro e w1 ⟨rfl,hb1⟩;have HB1:=aA (HB.out.trans (hb1.mono hbs));clear hb1)
     | go_in)
    go_roundw;case rel=>exact ⟨k+1,by omega,by go_num,λj hj hjk=>by
     rcases (show j<k\/j=k by omega) with h | rfl
     ·exact HM.out j hj h
     ·rw [HX.out];exact HP.out,HB1.out⟩
    case measure=>simp [intOf];omega
   ·rw [hp] at CP;have HP:=aA hp;clear hp;go_wp2_with (first
     | (go_at_call 99;refine (aB CP).mono ?_;rintro e w1 ⟨rfl,hb1⟩;have HB1:=aA (HB.out.trans (hb1.mono hbs));clear hb1)
     | go_in)
    go_ret;have hf:=aGu hlt (by rw [HX.out];exact HP.out) (λj hj=>HM.out j (by omega) hj);exact ⟨by rw [hf];rfl,HB1.out⟩
  ·have hke:k=ks.length:=by omega
   clear hb;go_wp2;go_ret;have hf:=aBz (λj hj=>HM.out j hj (by omega));exact ⟨by rw [hf];rfl,HB.out⟩
structure Cd where
 r:Int
 a:Int
 b:Int
 i:Int
 j:Int
 ad:Option Addr
 ln:Nat
 cp:Nat
 wt:Int
 nm:Int
 c:List Lt
def Cd.cells(x:Cd):List Value:=[.int .i64 x.r,.int .i64 x.a,.int .i64 x.b,.int .i64 x.i,.int .i64 x.j,.slice x.ad x.ln x.cp,.int .i64 x.wt,.int .i64 x.nm]
def Cd.agg(x:Cd):Value:=.agg #[.int .i64 x.r,.int .i64 x.a,.int .i64 x.b,.int .i64 x.i,.int .i64 x.j,.slice x.ad x.ln x.cp,.int .i64 x.wt,.int .i64 x.nm]
def gG(L:List Cd):List Value:=L.flatMap Cd.cells
theorem aQy:(zv.info? 116).map (λi=>(i.zero,i.size,i.bytes))=some (some (.agg #[.int .i64 0,.int .i64 0,.int .i64 0,.int .i64 0,.int .i64 0,.slice none 0 0,.int .i64 0,.int .i64 0]),8,80):=by kernel_rfl
theorem aGy(L:List Cd):(gG L).length=L.length*8:=by
 induction L with
 | nil=>rfl
 | cons x r ih=>simp [gG,Cd.cells] at ih ⊢;omega
theorem uS(x:Cd)(L:List Cd):gG (x :: L)=x.cells++gG L:=rfl
theorem aQz(L M:List Cd):gG (L++M)=gG L++gG M:=by simp [gG]
theorem zC(x:Cd):x.cells.length=8:=rfl
theorem qD:∀(L:List Cd) (k:Nat) (h:k<L.length) (t:Nat),t<8->(gG L)[k*8+t]?=(L[k]).cells[t]?
 | [],k,h,_,_=>by simp at h
 | x :: L,0,_,t,ht=>by rw [uS,List.getElem?_append_left (by rw [zC];omega)];simp
 | x :: L,k+1,h,t,ht=>by
  have:=qD L k (by simpa using h) t ht;rw [uS,List.getElem?_append_right (by rw [zC];omega),zC,show (k+1)*8+t-8=k*8+t by omega,this];simp
def zD(X:List Value)(o:Nat)(x:Cd):List Value:=(((((((X.set o (.int .i64 x.r)).set (o+1) (.int .i64 x.a)).set (o+2) (.int .i64 x.b)).set (o+3) (.int .i64 x.i)).set (o+4) (.int .i64 x.j)).set (o+5) (.slice x.ad x.ln x.cp)).set (o+6) (.int .i64 x.wt)).set (o+7) (.int .i64 x.nm)
theorem aGz:∀(L:List Cd) (k:Nat) (x:Cd),k<L.length->zD (gG L) (k*8) x=gG (L.set k x)
 | [],k,_,h=>by simp at h
 | y :: L,0,x,_=>by simp [zD,gG,Cd.cells]
 | y :: L,k+1,x,h=>by
  have:=aGz L k x (by simpa using h);rw [List.set_cons_succ,uS,uS,<-this];have e0:(k+1)*8=k*8+8:=by omega
  simp only [zD,e0];simp [Cd.cells]
theorem qF{w:World}{B g:Nat}{e:TypeId}{z n cap:Nat}{xs:List Value}(h:w.ownsRow B e z (.slice (some ⟨g,0,none⟩) n cap) n xs)(k:Nat)(u:Value):(w.setCell ⟨g,k,none⟩ u).ownsRow B e z (.slice (some ⟨g,0,none⟩) n cap) n (xs.set k u):=by
 obtain ⟨h1,⟨e1,_⟩ | ⟨g',cap',cur,e1,hb,hh,hc,hm,hz,ht⟩⟩:=h
 ·cases e1
 ·simp at e1;obtain ⟨rfl,rfl⟩:=e1;refine ⟨by simpa using h1,Or.inr ⟨g,cap,cur.setIfInBounds k u,rfl,hb,?_,hc,hm,by simpa using hz,?_⟩⟩
  ·have hlt:=(zz.1 hh).1;show (w.heap.modify g _)[g]?=_;rw [zm (by rw [Array.size_modify];exact hlt),Array.getElem_modify_self];rw [(zz.1 hh).2];rfl
  ·rw [<-ht];simp [List.take_set]
structure bX(B:Nat)(w:World)(hp:Nat)(v:Value)(L:List Cd):Prop where
 box:w.heap[hp]?=some (.cells #[v,.func (.func 62) #[] #[]] 147 (0,0))
 row:w.ownsRow B 116 8 v L.length (gG L)
 base:B<=hp
theorem bX.c0{B:Nat}{w:World}{hp:Nat}{v:Value}{L:List Cd}(h:bX B w hp v L):w.cell? ⟨hp,0,none⟩=some v/\w.cell? ⟨hp,1,none⟩=some (.func (.func 62) #[] #[]):=⟨by simp [World.cell?,h.box],by simp [World.cell?,h.box]⟩
theorem bX.cells{B:Nat}{w:World}{hp:Nat}{v:Value}{L:List Cd}(h:bX B w hp v L){k:Nat}(hk:k<L.length) :
  ∃g cap,v=.slice (some ⟨g,0,none⟩) L.length cap/\w.cell? ⟨g,k*8,none⟩=some (.int .i64 L[k].r)/\w.cell? ⟨g,k*8+1,none⟩=some (.int .i64 L[k].a)/\w.cell? ⟨g,k*8+2,none⟩=some (.int .i64 L[k].b)/\w.cell? ⟨g,k*8+3,none⟩=some (.int .i64 L[k].i)/\
   w.cell? ⟨g,k*8+4,none⟩=some (.int .i64 L[k].j)/\w.cell? ⟨g,k*8+5,none⟩=some (.slice L[k].ad L[k].ln L[k].cp)/\w.cell? ⟨g,k*8+6,none⟩=some (.int .i64 L[k].wt)/\w.cell? ⟨g,k*8+7,none⟩=some (.int .i64 L[k].nm):=by
 obtain ⟨h1,⟨_,e⟩ | ⟨g,cap,cur,rfl,hb,hh,hr⟩⟩:=h.row
 ·omega
 ·have ho:=h.row;have hl:=aGy L;refine ⟨g,cap,rfl,?_,?_,?_,?_,?_,?_,?_,?_⟩
  ·rw [ho.cellAt (k*8) (by omega)];exact qD L k hk 0 (by omega)
  ·rw [ho.cellAt (k*8+1) (by omega)];exact qD L k hk 1 (by omega)
  ·rw [ho.cellAt (k*8+2) (by omega)];exact qD L k hk 2 (by omega)
  ·rw [ho.cellAt (k*8+3) (by omega)];exact qD L k hk 3 (by omega)
  ·rw [ho.cellAt (k*8+4) (by omega)];exact qD L k hk 4 (by omega)
  ·rw [ho.cellAt (k*8+5) (by omega)];exact qD L k hk 5 (by omega)
  ·rw [ho.cellAt (k*8+6) (by omega)];exact qD L k hk 6 (by omega)
  ·rw [ho.cellAt (k*8+7) (by omega)];exact qD L k hk 7 (by omega)
def fZ(w:World)(g o:Nat)(x:Cd):World:=(((((((w.setCell ⟨g,o,none⟩ (.int .i64 x.r)).setCell ⟨g,o+1,none⟩ (.int .i64 x.a)).setCell ⟨g,o+2,none⟩ (.int .i64 x.b)).setCell ⟨g,o+3,none⟩ (.int .i64 x.i)).setCell ⟨g,o+4,none⟩ (.int .i64 x.j)).setCell ⟨g,o+5,none⟩ (.slice x.ad x.ln x.cp)).setCell ⟨g,o+6,none⟩ (.int .i64 x.wt)).setCell ⟨g,o+7,none⟩ (.int .i64 x.nm)
theorem aR0{w:World}{B g n cap k:Nat}{e:TypeId}{L:List Cd}{x:Cd}(h:w.ownsRow B e 8 (.slice (some ⟨g,0,none⟩) n cap) n (gG L))(hk:k<L.length):(fZ w g (k*8) x).ownsRow B e 8 (.slice (some ⟨g,0,none⟩) n cap) n (gG (L.set k x)):=by rw [<-aGz L k x hk];unfold fZ zD;exact qF (qF (qF (qF (qF (qF (qF (qF h _ _) _ _) _ _) _ _) _ _) _ _) _ _) _ _
theorem aH0(w:World)(g o:Nat)(x:Cd):w.grownBy (fZ w g o x) (some g):=by
 unfold fZ;have h:∀(u:World) (k:Nat) (v:Value),w.grownBy u (some g)->w.grownBy (u.setCell ⟨g,k,none⟩ v) (some g):=λu k v hu=>by
  have h2:=bQ u ⟨g,k,none⟩ v;exact ⟨h2.os.trans hu.os,h2.tape.trans hu.tape,h2.output.trans hu.output,zt hu.size h2.size,λj hj hne=>(h2.block j (ze hj hu.size) hne).trans (hu.block j hj hne)⟩
 refine h _ _ _ (h _ _ _ (h _ _ _ (h _ _ _ (h _ _ _ (h _ _ _ (h _ _ _ (h _ _ _ ?_)))))));exact ⟨rfl,rfl,rfl,zy _,λ_ _ _=>rfl⟩
theorem aR1(w:World)(g o q:Nat)(x:Cd)(h:q<o\/o+8<=q):(fZ w g o x).cell? ⟨g,q,none⟩=w.cell? ⟨g,q,none⟩:=by unfold fZ;iterate 8 rw [World.cell?_setCell_other _ _ _ _ (by intro h;simp only [Addr.mk.injEq] at h;omega)]
theorem bX.frozen{B:Nat}{w:World}{hp g n cap:Nat}{L:List Cd}(h:bX B w hp (.slice (some ⟨g,0,none⟩) n cap) L)(q:Nat):w.frozen? ⟨g,q,none⟩=false:=by
 obtain ⟨_,⟨e,_⟩ | ⟨g',cap',cur,e,hb,hh,_⟩⟩:=h.row
 ·cases e
 ·simp at e;obtain ⟨rfl,_⟩:=e;simp [zf,hh]
def jF(x y:Cd):Bool:=if x.wt=y.wt then decide (x.nm<y.nm) else decide (x.wt<y.wt)
theorem aH1(x y:Cd)(w:World):Calls zv 62 #[x.agg,y.agg] w λe w'=>e=.returned (.bool (jF x y))/\Below w.heap.size w w':=by
 unfold Cd.agg;go_enter Tryz.func62,Tryz.ntmps62;go_wp2
 ·have hne:x.wt≠y.wt:=by simpa using ‹(x.wt != y.wt)=true›
  go_ret;exact ⟨by simp [jF,hne],((Below.refl _ w).alloc (zy _) _).alloc (by simp) _⟩
 ·have heq:x.wt=y.wt:=by simpa using ‹(x.wt != y.wt)=false›
  go_ret;exact ⟨by simp [jF,heq],((Below.refl _ w).alloc (zy _) _).alloc (by simp) _⟩
theorem bX.below{B:Nat}{w w':World}{hp:Nat}{v:Value}{L:List Cd}(h:bX B w hp v L)(hb:Below w.heap.size w w'):bX B w' hp v L:=
 ⟨(hb.block _ (zz.1 h.box).1).trans h.box,aU h.row hb (zy _),h.base⟩
theorem bX.put{B:Nat}{w:World}{hp g n cap k:Nat}{L:List Cd}{x:Cd}(h:bX B w hp (.slice (some ⟨g,0,none⟩) n cap) L)(hn:n=L.length)(hk:k<L.length):bX B (fZ w g (k*8) x) hp (.slice (some ⟨g,0,none⟩) n cap) (L.set k x)/\w.grownBy (fZ w g (k*8) x) (some g):=by
 subst hn;obtain ⟨_,⟨e,_⟩ | ⟨g',cap',cur,e,_,hh,_⟩⟩:=h.row
 ·cases e
 ·simp at e;obtain ⟨rfl,rfl⟩:=e;have hgr:=aH0 w g (k*8) x;refine ⟨⟨?_,?_,h.base⟩,hgr⟩
  ·rw [hgr.block hp (zz.1 h.box).1 (by
    intro e;cases e;rw [h.box] at hh;cases hh)]
   exact h.box
  ·have:=aR0 (x:=x) h.row hk;simpa using this
theorem jW{a b c:World}{r:Option Nat}(h:a.grownBy b r)(k:b.grownBy c r):a.grownBy c r:=
 ⟨k.os.trans h.os,k.tape.trans h.tape,k.output.trans h.output,zt h.size k.size,λj hj hne=>(k.block j (ze hj h.size) hne).trans (h.block j hj hne)⟩
theorem bX.mv{B:Nat}{w w':World}{hp:Nat}{v:Value}{L:List Cd}(h:bX B w hp v L)(hg:w.grownBy w' v.ownBlock):Mv [116] B w w':=by
 refine Mv.of_grown hg (λk hk=>?_);obtain ⟨_,⟨rfl,_⟩ | ⟨g,cap,cur,rfl,hb,hh,_⟩⟩:=h.row
 ·cases hk
 ·cases hk;exact ⟨hb,cur,_,hh,by simp⟩
def mX(L:List Cd)(a b:Nat)(ha:a<L.length)(hb:b<L.length):List Cd:=(L.set a L[b]).set b L[a]
theorem wN{L:List Cd}{a b:Nat}(ha:a<L.length)(hb:b<L.length):(mX L a b ha hb).length=L.length:=by simp [mX]
theorem aH2(B hp:Nat)(v:Value)(L:List Cd)(a b:Nat)(w:World)(h:bX B w hp v L)(ha:a<L.length)(hb:b<L.length)(hne:a≠b) :
  Calls zv 134 #[.pointer (some ⟨hp,0,none⟩),.int .i64 a,.int .i64 b] w λe w'=>(∃u,e=.returned u)/\bX B w' hp v (mX L a b ha hb)/\w.grownBy w' v.ownBlock:=by
 obtain ⟨g,cap,rfl,x0,x1,x2,x3,x4,x5,x6,x7⟩:=h.cells ha;obtain ⟨g',cap',e,y0,y1,y2,y3,y4,y5,y6,y7⟩:=h.cells hb;cases e;have c0:=h.c0.1;have hf:=h.frozen;have hai:(a:Int)<(L.length:Int):=by omega
 have hbi:(b:Int)<(L.length:Int):=by omega
 have z:=λt (ht:t<8)=>aR1 w g (a*8) (b*8+t) L[b] (by omega)
 have z0:=(z 0 (by omega)).trans y0;have z1:=(z 1 (by omega)).trans y1;have z2:=(z 2 (by omega)).trans y2;have z3:=(z 3 (by omega)).trans y3;have z4:=(z 4 (by omega)).trans y4;have z5:=(z 5 (by omega)).trans y5;have z6:=(z 6 (by omega)).trans y6;have z7:=(z 7 (by omega)).trans y7;clear z;unfold fZ at z0 z1 z2 z3 z4 z5 z6 z7;simp only [Nat.add_zero] at z0;have HH:=aA h;clear h;go_enter Tryz.func134,Tryz.ntmps134;have hmix:zv.follows .mixedOrders=true:=by kernel_rfl
 go_region;go_end0;have h1:=HH.out.put (x:=L[b]) rfl ha;have h2:=h1.1.put (k:=b) (x:=L[a]) (by simp) (by simpa using hb);refine ⟨⟨_,rfl⟩,?_,?_⟩
 ·exact h2.1.below (aJ ⟨1,rfl⟩)
 ·exact jW (jW h1.2 h2.2) (fM (aJ ⟨1,rfl⟩))
theorem dF.set{B:Nat}{w:World}{g n cap:Nat}{ks:List Nat}(h:dF B w (.slice (some ⟨g,0,none⟩) n cap) ks)(hn:n=ks.length)(i x:Nat):dF B (w.setCell ⟨g,i,none⟩ (.int .i64 (x:Nat))) (.slice (some ⟨g,0,none⟩) n cap) (ks.set i x)/\w.grownBy (w.setCell ⟨g,i,none⟩ (.int .i64 (x:Nat))) (some g):=by subst hn;have:=qF (w:=w) h i (.int .i64 (x:Nat));refine ⟨?_,bQ w ⟨g,i,none⟩ _⟩;unfold dF;rw [zo,List.map_set];exact this
theorem dF.take{B:Nat}{w:World}{g n cap:Nat}{ks:List Nat}(h:dF B w (.slice (some ⟨g,0,none⟩) n cap) ks){m:Nat}(hm:m<=ks.length):dF B w (.slice (some ⟨g,0,none⟩) m cap) (ks.take m):=by
 obtain ⟨h1,⟨e,_⟩ | ⟨g',cap',cur,e,hb,hh,hc,hml,hz,ht⟩⟩:=h
 ·cases e
 ·simp at e;obtain ⟨rfl,_,rfl⟩:=e;have hl:(ks.take m).length=m:=by simp;omega
  unfold dF;rw [hl];refine ⟨by simp;omega,Or.inr ⟨g,cap,cur,rfl,hb,hh,by omega,hml,hz,?_⟩⟩;rw [List.map_take,<-ht,zj];congr 1
  omega
theorem dF.cleared{B:Nat}{g n cap:Nat}:∀(m o:Nat) (w:World) (ks:List Nat),dF B w (.slice (some ⟨g,0,none⟩) n cap) ks->n=ks.length->
  ∃ks',dF B (w.setCells g o (zn m (.int .i64 0))) (.slice (some ⟨g,0,none⟩) n cap) ks'/\ks'.length=ks.length/\ks'.take o=ks.take o/\w.grownBy (w.setCells g o (zn m (.int .i64 0))) (some g)
 | 0,o,w,ks,h,_=>⟨ks,h,rfl,rfl,⟨rfl,rfl,rfl,zy _,λ_ _ _=>rfl⟩⟩
 | m+1,o,w,ks,h,hn=>by
  obtain ⟨h1,h2⟩:=h.set hn o 0;obtain ⟨ks',k1,k2,k3,k4⟩:=dF.cleared m (o+1) _ _ h1 (by rw [zo];exact hn);refine ⟨ks',k1,by rw [k2,zo],?_,jW h2 k4⟩;have:=congrArg (List.take o) k3;rw [zj,zj,Nat.min_eq_left (zu o),zg (zy _)] at this;exact this
def aR2(w:World)(g b1 b2:Nat)(p:Nat->Bool)(ks:List Nat):Prop:=∀k∈ks,∀wx,w.grownBy wx (some g)->Calls zv 99 #[.int .i64 (k:Nat),.pointer (some ⟨b1,0,none⟩),.pointer (some ⟨b2,0,none⟩)] wx λe w'=>e=.returned (.bool (p k))/\Below wx.heap.size wx w'
theorem aH3{p:Nat->Bool}{ks:List Nat}{j:Nat}(hj:j<ks.length):(ks.take (j+1)).filter (λk=>!p k)=(ks.take j).filter (λk=>!p k)++if p ks[j] then [] else [ks[j]]:=by rw [zq hj,List.filter_append];cases h:p ks[j] <;> simp [h]
theorem aR3(B b1 b2:Nat)(p:Nat->Bool)(a:Option Addr)(cap:Nat)(ks:List Nat)(w:World)(h:dF B w (.slice a ks.length cap) ks)(hl:ks.length<=1000000)(hs:aGw w b1 b2 p ks)(hno:ks.any p=false) :
  Calls zv 98 #[.slice a ks.length cap,.func (.func 99) #[] #[.pointer (some ⟨b1,0,none⟩),.pointer (some ⟨b2,0,none⟩)]] w λe w'=>e=.returned (.slice a ks.length cap)/\Below w.heap.size w w':=by
 have CI:=aA (aGx B b1 b2 p a cap ks w h hl hs);have hf:mW p ks=-1:=aBz (λj hj=>by
  rw [Bool.eq_false_iff];intro hp;rw [zp.2 ⟨_,zw hj,hp⟩] at hno;cases hno)
 rw [hf] at CI;clear h hs hno hf;go_enter Tryz.func98,Tryz.ntmps98;go_wp2_with (first
  | (go_at_call 125;refine (aB CI).mono ?_;rintro e w1 ⟨rfl,hb⟩;have HB:=aA hb;clear hb)
  | go_in)
 go_ret;exact ⟨rfl,HB.out⟩
theorem aR4(B b1 b2:Nat)(p:Nat->Bool)(g cap:Nat)(ks:List Nat)(w:World)(h:dF B w (.slice (some ⟨g,0,none⟩) ks.length cap) ks)(hl:ks.length<=1000000)(hs:aR2 w g b1 b2 p ks)(hyes:ks.any p=true) :
  Calls zv 98 #[.slice (some ⟨g,0,none⟩) ks.length cap,.func (.func 99) #[] #[.pointer (some ⟨b1,0,none⟩),.pointer (some ⟨b2,0,none⟩)]] w λe w'=>e=.returned (.slice (some ⟨g,0,none⟩) (ks.filter λk=>!p k).length cap)/\dF B w' (.slice (some ⟨g,0,none⟩) (ks.filter λk=>!p k).length cap) (ks.filter λk=>!p k)/\w.grownBy w' (some g):=by
 have CI:=aA (aGx B b1 b2 p _ cap ks w h hl (λk hk wx hwx=>hs k hk wx (fM hwx)));have hlt:ks.findIdx p<ks.length:=zr.2 (zp.1 hyes);obtain ⟨m,hm⟩ : ∃m,ks.findIdx p=m:=⟨_,rfl⟩;have hf:mW p ks=(m:Nat):=by unfold mW;rw [if_pos hlt,hm]
 rw [hm] at hlt;have hpm:p ks[m]=true:=by have:=List.findIdx_getElem (xs:=ks) (p:=p) (w:=by omega);simpa [hm] using this
 have hbef:(ks.take m).filter (λk=>!p k)=ks.take m:=by
  rw [List.filter_eq_self];intro x hx;obtain ⟨j,hj,rfl⟩:=zh hx;have hjm:j<m:=by simp at hj;omega
  have:=List.not_of_lt_findIdx (xs:=ks) (p:=p) (i:=j) (by omega);rw [List.getElem_take];simpa using this
 have hst:(ks.take (m+1)).filter (λk=>!p k)=ks.take m:=by rw [aH3 hlt,hbef,if_pos hpm,List.append_nil]
 rw [hf] at CI;have hcap:ks.length<=cap:=by
  obtain ⟨_,⟨e,_⟩ | ⟨g',cap',cur,e,_,_,hc,_⟩⟩:=h
  ·cases e
  ·simp at e;omega
 have HST:=aA hst;have HH:=aA h;have HS:=aA hs;have hneg:((m:Int) == -1)=false:=by rw [beq_eq_false_iff_ne];omega
 clear h hs hyes hf hm hpm hbef hst;go_enter Tryz.func98,Tryz.ntmps98;go_wp2_with (first
  | (go_at_call 125;refine (aB CI).mono ?_;rintro e w1 ⟨rfl,hb⟩;have HB:=aA hb;clear hb)
  | go_in)
 have hmi:(m:Int)<(ks.length:Int):=by omega
 go_loopw [5,6] (λpi pj wr=>∃(i j:Nat) (R:List Nat),pi=.int .i64 i/\pj=.int .i64 j/\j<=ks.length/\i<j/\R.length=ks.length/\dF B wr (.slice (some ⟨g,0,none⟩) ks.length cap) R/\R.take i=(ks.take j).filter (λk=>!p k)/\(∀t,j<=t->R[t]?=ks[t]?)/\w.grownBy wr (some g)) (λ_ pj _=>ks.length-(intOf pj).toNat);case atStart=>exact ⟨m,m+1,ks,rfl,by simp,by omega,by omega,rfl,aU HH.out HB.out (zy _),HST.out.symm,λ_ _=>rfl,fM HB.out⟩
 case round=>
  obtain ⟨i,j,R,rfl,rfl,hj,hij,hR,hO,ht,hrest,hg⟩:=hrel;by_cases hlt2:j<ks.length
  ·obtain ⟨x,hx⟩ : ∃x,ks[j]=x:=⟨_,rfl⟩;have hRj:R[j]'(by omega)=x:=by
    have:=hrest j (zy _);rw [zl (by omega),zl hlt2,hx] at this;exact Option.some.inj this
   obtain ⟨g',e,hc⟩:=hO.cell (i:=j) (by omega);cases e;rw [hRj] at hc;obtain ⟨zi,hci⟩ : ∃zi:Nat,wr.cell? ⟨g,i,none⟩=some (.int .i64 (zi:Nat)):=by obtain ⟨g',e,hci⟩:=hO.cell (i:=i) (by omega);cases e;exact ⟨_,hci⟩
   have CP:=aA (HS.out x (by rw [<-hx];exact zw hlt2) wr hg);have hstep:=aH3 (p:=p) hlt2;rw [hx] at hstep;have hji:(j:Int)<(ks.length:Int):=by omega
   have hii:(i:Int)<(ks.length:Int):=by omega
   have HO:=aA hO;have HT:=aA ht;have HR:=aA hrest;have HG:=aA hg;have HSP:=aA hstep;have HRL:=aA hR;have hfz:∀wx,wr.grownBy wx none->wx.frozen? ⟨g,i,none⟩=false:=λwx hwx=>by
    obtain ⟨_,⟨e,_⟩ | ⟨g',cap',cur,e,_,hh,_⟩⟩:=hO
    ·cases e
    ·simp at e;obtain ⟨rfl,_⟩:=e;have:=hwx.block g (zz.1 hh).1 (by simp);simp [zf,this,hh]
   have HFZ:=aA hfz;clear hO ht hrest hg hstep hRj hx hR hfz;cases hp:p x
   ·rw [hp] at CP;have HP:=aA hp;clear hp;go_wp2_with (first
     | (go_at_call 99;refine (aB CP).mono ?_;rintro e w2 ⟨rfl,hb2⟩;have c2:=Below.at' hb2 (zy _) hci;have f2:=HFZ.out w2 (fM hb2);have HB2:=aA hb2;clear hb2)
     | go_in)
    go_roundw;case rel=>
     have hO2:dF B w2 (.slice (some ⟨g,0,none⟩) ks.length cap) R:=aU HO.out HB2.out (zy _);obtain ⟨hO3,hg3⟩:=hO2.set HRL.out.symm i x;have hRl:=HRL.out;refine ⟨i+1,j+1,R.set i x,by go_num,by go_num,by omega,by omega,by rw [zo];exact hRl,hO3,?_,λt ht=>?_,jW HG.out (jW (fM HB2.out) hg3)⟩
     ·rw [HSP.out,HP.out,<-HT.out,zq (by simp;omega),zg (zy _)];simp
     ·rw [List.getElem?_set_ne (by omega)];exact HR.out t (by omega)
    case measure=>simp [intOf];omega
   ·rw [hp] at CP;have HP:=aA hp;clear hp;go_wp2_with (first
     | (go_at_call 99;refine (aB CP).mono ?_;rintro e w2 ⟨rfl,hb2⟩;have HB2:=aA hb2;clear hb2)
     | go_in)
    go_roundw;case rel=>
     refine ⟨i,j+1,R,rfl,by go_num,by omega,by omega,HRL.out,aU HO.out HB2.out (zy _),?_,λt ht=>HR.out t (by omega),jW HG.out (fM HB2.out)⟩;rw [HSP.out,HP.out,<-HT.out];simp
    case measure=>simp [intOf];omega
  ·have hje:j=ks.length:=by omega
   rw [hje,zc] at ht;have hli:(ks.filter λk=>!p k).length=i:=by rw [<-ht,List.length_take];omega
   have hcl:∀ty,(Builtin.clear_ #[25] ty #[.slice (some ⟨g,i,none⟩) (ks.length-i) (cap-i)]).run zv wr=.ok (.tuple #[]) (wr.setCells g i (zn (ks.length-i) (.int .i64 0))):=λty=>
    Lib.run_clear_slice wr _ 3 ty (.int .i64 0) Tryz.underlying25 (λw=>by obtain ⟨iI,hI,hI0,hI1,hI2⟩:=info_parts oT;simp [zeroValue,typeInfo,hI,hI0]) rfl rfl g i _ _ (by omega) (λt ht=>by
     obtain ⟨g',e,hc⟩:=hO.cell (i:=i+t) (by omega);cases e;rw [hc];rfl) (λt ht=>by
     obtain ⟨_,⟨e,_⟩ | ⟨g',cap',cur,e,_,hh,_⟩⟩:=hO
     ·cases e
     ·simp at e;obtain ⟨rfl,_⟩:=e;simp [zf,hh])
   obtain ⟨R',o1,o2,o3,o4⟩:=dF.cleared (ks.length-i) i wr R hO hR.symm;have hfin:dF B (wr.setCells g i (zn (ks.length-i) (.int .i64 0))) (.slice (some ⟨g,0,none⟩) i cap) (ks.filter λk=>!p k):=by have:=o1.take (m:=i) (by omega);rw [o3,ht] at this;exact this
   have HFI:=aA hfin;have HG:=aA (jW hg o4);have HLI:=aA hli;have hji:¬(j:Int)<(ks.length:Int):=by omega
   have hil:(i:Int)<=(ks.length:Int):=by omega
   have hic:(i:Int)<=(cap:Int):=by omega
   have hkc:(ks.length:Int)<=(cap:Int):=by omega
   clear hO ht hrest hg o1 o2 o3 o4 hfin hR hli;go_wp2;go_ret;rw [HLI.out];exact ⟨rfl,HFI.out,HG.out⟩
end
end Go.Proofs.YtcldkjcpofjmhaaGreatDoor
