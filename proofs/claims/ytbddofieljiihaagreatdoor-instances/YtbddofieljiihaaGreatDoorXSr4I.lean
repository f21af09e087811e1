/- The search: a clause is taken: the walk. The search: what a run comes to, whatever places in memory the clauses get. The search: what waits are clauses. -/
import Derived.Test.YtbddofieljiihaaGreatDoorXSr3I
import Derived.Test.YtbddofieljiihaaGreatDoorXOrdI
import Derived.Deep.Cut
import Derived.Test.YtbddofieljiihaaGreatDoorXSr5I
namespace Go.Proofs.YtbddofieljiihaaGreatDoor
open Go.RowKit Go.Shelf Go.WideMaps
set_option maxRecDepth 100000
set_option linter.unusedSimpArgs false
attribute [local go_sem] Oper.semAt_some
structure rS (c:List Lt):Prop where
 len:c.length≤100
 nodes:∀x∈c,x.2.length≤100000∧∀k (h:k < x.2.length),x.2[k].1.size≤80
theorem bK.wide {B:Nat} {w:World} {ad:Option Addr} {n cp:Nat} {c:List Lt} (h:bK B w (.slice ad n cp) c) (hn:rS c):bP w ad c:=by
 obtain ⟨Q,q1,q2,q3,q4⟩:=h
 have hnn:n=c.length:=by
  obtain ⟨a',cap',e⟩:=aR q2
  simp at e
  rw [e.2.1,←q1]
  simp
 subst hnn
 refine aA9 (P:=Q) q2 q1 (fun q hq=>?_) (by have:=hn.len;omega)
 obtain ⟨h1,h2⟩:=hn.nodes q.1 (by rw [←q1];simp;exact ⟨_,hq⟩)
 obtain ⟨aa,cpp,e,hx⟩:=tD (q3 q hq) (by omega) (fun k hk=>by have:=h2 k hk;omega)
 exact ⟨aa,cpp,e,hx⟩
structure lS (sb hp n:Nat) (vs vk:Value) (big:Bool) (r:Nat) (s:aG) (ad:Option Addr) (cl cp:Nat) (W:World):Prop where
 sr:W.heap[sb]?=some (.cells #[.pointer (some ⟨hp,0,none⟩),.int .i64 n,vs,vk,.bool big] 85 (0,0))
 st:W.heap[r+1]?=some (.cells #[.int .i64 s.r,.int .i64 s.a,.int .i64 s.b,.int .i64 s.i,.int .i64 s.j,.slice ad cl cp] 54 (0,0))
def jM (sb r:Nat) (W:World):Prop:=Boxed W r 49 (.pointer (some ⟨sb,0,none⟩))
theorem lS.cells {sb hp n:Nat} {vs vk:Value} {big:Bool} {r:Nat} {s:aG} {ad:Option Addr} {cl cp:Nat} {W:World} (h:lS sb hp n vs vk big r s ad cl cp W):W.cell? ⟨sb,2,none⟩=some vs∧W.cell? ⟨sb,3,none⟩=some vk∧W.cell? ⟨r+1,0,none⟩=some (.int .i64 s.r)∧W.cell? ⟨r+1,1,none⟩=some (.int .i64 s.a)∧W.cell? ⟨r+1,2,none⟩=some (.int .i64 s.b)∧W.cell? ⟨r+1,3,none⟩=some (.int .i64 s.i)∧W.cell? ⟨r+1,4,none⟩=some (.int .i64 s.j)∧W.cell? ⟨r+1,5,none⟩=some (.slice ad cl cp):=by
 obtain ⟨h1,h2⟩:=h
 refine ⟨?_,?_,?_,?_,?_,?_,?_,?_⟩ <;> simp [World.cell?,h1,h2]
theorem lS.grown {sb hp n:Nat} {vs vk:Value} {big:Bool} {r:Nat} {s:aG} {ad:Option Addr} {cl cp:Nat} {W W':World} {row:Option Nat} (h:lS sb hp n vs vk big r s ad cl cp W) (hg:W.grownBy W' row) (h1:row≠some sb) (h2:row≠some (r+1)):lS sb hp n vs vk big r s ad cl cp W':=
 ⟨(hg.block _ (Array.getElem?_eq_some_iff.1 h.sr).1 (fun e=>h1 e.symm)).trans h.sr,(hg.block _ (Array.getElem?_eq_some_iff.1 h.st).1 (fun e=>h2 e.symm)).trans h.st⟩
theorem lS.below {sb hp n:Nat} {vs vk:Value} {big:Bool} {r:Nat} {s:aG} {ad:Option Addr} {cl cp:Nat} {W W':World} (h:lS sb hp n vs vk big r s ad cl cp W) (hb:Below W.heap.size W W'):lS sb hp n vs vk big r s ad cl cp W':=
 ⟨(hb.block _ (Array.getElem?_eq_some_iff.1 h.sr).1).trans h.sr,(hb.block _ (Array.getElem?_eq_some_iff.1 h.st).1).trans h.st⟩
theorem jM.below {sb r:Nat} {W W':World} (h:jM sb r W) (hb:Below W.heap.size W W'):jM sb r W':=(hb.block _ (Array.getElem?_eq_some_iff.1 h).1).trans h
theorem jM.grown {sb r:Nat} {W W':World} {row:Option Nat} (h:jM sb r W) (hg:W.grownBy W' row) (h1:row≠some r):jM sb r W':=(hg.block _ (Array.getElem?_eq_some_iff.1 h).1 (fun e=>h1 e.symm)).trans h
theorem xX:(Tryz.prog.info? 54).map (fun i=>(i.zero,i.size,i.bytes))=some (some (.agg #[.int .i64 0,.int .i64 0,.int .i64 0,.int .i64 0,.int .i64 0,.slice none 0 0]),6,64):=by kernel_rfl
theorem aC1:(Tryz.prog.info? 3).map (fun i=>(i.zero,i.size,i.bytes))=some (some (.int .i64 0),1,8):=by kernel_rfl
theorem sT {w:World} {g:Nat} {cs:Array Value} {T:TypeId} (h:w.heap[g]?=some (.cells cs T (0,0))) (j:Nat) (u:Value) (hu:cs.toList[j]?=some u):w.cell? ((⟨g,0,none⟩ : Addr).add j)=some u:=by
 simp only [Array.getElem?_toList] at hu
 have e:(⟨g,0,none⟩ : Addr).add j=⟨g,j,none⟩:=by
  unfold Addr.add
  by_cases hj:j=0
  ·simp [hj]
  ·simp [hj]
 rw [e]
 unfold World.cell?
 rw [h]
 exact hu
structure oF (B:Nat) (wc:World) (sb hp n:Nat) (vs vk:Value) (big:Bool) (r:Nat) (s:aG) (ad:Option Addr) (cl cp:Nat) (ks:List Nat) (x:Value) (m:Nat) (xs:List Value) (W:World):Prop where
 held:lS sb hp n vs vk big r s ad cl cp W
 bx:jM sb r W
 rk:cZ B W vk ks
 rs:W.ownsRow B 54 6 x m xs
 mv:Mv [3,54] B wc W
 nb:vs.ownBlock≠some (r+1)
 base:B≤W.heap.size
section
variable {B:Nat} {wc:World} {sb hp n:Nat} {vs vk:Value} {big:Bool} {r:Nat} {s:aG} {ad:Option Addr} {cl cp:Nat} {ks:List Nat} {x:Value} {m:Nat} {xs:List Value} {W W':World}
theorem oF.below (h:oF B wc sb hp n vs vk big r s ad cl cp ks x m xs W) (hb:Below W.heap.size W W'):oF B wc sb hp n vs vk big r s ad cl cp ks x m xs W':=
 ⟨h.held.below hb,h.bx.below hb,aZ h.rk hb (Nat.le_refl _),aZ h.rs hb (Nat.le_refl _),h.mv.trans (Mv.of_below hb),h.nb,Nat.le_trans h.base hb.size⟩
theorem aC2 {S:List TypeId} {B':Nat} {e:TypeId} {z:Nat} {v:Value} {k:Nat} {ys:List Value} (hr:W.ownsRow B' e z v k ys) (hg:W.grownBy W' v.ownBlock) (he:e∈S):Mv S B' W W':=Mv.of_grown hg (fun k hk=>by
 obtain ⟨_,⟨rfl,_⟩ | ⟨g,cap,cur,rfl,hb,hh,_⟩⟩:=hr
 ·cases hk
 ·cases hk
  exact ⟨hb,cur,_,hh,he⟩)
theorem oF.app {x':Value} {m':Nat} {xs':List Value} (h:oF B wc sb hp n vs vk big r s ad cl cp ks vs m xs W) (hr:W'.ownsRow B 54 6 x' m' xs') (hg:W.grownBy W' vs.ownBlock):oF B wc sb hp n vs vk big r s ad cl cp ks x' m' xs' W':=
 have hm:Mv [54] B W W':=aC2 h.rs hg (by simp)
 ⟨h.held.grown hg (dD h.rs h.held.sr (by decide)) h.nb,h.bx.grown hg (dD h.rs h.bx (by decide)),hm.row h.rk (by decide),hr,h.mv.trans (hm.mono (by decide) (Nat.le_refl _)),h.nb,Nat.le_trans h.base hg.size⟩
theorem oF.fin (h:oF B wc sb hp n vs vk big r s ad cl cp ks x m xs W) (hg:W.grownBy W' vk.ownBlock):lS sb hp n vs vk big r s ad cl cp W'∧jM sb r W'∧W'.ownsRow B 54 6 x m xs∧Mv [3,54] B wc W':=
 have hm:Mv [3] B W W':=aC2 h.rk hg (by simp)
 ⟨h.held.grown hg (dD h.rk h.held.sr (by decide)) (dD h.rk h.held.st (by decide)),h.bx.grown hg (dD h.rk h.bx (by decide)),hm.row h.rs (by decide),h.mv.trans (hm.mono (by decide) (Nat.le_refl _))⟩
end
theorem xY (p:aG×Value) (h:p.2.oneCell'=true):∀u∈fI p,u.oneCell'=true:=by
 intro u hu
 simp [fI] at hu
 rcases hu with rfl | rfl | rfl | rfl | rfl | rfl
 all_goals first | rfl | exact h
theorem aC3 (k:Int):∀u∈[Value.int .i64 k],u.oneCell'=true:=by
 intro u hu
 simp at hu
 subst hu
 rfl
theorem lS.set2 {sb hp n:Nat} {vs vk:Value} {big:Bool} {r:Nat} {s:aG} {ad:Option Addr} {cl cp:Nat} {W:World} (h:lS sb hp n vs vk big r s ad cl cp W) (hb:jM sb r W) (hne:r≠sb) (x:Value):W.cell? ⟨sb,2,none⟩=some vs∧W.frozen? ⟨sb,2,none⟩=false∧(W.setCell ⟨sb,2,none⟩ x).cell? ⟨sb,3,none⟩=some vk∧(W.setCell ⟨sb,2,none⟩ x).frozen? ⟨sb,3,none⟩=false∧jM sb r (W.setCell ⟨sb,2,none⟩ x)∧∀y,jM sb r ((W.setCell ⟨sb,2,none⟩ x).setCell ⟨sb,3,none⟩ y):=by
 have hlt:=(Array.getElem?_eq_some_iff.1 h.sr).1
 have hbx2:(W.setCell ⟨sb,2,none⟩ x).heap[sb]?=some (.cells #[.pointer (some ⟨hp,0,none⟩),.int .i64 (n:Nat),x,vk,.bool big] 85 (0,0)):=by
  show (W.heap.modify sb _)[sb]?=_
  rw [Array.getElem?_eq_getElem (by rw [Array.size_modify];exact hlt),Array.getElem_modify_self,(Array.getElem?_eq_some_iff.1 h.sr).2]
  rfl
 have hb2:=hb.grown (cB W ⟨sb,2,none⟩ x) (fun e=>by simp at e;exact hne e.symm)
 exact ⟨h.cells.1,by simp [World.frozen?,h.sr],by simp [World.cell?,hbx2],by simp [World.frozen?,hbx2],hb2,fun y=>hb2.grown (cB _ ⟨sb,3,none⟩ y) (fun e=>by simp at e;exact hne e.symm)⟩
theorem bC.two {B:Nat} {w w':World} {sb hp:Nat} {v vs vk vs' vk':Value} {L:List Cd} {n:Nat} {T:List (aG×Value)} {ks ks':List Nat} {big:Bool} {p:aG×Value} (h:bC B w sb hp v vs vk L n T ks big) (hm:Mv [3,54] B w w') (hp2:bK B w p.2 p.1.c) (hs:w'.ownsRow B 54 6 vs' (T.length+1) (fP T++fI p)) (hk:cZ B w' vk' ks') :
  bC B ((w'.setCell ⟨sb,2,none⟩ vs').setCell ⟨sb,3,none⟩ vk') sb hp v vs' vk' L n (T++[p]) ks' big∧Mv [3,85,54] B w ((w'.setCell ⟨sb,2,none⟩ vs').setCell ⟨sb,3,none⟩ vk'):=by
 have hbx:=hm.cells h.box (by decide)
 have hlt:=(Array.getElem?_eq_some_iff.1 hbx).1
 have hbx2:(w'.setCell ⟨sb,2,none⟩ vs').heap[sb]?=some (.cells #[.pointer (some ⟨hp,0,none⟩),.int .i64 (n:Nat),vs',vk,.bool big] 85 (0,0)):=by
  show (w'.heap.modify sb _)[sb]?=_
  rw [Array.getElem?_eq_getElem (by rw [Array.size_modify];exact hlt),Array.getElem_modify_self,(Array.getElem?_eq_some_iff.1 hbx).2]
  rfl
 have hlt2:=(Array.getElem?_eq_some_iff.1 hbx2).1
 have hm2:Mv [85] B w' (w'.setCell ⟨sb,2,none⟩ vs'):=Mv.of_grown (cB w' ⟨sb,2,none⟩ _) (fun k hk=>by cases hk;exact ⟨h.base,_,_,hbx,by simp⟩)
 have hm3:Mv [85] B (w'.setCell ⟨sb,2,none⟩ vs') ((w'.setCell ⟨sb,2,none⟩ vs').setCell ⟨sb,3,none⟩ vk'):=Mv.of_grown (cB _ ⟨sb,3,none⟩ _) (fun k hk=>by cases hk;exact ⟨h.base,_,_,hbx2,by simp⟩)
 have hm4:=hm2.trans hm3
 have hall:Mv [3,85,54] B w ((w'.setCell ⟨sb,2,none⟩ vs').setCell ⟨sb,3,none⟩ vk'):=(hm.mono (by decide) (Nat.le_refl _)).trans (hm4.mono (by decide) (Nat.le_refl _))
 refine ⟨⟨?_,⟨hall.cells h.heap.box (by decide),hall.row h.heap.row (by decide),h.heap.base⟩,⟨?_,fun q hq=>?_⟩,hm4.row hk (by decide),fun y hy=>⟨hall.clause (h.cl y hy).1 (by decide) (by decide),(h.cl y hy).2⟩,h.base⟩,hall⟩
 ·show ((w'.setCell ⟨sb,2,none⟩ vs').heap.modify sb _)[sb]?=_
  rw [Array.getElem?_eq_getElem (by rw [Array.size_modify];exact hlt2),Array.getElem_modify_self,(Array.getElem?_eq_some_iff.1 hbx2).2]
  rfl
 ·have:=hm4.row hs (by decide)
  simpa [fP] using this
 ·rcases List.mem_append.1 hq with hq | hq
  ·exact hall.clause (h.st.cl q hq) (by decide) (by decide)
  ·simp at hq
   subst hq
   exact hall.clause hp2 (by decide) (by decide)
def mU:List TypeId:=[85,112,82,54,3]
noncomputable def cN (T:List (aG×Value)) (ks:List Nat) (c:List Lt):List Nat:=(ks.filter fun k=>!bX c (aK T k))++[T.length]
theorem bC.kps {B:Nat} {W W':World} {sb hp:Nat} {v vs vk:Value} {L:List Cd} {n:Nat} {T:List (aG×Value)} {ks:List Nat} {big:Bool} (h:bC B W sb hp v vs vk L n T ks big) (k:cG [] W W'):bC B W' sb hp v vs vk L n T ks big:=
 ⟨k.kc _ _ _ h.box (by simp),⟨k.kc _ _ _ h.heap.box (by simp),k.row h.heap.row (by simp),h.heap.base⟩,h.st.kept k (by simp) (by simp) (by simp),k.row h.kp (by simp),fun x hx=>⟨k.clause (h.cl x hx).1 (by simp) (by simp),(h.cl x hx).2⟩,h.base⟩
theorem aIi {β:Type} {S:List TypeId} {B N:Nat} {w0:World} (hN:w0.heap.size≤N):OwnFrom N (fun (_:β) W=>Mv S B w0 W):=fun _ X Y row h hg hr=>
 ⟨hg.os.trans h.os,hg.tape.trans h.tape,hg.output.trans h.output,Nat.le_trans h.size hg.size,fun k o hk ho=>by
  have h1:=h.keep k o hk ho
  refine (hg.block k (Array.getElem?_eq_some_iff.1 h1).1 (fun e=>?_)).trans h1
  have:=(hr k e.symm).1
  have:=(Array.getElem?_eq_some_iff.1 hk).1
  omega⟩
def lT (B sb hp r:Nat) (vs vk:Value) (T:List (aG×Value)) (ks:List Nat) (F:List (aG×Int)) (L:List Cd) (n:Nat) (big:Bool) (w0:World) (k:Nat) (W:World):Prop:=
 (∃v' L' n' b',bC B W sb hp v' vs vk L' n' T ks b'∧bR (F.take k) L n big L' n' b')∧jM sb r W∧Mv mU B w0 W
theorem lT.own {B sb hp r:Nat} {vs vk:Value} {T:List (aG×Value)} {ks:List Nat} {F:List (aG×Int)} {L:List Cd} {n:Nat} {big:Bool} {w0:World} {N:Nat} (hN:w0.heap.size≤N):OwnFrom N (lT B sb hp r vs vk T ks F L n big w0):=fun k X Y row h hg hr=>by
 obtain ⟨⟨v',L',n',b',h1,h2⟩,h3,h4⟩:=h
 have hk:cG [] X Y:=cG.grown hg (fun r e=>(hr r e).2)
 exact ⟨⟨v',L',n',b',h1.kps hk,h2⟩,hk.kc _ _ _ h3 (by simp),aIi hN () X Y row h4 hg hr⟩
theorem lT.next {B sb hp r:Nat} {vs vk:Value} {T:List (aG×Value)} {ks:List Nat} {F:List (aG×Int)} {L L1 L2:List Cd} {n n1 n2:Nat} {big b1 b2:Bool} {w0 W W':World} {k:Nat} {x:aG×Int} {v':Value} (hx:F[k]?=some x) (h1:bR (F.take k) L n big L1 n1 b1) (h2:bR [x] L1 n1 b1 L2 n2 b2) (hb:jM sb r W) (hm:Mv mU B w0 W) (hS:bC B W' sb hp v' vs vk L2 n2 T ks b2) (hk:Mv bM B W W'):lT B sb hp r vs vk T ks F L n big w0 (k+1) W':=by
 refine ⟨⟨v',L2,n2,b2,hS,?_⟩,hk.boxed hb (by decide),hm.trans (hk.mono (by decide) (Nat.le_refl _))⟩
 rw [oC hx]
 exact h1.snoc _ h2
set_option maxHeartbeats 8000000 in
theorem aVs (B sb hp:Nat) (v vs vk:Value) (L:List Cd) (n:Nat) (T:List (aG×Value)) (ks:List Nat) (big:Bool) (s:aG) (ad:Option Addr) (cp:Nat) (w:World) (h:bC B w sb hp v vs vk L n T ks big) (hc:bK B w (.slice ad s.c.length cp) s.c) (ic:bG s.c=true) (iT:∀p∈T,bG p.1.c=true) (hcv:∀k∈ks,kQ s.c (aK T k)) (hks:∀k∈ks,k < T.length) (hkl:ks.length≤1000) (hTl:T.length≤1000) (hB:B≤w.heap.size)
  (F:List (aG×Int)) (hFe:F=jG (T++[(s,.slice ad s.c.length cp)]) T.length (cN T ks s.c)) (hF:∀x∈F,rS x.1.c∧(x.2=0→dQ x.1.c=true→bG x.1.c=true)) (hLF:L.length+F.length≤1000000) (hnF:n+F.length≤1000000) :
  Calls Tryz.prog 38 #[.pointer (some ⟨sb,0,none⟩),nN s ad cp] w fun e w'=>(∃u,e=.returned u)∧∃v' vs' vk' L' n' b',bC B w' sb hp v' vs' vk' L' n' (T++[(s,.slice ad s.c.length cp)]) (cN T ks s.c) b'∧bR F L n big L' n' b'∧Mv mU B w w':=by
 obtain ⟨ka0,kc0,rfl⟩:=h.kp.shape
 obtain ⟨w1,hw1,hb1,x1,x2⟩ : ∃w1,(w.alloc (.cells #[.pointer (some ⟨sb,0,none⟩)] 49)).alloc (.cells #[.int .i64 s.r,.int .i64 s.a,.int .i64 s.b,.int .i64 s.i,.int .i64 s.j,.slice ad s.c.length cp] 54)=w1∧Below w.heap.size w w1∧Boxed w1 w.heap.size 49 (.pointer (some ⟨sb,0,none⟩))∧w1.heap[w.heap.size+1]?=some (.cells #[.int .i64 s.r,.int .i64 s.a,.int .i64 s.b,.int .i64 s.i,.int .i64 s.j,.slice ad s.c.length cp] 54 (0,0)):=by
  refine ⟨_,rfl,((Below.refl _ w).alloc (Nat.le_refl _) _).alloc (by simp) _,(Below.heap_alloc _ _ _ (by simp)).trans (World.alloc_heap_new w _),?_⟩
  have:=World.alloc_heap_new (w.alloc (.cells #[.pointer (some ⟨sb,0,none⟩)] 49)) (.cells #[.int .i64 s.r,.int .i64 s.a,.int .i64 s.b,.int .i64 s.i,.int .i64 s.j,.slice ad s.c.length cp] 54)
  rwa [World.size_alloc] at this
 have h1:=h.below hb1
 have hc1:=hc.below hb1
 obtain ⟨_,_,_,c3,_⟩:=h1.cells
 have r0:=x1.cell
 have CD:=aA (fun (wx:World) (hwx:∃d,wx=w1.drewN d)=>(aVr B sb hp v vs _ L n T ks big (w.heap.size+1) w.heap.size s ad cp wx (by obtain ⟨d,rfl⟩:=hwx;exact h1.below (aJ ⟨d,rfl⟩)) (by obtain ⟨d,rfl⟩:=hwx;exact x2) (by obtain ⟨d,rfl⟩:=hwx;exact x1) (by obtain ⟨d,rfl⟩:=hwx;exact hc1.below (aJ ⟨d,rfl⟩)) hcv hks (by omega)).mono (R':=fun e w2=>∃ka kn kc,e=.returned (.slice ka kn kc)∧cZ B w2 (.slice ka kn kc) (ks.filter fun k=>!bX s.c (aK T k))∧Mv [3] B w1 w2) (fun e w2 he=>by
  obtain ⟨d,rfl⟩:=hwx
  obtain ⟨ka,kn,kc,h2,h3,h4⟩:=he
  exact ⟨ka,kn,kc,h2,h3,(Mv.of_below (aJ ⟨d,rfl⟩)).trans h4⟩))
 have hne:w.heap.size≠sb:=fun e=>by have:=(Array.getElem?_eq_some_iff.1 h.box).1;omega
 have HH:=aA h
 have H1:=aA h1
 have HC1:=aA hc1
 have HX1:=aA x1
 have HX2:=aA x2
 have HB1:=aA hb1
 have HF:=aA hF
 have HFE:=aA hFe
 have HIT:=aA iT
 have HIC:=aA ic
 have HKS:=aA hks
 clear h h1 hc hc1 x1 x2 hb1 hF hFe iT ic hks hcv
 unfold nN
 refine (callsIn_wide (n:=8)).1 ?_
 refine callsIn_of_wp_marks Tryz.func38 rfl trivial ?_
 simp only [Tryz.ntmps38,List.size_toArray,List.length_cons,List.length_nil,Nat.reduceAdd,Nat.reduceSub,Array.replicate_succ,Array.replicate_zero,List.push_toArray,List.append_toArray,List.nil_append,List.cons_append]
 refine wpIn_wide.2 ?_
 go_wp2
 clear hw1
 have hmix:Tryz.prog.follows .mixedOrders=true:=by kernel_rfl
 go_cut [] from 7 (fun wx=>∃ka kn kc,bC B wx sb hp v vs (.slice ka kn kc) L n T (ks.filter fun k=>!bX s.c (aK T k)) big∧Mv [3,85] B w1 wx)
 case first=>
  refine rF ?_
  go_region_law (refine aAz (by rfl) 59 _ _ (by rfl) (enters_of Tryz.func59 (by kernel_rfl) rfl) _ (by rfl) (aB CD _ ⟨1,rfl⟩) ?_;rintro e w2 ⟨ka,kn,kc,rfl,ho2,hm2⟩;refine ⟨_,rfl,?_⟩;obtain ⟨hS3,hM3,d3,f3⟩:=H1.out.rekept hm2 ho2;have r2:=(hm2.boxed HX1.out (by decide)).cell;have HS3:=aA hS3;have HM3:=aA hM3;clear ho2 hm2 hS3 hM3)
  all_goals
   refine oU ?_
   go_wp2_with fail
   go_meet
   case rel=>exact ⟨_,_,_,HS3.out,HM3.out⟩
 case rest=>
  obtain ⟨ka,kn,kc,hS2,hM2⟩:=hcut
  obtain ⟨va,vc,rfl⟩:=aR hS2.st.row
  have r2:=(hM2.boxed HX1.out (by decide)).cell
  obtain ⟨_,_,d2,_,_⟩:=hS2.cells
  have HS2:=aA hS2
  have HM2:=aA hM2
  have HNB:=aA (show (Value.slice va T.length vc).ownBlock≠some (w.heap.size+1) from by
   obtain ⟨_,⟨e,_⟩ | ⟨g,cap,cur,e,hb,hh,_⟩⟩:=HH.out.st.row
   ·rw [e];simp [Value.ownBlock]
   ·rw [e]
    have:=(Array.getElem?_eq_some_iff.1 hh).1
    simp [Value.ownBlock]
    omega)
  clear hS2 hM2 CD H1 HH
  go_upto_region 3 with (fail)
  go_cut [] from 7 (fun wx=>∃vs' vk',bC B wx sb hp v vs' vk' L n (T++[(s,.slice ad s.c.length cp)]) (cN T ks s.c) big∧Mv [3,85,54] B w1 wx)
  case first=>
   refine rF ?_
   refine aV9 18 (lS sb hp n (.slice va T.length vc) (.slice ka kn kc) big w.heap.size s ad s.c.length cp) (jM sb w.heap.size) (by kernel_rfl) ⟨HS2.out.box,HM2.out.cells HX2.out (by decide)⟩ (HM2.out.boxed HX1.out (by decide)) (fun hTill=>?_)
   refine pG (i:=0) (d:=some 21) (v:=.pointer (some ⟨sb,0,none⟩)) rfl rfl (by kernel_rfl) (by kernel_rfl) (by kernel_rfl) (by kernel_rfl) (fun _ _ _ h=>h) (Or.inl ⟨by rfl,fun wx hx=>by have r:=Boxed.cell hx;go_simp⟩) hTill (fun hTill=>?_)
   simp only [Act.put,List.setIfInBounds_toArray,List.set_cons_zero,List.set_cons_succ]
   refine pG (i:=1) (d:=some 22) (v:=.pointer (some ⟨sb,0,none⟩)) rfl rfl (by kernel_rfl) (by kernel_rfl) (by kernel_rfl) (by kernel_rfl) (fun _ _ _ h=>h) (Or.inl ⟨by rfl,fun wx hx=>by have r:=Boxed.cell hx;go_simp⟩) hTill (fun hTill=>?_)
   simp only [Act.put,List.setIfInBounds_toArray,List.set_cons_zero,List.set_cons_succ]
   refine pG (i:=2) (d:=some 23) (v:=.pointer (some ⟨sb,0,none⟩)) rfl rfl (by kernel_rfl) (by kernel_rfl) (by kernel_rfl) (by kernel_rfl) (fun _ _ _ h=>h) (Or.inl ⟨by rfl,fun wx hx=>by have r:=Boxed.cell hx;go_simp⟩) hTill (fun hTill=>?_)
   simp only [Act.put,List.setIfInBounds_toArray,List.set_cons_zero,List.set_cons_succ]
   refine pG (i:=3) (d:=some 24) (v:=.pointer (some ⟨sb,0,none⟩)) rfl rfl (by kernel_rfl) (by kernel_rfl) (by kernel_rfl) (by kernel_rfl) (fun _ _ _ h=>h) (Or.inl ⟨by rfl,fun wx hx=>by go_simp⟩) hTill (fun hTill=>?_)
   simp only [Act.put,List.setIfInBounds_toArray,List.set_cons_zero,List.set_cons_succ]
   refine pG (i:=4) (d:=some 25) (v:=.pointer (some ⟨sb,2,none⟩)) rfl rfl (by kernel_rfl) (by kernel_rfl) (by kernel_rfl) (by kernel_rfl) (fun _ _ _ h=>h) (Or.inl ⟨by rfl,fun wx hx=>by go_simp⟩) hTill (fun hTill=>?_)
   simp only [Act.put,List.setIfInBounds_toArray,List.set_cons_zero,List.set_cons_succ]
   refine aBx (i:=5) (d:=some 26) (v:=.slice va T.length vc) rfl rfl (by kernel_rfl) (by kernel_rfl) (by kernel_rfl) (by kernel_rfl) (fun _ _ _ h=>h) (Or.inl ⟨by rfl,fun wx hx=>by obtain ⟨y1,y2,y3,y4,y5,y6,y7,y8⟩:=hx.1.cells;go_simp⟩) hTill (fun hTill=>?_)
   simp only [Act.put,List.setIfInBounds_toArray,List.set_cons_zero,List.set_cons_succ]
   refine aBx (i:=6) (d:=some 27) (v:=.agg #[.int .i64 s.r,.int .i64 s.a,.int .i64 s.b,.int .i64 s.i,.int .i64 s.j,.slice ad s.c.length cp]) rfl rfl (by kernel_rfl) (by kernel_rfl) (by kernel_rfl) (by kernel_rfl) (fun _ _ _ h=>h) (Or.inl ⟨by rfl,fun wx hx=>by obtain ⟨y1,y2,y3,y4,y5,y6,y7,y8⟩:=hx.1.cells;go_simp⟩) hTill (fun hTill=>?_)
   simp only [Act.put,List.setIfInBounds_toArray,List.set_cons_zero,List.set_cons_succ]
   refine pG (i:=9) (d:=some 30) (v:=.pointer (some ⟨sb,0,none⟩)) rfl rfl (by kernel_rfl) (by kernel_rfl) (by kernel_rfl) (by kernel_rfl) (fun _ _ _ h=>h) (Or.inl ⟨by rfl,fun wx hx=>by have r:=Boxed.cell hx;go_simp⟩) hTill (fun hTill=>?_)
   simp only [Act.put,List.setIfInBounds_toArray,List.set_cons_zero,List.set_cons_succ]
   refine pG (i:=10) (d:=some 31) (v:=.pointer (some ⟨sb,0,none⟩)) rfl rfl (by kernel_rfl) (by kernel_rfl) (by kernel_rfl) (by kernel_rfl) (fun _ _ _ h=>h) (Or.inl ⟨by rfl,fun wx hx=>by go_simp⟩) hTill (fun hTill=>?_)
   simp only [Act.put,List.setIfInBounds_toArray,List.set_cons_zero,List.set_cons_succ]
   refine pG (i:=11) (d:=some 32) (v:=.pointer (some ⟨sb,3,none⟩)) rfl rfl (by kernel_rfl) (by kernel_rfl) (by kernel_rfl) (by kernel_rfl) (fun _ _ _ h=>h) (Or.inl ⟨by rfl,fun wx hx=>by go_simp⟩) hTill (fun hTill=>?_)
   simp only [Act.put,List.setIfInBounds_toArray,List.set_cons_zero,List.set_cons_succ]
   refine aBx (i:=12) (d:=some 33) (v:=.slice ka kn kc) rfl rfl (by kernel_rfl) (by kernel_rfl) (by kernel_rfl) (by kernel_rfl) (fun _ _ _ h=>h) (Or.inl ⟨by rfl,fun wx hx=>by obtain ⟨y1,y2,y3,y4,y5,y6,y7,y8⟩:=hx.1.cells;go_simp⟩) hTill (fun hTill=>?_)
   simp only [Act.put,List.setIfInBounds_toArray,List.set_cons_zero,List.set_cons_succ]
   refine pG (i:=13) (d:=some 34) (v:=.int .i64 (T.length:Nat)) rfl rfl (by kernel_rfl) (by kernel_rfl) (by kernel_rfl) (by kernel_rfl) (fun _ _ _ h=>h) (Or.inl ⟨by rfl,fun wx hx=>by go_simp⟩) hTill (fun hTill=>?_)
   simp only [Act.put,List.setIfInBounds_toArray,List.set_cons_zero,List.set_cons_succ]
   have hb0:=(aJ (w:=wc) ⟨1,rfl⟩)
   have hM0:oF B wc sb hp n (.slice va T.length vc) (.slice ka kn kc) big w.heap.size s ad s.c.length cp (ks.filter fun k=>!bX s.c (aK T k)) (.slice va T.length vc) T.length (fP T) wc.drew:=by
    refine oF.below ⟨⟨HS2.out.box,HM2.out.cells HX2.out (by decide)⟩,HM2.out.boxed HX1.out (by decide),HS2.out.kp,HS2.out.st.row,Mv.refl _ _ _,HNB.out,Nat.le_trans hB (Nat.le_trans HB1.out.size HM2.out.size)⟩ hb0
   have HM0:=aA hM0
   have hfl:(ks.filter fun k=>!bX s.c (aK T k)).length≤10000000:=by have:=List.length_filter_le (fun k=>!bX s.c (aK T k)) ks;omega
   clear hM0 hb0
   generalize wc.drew=W0 at HM0 hTill ⊢
   clear hTill
   refine eN (rs:=[7,14]) (by kernel_rfl) (by simp) (bI.cons rfl (fun K hK=>?_) (bI.cons rfl (fun K hK=>?_) bI.nil))
   ·skip
    go_simp
    have HM1:=aA (HM0.out.below ((Below.refl _ W0).alloc (Nat.le_refl _) (.cells #[.int .i64 s.r,.int .i64 s.a,.int .i64 s.b,.int .i64 s.i,.int .i64 s.j,.slice ad s.c.length cp] 54)))
    have NS:=World.alloc_heap_new W0 (.cells #[.int .i64 s.r,.int .i64 s.a,.int .i64 s.b,.int .i64 s.i,.int .i64 s.j,.slice ad s.c.length cp] 54)
    refine hK.out _ _ ⟨fun _=>HM1.out.held,HM1.out.bx⟩ ?_
    generalize W0.alloc (.cells #[.int .i64 s.r,.int .i64 s.a,.int .i64 s.b,.int .i64 s.i,.int .i64 s.j,.slice ad s.c.length cp] 54)=W1 at HM1 NS  ⊢
    clear hK
    refine eN (rs:=[8,14]) (by kernel_rfl) (by simp) (bI.cons rfl (fun K hK=>?_) (bI.cons rfl (fun K hK=>?_) bI.nil))
    ·skip
     refine mI rfl (.tmp 26) (.tmp 28) 30 54 rfl (.agg #[.int .i64 0,.int .i64 0,.int .i64 0,.int .i64 0,.int .i64 0,.slice none 0 0]) 6 64 Tryz.underlying30 xX rfl (by decide) (by decide) B _ T.length (fP T) rfl HM1.out.rs (by omega) HM1.out.base W0.heap.size 1 (fI (s,.slice ad s.c.length cp)) rfl rfl (sT NS) (xY _ rfl) ?_
     intro x1 W2 ho hg
     have HM2x:=aA (HM1.out.app ho hg)
     obtain ⟨xa,xc,rfl⟩:=aR ho
     refine hK.out _ _ ⟨fun _=>HM2x.out.held,HM2x.out.bx⟩ ?_
     clear hK ho hg
     simp only [Act.put,List.setIfInBounds_toArray,List.set_cons_zero,List.set_cons_succ]
     refine eN (rs:=[14]) (by kernel_rfl) (by simp) (bI.cons rfl (fun K hK=>?_) bI.nil)
     go_simp
     have HM3:=aA (HM2x.out.below ((Below.refl _ W2).alloc (Nat.le_refl _) (.cells #[.int .i64 (T.length:Nat)] 3)))
     have NI:=World.alloc_heap_new W2 (.cells #[.int .i64 (T.length:Nat)] 3)
     refine hK.out _ _ ⟨fun _=>HM3.out.held,HM3.out.bx⟩ ?_
     generalize W2.alloc (.cells #[.int .i64 (T.length:Nat)] 3)=W3 at HM3 NI  ⊢
     clear hK
     refine eN (rs:=[15]) (by kernel_rfl) (by simp) (bI.cons rfl (fun K hK=>?_) bI.nil)
     refine mI rfl (.tmp 33) (.tmp 35) 31 3 rfl (.int .i64 0) 1 8 Tryz.underlying31 aC1 rfl (by decide) (by decide) B _ (ks.filter fun k=>!bX s.c (aK T k)).length ((ks.filter fun k=>!bX s.c (aK T k)).map fun k=>Value.int .i64 (k:Nat)) rfl HM3.out.rk hfl HM3.out.base W2.heap.size 1 [.int .i64 (T.length:Nat)] rfl rfl (sT NI) (aC3 _) ?_
     intro x2 We ho2 hg2
     have HE:=aA (HM3.out.fin hg2)
     obtain ⟨ya,yc,rfl⟩:=aR ho2
     have HO2:=aA ho2
     refine hK.out _ _ ⟨fun _=>HE.out.1,HE.out.2.1⟩ ?_
     clear hK ho2 hg2
     simp only [Act.put,List.setIfInBounds_toArray,List.set_cons_zero,List.set_cons_succ]
     refine eN (rs:=[16]) (by kernel_rfl) (by simp) (bI.cons rfl (fun K hK=>?_) bI.nil)
     go_simp
     refine hK.out _ _ ⟨fun _=>HE.out.1,HE.out.2.1⟩ ?_
     clear hK
     refine eN (rs:=[17]) (by kernel_rfl) (by simp) (bI.cons rfl (fun K hK=>?_) bI.nil)
     go_simp
     refine hK.out _ _ ⟨fun _=>HE.out.1,HE.out.2.1⟩ ?_
     clear hK
     obtain ⟨q1,q2,q3,q4,q5,q6⟩:=HE.out.1.set2 HE.out.2.1 hne (.slice xa (T.length+1) xc)
     have Q6:=aA q6
     clear q6
     refine eN (rs:=[18]) (by kernel_rfl) (by simp) (bI.cons rfl (fun K hK=>?_) bI.nil)
     go_simp
     refine hK.out _ _ ⟨fun hx=>Bool.noConfusion (show true=false from hx),q5⟩ ?_
     clear hK
     refine eN (rs:=[19]) (by kernel_rfl) (by simp) (bI.cons rfl (fun K hK=>?_) bI.nil)
     go_simp
     refine hK.out _ _ ⟨fun hx=>Bool.noConfusion (show true=false from hx),q5⟩ ?_
     clear hK
     refine eN (rs:=[20]) (by kernel_rfl) (by simp) (bI.cons rfl (fun K hK=>?_) bI.nil)
     go_simp
     refine hK.out _ _ ⟨fun hx=>Bool.noConfusion (show true=false from hx),q5⟩ ?_
     clear hK
     refine eN (rs:=[21]) (by kernel_rfl) (by simp) (bI.cons rfl (fun K hK=>?_) bI.nil)
     go_simp
     refine hK.out _ _ ⟨fun hx=>Bool.noConfusion (show true=false from hx),Q6.out _⟩ ?_
     clear hK
     refine aBy (by kernel_rfl) ?_ _
     refine oU ?_
     have HT:=aA (bC.two (p:=(s,.slice ad s.c.length cp)) HS2.out HE.out.2.2.2 (HM2.out.clause HC1.out (by decide) (by decide)) HE.out.2.2.1 (ks':=cN T ks s.c) (by unfold cN cZ;rw [List.length_append,List.map_append];exact HO2.out))
     go_wp2_with fail
     go_meet
     case rel=>exact ⟨_,_,HT.out.1,(HM2.out.mono (by decide) (Nat.le_refl _)).trans HT.out.2⟩
    ·skip
     go_simp
     have HM2x:=aA (HM1.out.below ((Below.refl _ W1).alloc (Nat.le_refl _) (.cells #[.int .i64 (T.length:Nat)] 3)))
     have NI:=World.alloc_heap_new W1 (.cells #[.int .i64 (T.length:Nat)] 3)
     have NS':=(((Below.refl _ W1).alloc (Nat.le_refl _) (.cells #[.int .i64 (T.length:Nat)] 3)).block _ (Array.getElem?_eq_some_iff.1 NS).1).trans NS
     refine hK.out _ _ ⟨fun _=>HM2x.out.held,HM2x.out.bx⟩ ?_
     generalize W1.alloc (.cells #[.int .i64 (T.length:Nat)] 3)=W2 at HM2x NI NS' ⊢
     clear hK
     refine eN (rs:=[8]) (by kernel_rfl) (by simp) (bI.cons rfl (fun K hK=>?_) bI.nil)
     refine mI rfl (.tmp 26) (.tmp 28) 30 54 rfl (.agg #[.int .i64 0,.int .i64 0,.int .i64 0,.int .i64 0,.int .i64 0,.slice none 0 0]) 6 64 Tryz.underlying30 xX rfl (by decide) (by decide) B _ T.length (fP T) rfl HM2x.out.rs (by omega) HM2x.out.base W0.heap.size 1 (fI (s,.slice ad s.c.length cp)) rfl rfl (sT NS') (xY _ rfl) ?_
     intro x1 W3 ho hg
     have HM3:=aA (HM2x.out.app ho hg)
     have NI':=(hg.block _ (Array.getElem?_eq_some_iff.1 NI).1 (fun ee=>dD HM2x.out.rs NI (by decide) ee.symm)).trans NI
     obtain ⟨xa,xc,rfl⟩:=aR ho
     refine hK.out _ _ ⟨fun _=>HM3.out.held,HM3.out.bx⟩ ?_
     clear hK ho hg
     simp only [Act.put,List.setIfInBounds_toArray,List.set_cons_zero,List.set_cons_succ]
     refine eN (rs:=[15]) (by kernel_rfl) (by simp) (bI.cons rfl (fun K hK=>?_) bI.nil)
     refine mI rfl (.tmp 33) (.tmp 35) 31 3 rfl (.int .i64 0) 1 8 Tryz.underlying31 aC1 rfl (by decide) (by decide) B _ (ks.filter fun k=>!bX s.c (aK T k)).length ((ks.filter fun k=>!bX s.c (aK T k)).map fun k=>Value.int .i64 (k:Nat)) rfl HM3.out.rk hfl HM3.out.base W1.heap.size 1 [.int .i64 (T.length:Nat)] rfl rfl (sT NI') (aC3 _) ?_
     intro x2 We ho2 hg2
     have HE:=aA (HM3.out.fin hg2)
     obtain ⟨ya,yc,rfl⟩:=aR ho2
     have HO2:=aA ho2
     refine hK.out _ _ ⟨fun _=>HE.out.1,HE.out.2.1⟩ ?_
     clear hK ho2 hg2
     simp only [Act.put,List.setIfInBounds_toArray,List.set_cons_zero,List.set_cons_succ]
     refine eN (rs:=[16]) (by kernel_rfl) (by simp) (bI.cons rfl (fun K hK=>?_) bI.nil)
     go_simp
     refine hK.out _ _ ⟨fun _=>HE.out.1,HE.out.2.1⟩ ?_
     clear hK
     refine eN (rs:=[17]) (by kernel_rfl) (by simp) (bI.cons rfl (fun K hK=>?_) bI.nil)
     go_simp
     refine hK.out _ _ ⟨fun _=>HE.out.1,HE.out.2.1⟩ ?_
     clear hK
     obtain ⟨q1,q2,q3,q4,q5,q6⟩:=HE.out.1.set2 HE.out.2.1 hne (.slice xa (T.length+1) xc)
     have Q6:=aA q6
     clear q6
     refine eN (rs:=[18]) (by kernel_rfl) (by simp) (bI.cons rfl (fun K hK=>?_) bI.nil)
     go_simp
     refine hK.out _ _ ⟨fun hx=>Bool.noConfusion (show true=false from hx),q5⟩ ?_
     clear hK
     refine eN (rs:=[19]) (by kernel_rfl) (by simp) (bI.cons rfl (fun K hK=>?_) bI.nil)
     go_simp
     refine hK.out _ _ ⟨fun hx=>Bool.noConfusion (show true=false from hx),q5⟩ ?_
     clear hK
     refine eN (rs:=[20]) (by kernel_rfl) (by simp) (bI.cons rfl (fun K hK=>?_) bI.nil)
     go_simp
     refine hK.out _ _ ⟨fun hx=>Bool.noConfusion (show true=false from hx),q5⟩ ?_
     clear hK
     refine eN (rs:=[21]) (by kernel_rfl) (by simp) (bI.cons rfl (fun K hK=>?_) bI.nil)
     go_simp
     refine hK.out _ _ ⟨fun hx=>Bool.noConfusion (show true=false from hx),Q6.out _⟩ ?_
     clear hK
     refine aBy (by kernel_rfl) ?_ _
     refine oU ?_
     have HT:=aA (bC.two (p:=(s,.slice ad s.c.length cp)) HS2.out HE.out.2.2.2 (HM2.out.clause HC1.out (by decide) (by decide)) HE.out.2.2.1 (ks':=cN T ks s.c) (by unfold cN cZ;rw [List.length_append,List.map_append];exact HO2.out))
     go_wp2_with fail
     go_meet
     case rel=>exact ⟨_,_,HT.out.1,(HM2.out.mono (by decide) (Nat.le_refl _)).trans HT.out.2⟩
   ·skip
    go_simp
    have HM1:=aA (HM0.out.below ((Below.refl _ W0).alloc (Nat.le_refl _) (.cells #[.int .i64 (T.length:Nat)] 3)))
    have NI:=World.alloc_heap_new W0 (.cells #[.int .i64 (T.length:Nat)] 3)
    refine hK.out _ _ ⟨fun _=>HM1.out.held,HM1.out.bx⟩ ?_
    generalize W0.alloc (.cells #[.int .i64 (T.length:Nat)] 3)=W1 at HM1 NI  ⊢
    clear hK
    refine eN (rs:=[7]) (by kernel_rfl) (by simp) (bI.cons rfl (fun K hK=>?_) bI.nil)
    go_simp
    have HM2x:=aA (HM1.out.below ((Below.refl _ W1).alloc (Nat.le_refl _) (.cells #[.int .i64 s.r,.int .i64 s.a,.int .i64 s.b,.int .i64 s.i,.int .i64 s.j,.slice ad s.c.length cp] 54)))
    have NS:=World.alloc_heap_new W1 (.cells #[.int .i64 s.r,.int .i64 s.a,.int .i64 s.b,.int .i64 s.i,.int .i64 s.j,.slice ad s.c.length cp] 54)
    have NI':=(((Below.refl _ W1).alloc (Nat.le_refl _) (.cells #[.int .i64 s.r,.int .i64 s.a,.int .i64 s.b,.int .i64 s.i,.int .i64 s.j,.slice ad s.c.length cp] 54)).block _ (Array.getElem?_eq_some_iff.1 NI).1).trans NI
    refine hK.out _ _ ⟨fun _=>HM2x.out.held,HM2x.out.bx⟩ ?_
    generalize W1.alloc (.cells #[.int .i64 s.r,.int .i64 s.a,.int .i64 s.b,.int .i64 s.i,.int .i64 s.j,.slice ad s.c.length cp] 54)=W2 at HM2x NS NI' ⊢
    clear hK
    refine eN (rs:=[8]) (by kernel_rfl) (by simp) (bI.cons rfl (fun K hK=>?_) bI.nil)
    refine mI rfl (.tmp 26) (.tmp 28) 30 54 rfl (.agg #[.int .i64 0,.int .i64 0,.int .i64 0,.int .i64 0,.int .i64 0,.slice none 0 0]) 6 64 Tryz.underlying30 xX rfl (by decide) (by decide) B _ T.length (fP T) rfl HM2x.out.rs (by omega) HM2x.out.base W1.heap.size 1 (fI (s,.slice ad s.c.length cp)) rfl rfl (sT NS) (xY _ rfl) ?_
    intro x1 W3 ho hg
    have HM3:=aA (HM2x.out.app ho hg)
    have NI'':=(hg.block _ (Array.getElem?_eq_some_iff.1 NI').1 (fun ee=>dD HM2x.out.rs NI' (by decide) ee.symm)).trans NI'
    obtain ⟨xa,xc,rfl⟩:=aR ho
    refine hK.out _ _ ⟨fun _=>HM3.out.held,HM3.out.bx⟩ ?_
    clear hK ho hg
    simp only [Act.put,List.setIfInBounds_toArray,List.set_cons_zero,List.set_cons_succ]
    refine eN (rs:=[15]) (by kernel_rfl) (by simp) (bI.cons rfl (fun K hK=>?_) bI.nil)
    refine mI rfl (.tmp 33) (.tmp 35) 31 3 rfl (.int .i64 0) 1 8 Tryz.underlying31 aC1 rfl (by decide) (by decide) B _ (ks.filter fun k=>!bX s.c (aK T k)).length ((ks.filter fun k=>!bX s.c (aK T k)).map fun k=>Value.int .i64 (k:Nat)) rfl HM3.out.rk hfl HM3.out.base W0.heap.size 1 [.int .i64 (T.length:Nat)] rfl rfl (sT NI'') (aC3 _) ?_
    intro x2 We ho2 hg2
    have HE:=aA (HM3.out.fin hg2)
    obtain ⟨ya,yc,rfl⟩:=aR ho2
    have HO2:=aA ho2
    refine hK.out _ _ ⟨fun _=>HE.out.1,HE.out.2.1⟩ ?_
    clear hK ho2 hg2
    simp only [Act.put,List.setIfInBounds_toArray,List.set_cons_zero,List.set_cons_succ]
    refine eN (rs:=[16]) (by kernel_rfl) (by simp) (bI.cons rfl (fun K hK=>?_) bI.nil)
    go_simp
    refine hK.out _ _ ⟨fun _=>HE.out.1,HE.out.2.1⟩ ?_
    clear hK
    refine eN (rs:=[17]) (by kernel_rfl) (by simp) (bI.cons rfl (fun K hK=>?_) bI.nil)
    go_simp
    refine hK.out _ _ ⟨fun _=>HE.out.1,HE.out.2.1⟩ ?_
    clear hK
    obtain ⟨q1,q2,q3,q4,q5,q6⟩:=HE.out.1.set2 HE.out.2.1 hne (.slice xa (T.length+1) xc)
    have Q6:=aA q6
    clear q6
    refine eN (rs:=[18]) (by kernel_rfl) (by simp) (bI.cons rfl (fun K hK=>?_) bI.nil)
    go_simp
    refine hK.out _ _ ⟨fun hx=>Bool.noConfusion (show true=false from hx),q5⟩ ?_
    clear hK
    refine eN (rs:=[19]) (by kernel_rfl) (by simp) (bI.cons rfl (fun K hK=>?_) bI.nil)
    go_simp
    refine hK.out _ _ ⟨fun hx=>Bool.noConfusion (show true=false from hx),q5⟩ ?_
    clear hK
    refine eN (rs:=[20]) (by kernel_rfl) (by simp) (bI.cons rfl (fun K hK=>?_) bI.nil)
    go_simp
    refine hK.out _ _ ⟨fun hx=>Bool.noConfusion (show true=false from hx),q5⟩ ?_
    clear hK
    refine eN (rs:=[21]) (by kernel_rfl) (by simp) (bI.cons rfl (fun K hK=>?_) bI.nil)
    go_simp
    refine hK.out _ _ ⟨fun hx=>Bool.noConfusion (show true=false from hx),Q6.out _⟩ ?_
    clear hK
    refine aBy (by kernel_rfl) ?_ _
    refine oU ?_
    have HT:=aA (bC.two (p:=(s,.slice ad s.c.length cp)) HS2.out HE.out.2.2.2 (HM2.out.clause HC1.out (by decide) (by decide)) HE.out.2.2.1 (ks':=cN T ks s.c) (by unfold cN cZ;rw [List.length_append,List.map_append];exact HO2.out))
    go_wp2_with fail
    go_meet
    case rel=>exact ⟨_,_,HT.out.1,(HM2.out.mono (by decide) (Nat.le_refl _)).trans HT.out.2⟩
  case rest=>
   obtain ⟨vs',vk',hS3,hM3⟩:=hcut
   obtain ⟨va',vc',rfl⟩:=aR hS3.st.row
   obtain ⟨ka',kc',rfl⟩:=hS3.kp.shape
   have r3:=(hM3.boxed HX1.out (by decide)).cell
   obtain ⟨_,_,e2,e3,_⟩:=hS3.cells
   have hTk:(T++[(s,Value.slice ad s.c.length cp)]).length=T.length+1:=by simp
   have HS3:=aA hS3
   have HM3:=aA hM3
   have CF:=aA (fun (wx:World) (hwx:∃d,wx=wc.drewN d)=>(aU5 B va' ka' _ _ vc' kc' _ T.length (cN T ks s.c) wx (by obtain ⟨d,rfl⟩:=hwx;exact hS3.st.kept (S:=[]) (bO (aJ ⟨d,rfl⟩)) (by simp) (by simp) (by simp)) (by obtain ⟨d,rfl⟩:=hwx;exact aZ hS3.kp (aJ ⟨d,rfl⟩) (Nat.le_refl _))).mono (R':=fun e w2=>∃bs ba bo,e=.returned (.func (.func 91) #[] #[.pointer (some ⟨bs,0,none⟩),.pointer (some ⟨ba,0,none⟩),.pointer (some ⟨bo,0,none⟩)])∧pE B w2 bs ba bo (.slice va' (T++[(s,Value.slice ad s.c.length cp)]).length vc') (.slice ka' (cN T ks s.c).length kc') (T++[(s,.slice ad s.c.length cp)]) T.length (cN T ks s.c)∧Below wc.heap.size wc w2) (fun e w2 he=>by
    obtain ⟨d,rfl⟩:=hwx
    obtain ⟨bs,ba,bo,h1,h2,h3⟩:=he
    exact ⟨bs,ba,bo,h1,h2,(aJ ⟨d,rfl⟩).trans h3⟩))
   generalize htn:(T++[(s,Value.slice ad s.c.length cp)]).length=tn at CF e2
   generalize hkn:(cN T ks s.c).length=kn' at CF e3
   have HTN:=aA htn
   have HKN:=aA hkn
   clear hS3 hM3 hTk htn hkn HS2 HM2 HNB d2 r2
   go_upto_region 4 with (fail)
   refine rF ?_
   go_region_held3 (fun w'=>w'.cell? ⟨w.heap.size,0,none⟩=some (.pointer (some ⟨sb,0,none⟩))∧w'.cell? ⟨sb,2,none⟩=some (.slice va' tn vc')∧w'.cell? ⟨sb,3,none⟩=some (.slice ka' kn' kc')) (go_keep)
    (first
     | (refine aAz (by rfl) 58 _ _ (by rfl) (enters_of Tryz.func58 (by kernel_rfl) rfl) _ (by rfl) (aB CF _ ⟨1,rfl⟩) ?_;rintro e w2 ⟨bs,ba,bo,rfl,hf2,hb2⟩;refine ⟨_,rfl,?_⟩;have c2:=Below.at' hb2 (Nat.le_refl _) r3;have c3:=Below.at' hb2 (Nat.le_refl _) e2;have c4:=Below.at' hb2 (Nat.le_refl _) e3;have HF2:=aA hf2;have HB2:=aA hb2;clear hf2 hb2))
   refine oU ?_
   go_wp2_with fail
   have hfol:=HF2.out
   have hS2:=HS3.out.below HB2.out
   have hbx2:jM sb w.heap.size w2:=jM.below (HM3.out.boxed HX1.out (by decide)) HB2.out
   have hmw:Mv mU B w w2:=(Mv.of_below HB1.out).trans ((HM3.out.mono (by decide) (Nat.le_refl _)).trans (Mv.of_below HB2.out))
   have hTn:∀p∈T++[(s,Value.slice ad s.c.length cp)],jH p.1.c:=fun p hp=>by
    rcases List.mem_append.1 hp with hp | hp
    ·exact jI (HIT.out p hp)
    ·simp at hp
     subst hp
     exact jI HIC.out
   have hko:∀b∈cN T ks s.c,b < (T++[(s,Value.slice ad s.c.length cp)]).length:=fun b hb=>by
    simp [cN] at hb
    simp
    rcases hb with ⟨hb,_⟩ | rfl
    ·have:=HKS.out b hb
     omega
    ·omega
   have hkl2:(cN T ks s.c).length≤1000000:=by
    have:=List.length_filter_le (fun k=>!bX s.c (aK T k)) ks
    simp [cN]
    omega
   have hww2:w.heap.size≤w2.heap.size:=hmw.size
   rw [HTN.out,HKN.out] at hS2
   clear HF2 HS3 HM3 HB2 c2 c3 c4 CF r3 e2 e3
   have hgv:∀o o',rQ Fence.wide (8 - 1) Tryz.prog 91 #[.pointer (some ⟨bs,0,none⟩),.pointer (some ⟨ba,0,none⟩),.pointer (some ⟨bo,0,none⟩)] (rL B) bM (jG (T++[(s,.slice ad s.c.length cp)]) T.length (cN T ks s.c)) ((w2.alloc o).alloc o'):=by
    intro o o'
    have hbb:Below w2.heap.size w2 ((w2.alloc o).alloc o'):=((Below.refl w2.heap.size w2).alloc (Nat.le_refl _) o).alloc (by simp) o'
    have hk:=hfol.kept (bO (S:=bM) hbb)
    have hB3:B≤((w2.alloc o).alloc o').heap.size:=Nat.le_trans (Nat.le_trans hB hww2) hbb.size
    have hlt:T.length < (T++[(s,Value.slice ad s.c.length cp)]).length:=by simp
    generalize (w2.alloc o).alloc o'=wy at hk hB3 ⊢
    exact aU6 (8 - 1) bs ba bo B _ _ _ T.length _ (by omega) hTn hlt hko hkl2 wy hB3 hk
   refine (wpIn_wide (n:=8)).1 ?_
   refine xR (F:=Fence.wide) (n:=8) (w:=w2) rfl (by omega) (gf:=91) (lb:=#[.pointer (some ⟨bs,0,none⟩),.pointer (some ⟨ba,0,none⟩),.pointer (some ⟨bo,0,none⟩)]) rfl trivial (enters_of Tryz.func91 (by kernel_rfl) rfl)
    (Enc:=rL B) (S:=bM) (L:=jG (T++[(s,.slice ad s.c.length cp)]) T.length (cN T ks s.c))
    ?hseq
    (fun x args W h=>by obtain ⟨ad,cp,rfl,_⟩:=h;rfl)
    (lT B sb hp w.heap.size (.slice va' tn vc') (.slice ka' kn' kc') (T++[(s,.slice ad s.c.length cp)]) (cN T ks s.c) F L n big w)
    (fun _ _ _=>False) (lT.own hww2) (fun c k X Y row h _ _=>h) ⟨⟨v,L,n,big,hS2,by simp [bR]⟩,hbx2,hmw⟩
    (fun x a' W'=>∃bx ad' cp',a' = {tmps:=#[.pointer (some ⟨sb,0,none⟩),.agg #[.int .i64 s.r,.int .i64 s.a,.int .i64 s.b,.int .i64 s.i,.int .i64 s.j,.slice ad s.c.length cp],.pointer (some ⟨w.heap.size,0,none⟩),.pointer (some ⟨w.heap.size+1,0,none⟩),.int .i64 (T.length:Nat),.pointer (some ⟨bx,0,none⟩),.int .i64 x.2,u7,u8,u9,u10,u11,u12,u13,u14,u15,u16,u17,u18,u19,u20,u21,u22,u23,u24,u25,u26,u27,u28,u29,u30,u31,u32,u33,u34,u35,u36,u37,u38,u39,u40,.pointer (some ⟨sb,0,none⟩),.pointer (some ⟨sb,0,none⟩),.pointer (some ⟨sb,2,none⟩),.slice va' tn vc',.int .i64 (T.length:Nat),.pointer (some ⟨sb,0,none⟩),.pointer (some ⟨sb,0,none⟩),.pointer (some ⟨sb,3,none⟩),.slice ka' kn' kc',.func (.func 91) #[] #[.pointer (some ⟨bs,0,none⟩),.pointer (some ⟨ba,0,none⟩),.pointer (some ⟨bo,0,none⟩)],.agg #[.int .i64 x.1.r,.int .i64 x.1.a,.int .i64 x.1.b,.int .i64 x.1.i,.int .i64 x.1.j,.slice ad' x.1.c.length cp'],.int .i64 x.2,u53,u54,u55,u56,u57,u58,u59,u60,u61,u62,u63,u64,u65,u66],defers:=[]}∧qH B W' bx x.1 ad' cp') ?hAx ?assign ?body ?done ?stop
   case hseq=>exact hgv
   case stop=>
    rintro c k W h _
    exact h.elim
   case hAx=>
    intro x a'
    refine rN ?_
    rintro _ X Y ⟨bx,ad,cp,h1,h2⟩ k
    exact ⟨bx,ad,cp,h1,h2.kept k⟩
   case assign=>
    rintro l2 k x args Wr K hx hI ⟨ad',cp',rfl,hcl⟩ hK
    have HC:=aA hcl
    have HI:=aA hI
    clear hcl hI
    gi_wp2
    have hbA:Below Wr.heap.size Wr (Wr.alloc (.cells #[.int .i64 x.1.r,.int .i64 x.1.a,.int .i64 x.1.b,.int .i64 x.1.i,.int .i64 x.1.j,.slice ad' x.1.c.length cp'] 54)):=(Below.refl _ Wr).alloc (Nat.le_refl _) _
    exact hK _ _ (Mv.of_below (S:=[]) (B:=0) hbA).keepsFrom (bO hbA) (nM (lT.own (N:=w2.heap.size) hww2) HI.out hbA) ⟨Wr.heap.size,ad',cp',rfl,World.alloc_heap_new Wr _,HC.out.below hbA⟩
   case done=>
    rintro Wd hI hK
    rw [←HFE.out] at hI
    obtain ⟨⟨v',L',n',b',h1,h2⟩,h3,h4⟩:=hI
    rw [List.take_length] at h2
    refine uY (N:=w2.heap.size) (I:=fun W'=>bC B W' sb hp v' (.slice va' tn vc') (.slice ka' kn' kc') L' n' (T++[(s,.slice ad s.c.length cp)]) (cN T ks s.c) b'∧Mv mU B w W') rfl ?_ (fun _ w' h=>⟨⟨_,rfl⟩,v',_,_,L',n',b',h.1,h2,h.2⟩) [w2.heap.size] Wd ⟨h1,h4⟩ (fun D hD=>by simp at hD;subst hD;exact ⟨Nat.le_refl _,hK⟩) (by simp)
    rintro u X Y row ⟨g1,g2⟩ hg hr
    exact ⟨g1.kps (cG.grown hg (fun r e=>(hr r e).2)),aIi hww2 u X Y row g2 hg hr⟩
   case body=>
    rintro l2 k ⟨xs,e⟩ a' Wr hl2 hx ⟨⟨v',L',n',b',hS,hTk⟩,hbr,hmr⟩ ⟨bx,ad',cp',rfl,hbx⟩
    have hx':F[k]?=some (xs,e):=by rw [HFE.out];exact hx
    obtain ⟨hwide,hfit⟩:=HF.out _ (List.mem_of_getElem? hx')
    have hll:=bR.len _ hTk
    have hkF:(F.take k).length≤F.length:=List.length_take_le' _ _
    have hBr:B≤Wr.heap.size:=Nat.le_trans hB hmr.size
    obtain ⟨q0,q1,q2,q3,q4,q5⟩:=hbx.cells
    have rb:=Boxed.cell hbr
    obtain ⟨_,_,_,_,s4⟩:=hS.cells
    have f4:=hS.frz 4
    have hbig:∀Wb,Below Wr.heap.size Wr Wb→(e≠0∨dQ xs.c=false)→Wb.cell? ⟨w.heap.size,0,none⟩=some (.pointer (some ⟨sb,0,none⟩))∧Wb.cell? ⟨sb,4,none⟩=some (.bool b')∧Wb.frozen? ⟨sb,4,none⟩=false∧KeepsFrom w2.heap.size Wr (Wb.setCell ⟨sb,4,none⟩ (.bool true))∧cG bM Wr (Wb.setCell ⟨sb,4,none⟩ (.bool true))∧lT B sb hp w.heap.size (.slice va' tn vc') (.slice ka' kn' kc') (T++[(s,.slice ad s.c.length cp)]) (cN T ks s.c) F L n big w (k+1) (Wb.setCell ⟨sb,4,none⟩ (.bool true)):=by
     intro Wb hb hc
     have hSb:=hS.below hb
     obtain ⟨h1,h2⟩:=hSb.bigged true
     have hm:Mv bM B Wr (Wb.setCell ⟨sb,4,none⟩ (.bool true)):=(Mv.of_below hb).trans (h2.mono (by decide) (Nat.le_refl _))
     refine ⟨(hbr.below hb).cell,hSb.cells.2.2.2.2,hSb.frz 4,hm.keepsFrom,hm.kps,lT.next hx' hTk ?_ hbr hmr h1 hm⟩
     unfold bR
     rw [if_pos hc]
     exact ⟨rfl,rfl,rfl⟩
    have HBIG:=aA hbig
    have HS:=aA hS
    have HBX:=aA hbx
    have HTK:=aA hTk
    have HBR:=aA hbr
    have HMR:=aA hmr
    have HXX:=aA hx'
    have HFIT:=aA hfit
    have CFit:=aA (tY ad' cp' xs.c Wr (hbx.2.wide hwide))
    clear hbig hS hbx hTk hbr hmr hx hx' hfit hwide hfol hS2 hbx2 hmw hTn hko hkl2 hgv
    by_cases he:e=0
    ·subst he
     clear s4 f4
     gi_wp2
     refine ⟨trivial,(CallsIn.inRound l2 (callsIn_wide.2 (aB CFit))).mono ?_⟩
     rintro e W4 ⟨rfl,hb4⟩
     have r4:=Below.at' hb4 (Nat.le_refl _) rb
     have p0:=Below.at' hb4 (Nat.le_refl _) q0
     have p1:=Below.at' hb4 (Nat.le_refl _) q1
     have p2:=Below.at' hb4 (Nat.le_refl _) q2
     have p3:=Below.at' hb4 (Nat.le_refl _) q3
     have p4:=Below.at' hb4 (Nat.le_refl _) q4
     have p5:=Below.at' hb4 (Nat.le_refl _) q5
     have HB4:=aA hb4
     clear hb4 q0 q1 q2 q3 q4 q5 rb CFit
     cases hfl:dQ xs.c
     ·obtain ⟨_,d2,d3,g4,g5,g6⟩:=HBIG.out W4 HB4.out (Or.inr hfl)
      have G:=aA (show _∧_∧_ from ⟨g4,g5,g6⟩)
      clear g4 g5 g6
      gi_wp2
      exact G.out
     ·have hn:=jI (HFIT.out (by first | exact rfl | trivial) hfl)
      have HN:=aA hn
      clear hn
      cases hid:oE xs.c
      ·have CW:=aA (aHf B sb hp v' _ _ L' n' _ _ b' xs ad' cp' W4 (HS.out.below HB4.out) (HBX.out.2.below HB4.out) HN.out hid (by omega) (by omega) (Nat.le_trans hBr HB4.out.size))
       unfold nN at CW
       gi_wp2
       refine ⟨trivial,(CallsIn.inRound l2 (callsIn_wide.2 (aB CW))).mono ?_⟩
       rintro e W5 ⟨⟨u,rfl⟩,v5,hS5,hm5⟩
       have hm:Mv bM B Wr W5:=(Mv.of_below HB4.out).trans hm5
       have G:=aA (show KeepsFrom w2.heap.size Wr W5∧cG bM Wr W5∧lT B sb hp w.heap.size (.slice va' tn vc') (.slice ka' kn' kc') (T++[(s,.slice ad s.c.length cp)]) (cN T ks s.c) F L n big w (k+1) W5 from ⟨hm.keepsFrom,hm.kps,lT.next HXX.out HTK.out (by
        unfold bR
        rw [if_neg (by simp [hfl]),if_neg (by simp [hid])]
        exact ⟨ad',cp',rfl,rfl,rfl⟩) HBR.out HMR.out hS5 hm⟩)
       clear hm hS5 hm5
       gi_wp2
       exact G.out
      ·have CW:=aA (aHe B sb xs ad' cp' W4 (HBX.out.2.below HB4.out) HN.out hid)
       unfold nN at CW
       gi_wp2
       refine ⟨trivial,(CallsIn.inRound l2 (callsIn_wide.2 (aB CW))).mono ?_⟩
       rintro e W5 ⟨⟨u,rfl⟩,hb5⟩
       have hb:Below Wr.heap.size Wr W5:=HB4.out.trans (hb5.mono HB4.out.size)
       have hm:Mv bM B Wr W5:=Mv.of_below hb
       have G:=aA (show KeepsFrom w2.heap.size Wr W5∧cG bM Wr W5∧lT B sb hp w.heap.size (.slice va' tn vc') (.slice ka' kn' kc') (T++[(s,.slice ad s.c.length cp)]) (cN T ks s.c) F L n big w (k+1) W5 from ⟨hm.keepsFrom,hm.kps,lT.next HXX.out HTK.out (by
        unfold bR
        rw [if_neg (by simp [hfl]),if_pos hid]
        exact ⟨rfl,rfl,rfl⟩) HBR.out HMR.out (HS.out.below hb) hm⟩)
       clear hm hb hb5
       gi_wp2
       exact G.out
    ·have he1:(e == 0)=false:=by simpa using he
     have he2:(e != 0)=true:=by simpa using he
     obtain ⟨_,_,_,g4,g5,g6⟩:=HBIG.out Wr (Below.refl _ _) (Or.inl he)
     have G:=aA (show _∧_∧_ from ⟨g4,g5,g6⟩)
     clear g4 g5 g6
     gi_wp2
     refine ⟨trivial,?_⟩
     gi_wp2
     exact G.out
end Go.Proofs.YtbddofieljiihaaGreatDoor
namespace Go.Proofs.YtbddofieljiihaaGreatDoor
open Go.RowKit Go.Shelf Go.WideMaps
set_option maxRecDepth 100000
def vD (x:Cd) (r a b i j:Nat):Prop:=x.r=r∧x.a=a∧x.b=b∧x.i=i∧x.j=j
inductive cW (lim:Nat) (Q:Nat→List (aG×Value)→List Nat→Bool→Prop):List Cd→Nat→List (aG×Value)→List Nat→Bool→Prop
 | sat {L:List Cd} {n:Nat} {T:List (aG×Value)} {ks:List Nat} (hcv:∀x∈L,∀k∈ks,kQ (aK T k) x.c) (h:jL (fun c=>ks.any fun k=>bX (aK T k) c) L.length L=none) (hq:Q 2 T ks false):cW lim Q L n T ks false
 | unsat {L L':List Cd} {n:Nat} {T:List (aG×Value)} {ks:List Nat} {b:Bool} {x:Cd} (s:aG) (hs:vD x s.r s.a s.b s.i s.j∧x.c=s.c) (hcv:∀x∈L,∀k∈ks,kQ (aK T k) x.c) (h:jL (fun c=>ks.any fun k=>bX (aK T k) c) L.length L=some (x,L')) (hc:s.c=[]) (hq:Q 1 (T++[(s,.slice x.ad x.ln x.cp)]) ks b):cW lim Q L n T ks b
 | out {L L':List Cd} {n:Nat} {T:List (aG×Value)} {ks:List Nat} {b:Bool} {x:Cd} (hcv:∀x∈L,∀k∈ks,kQ (aK T k) x.c) (h:jL (fun c=>ks.any fun k=>bX (aK T k) c) L.length L=some (x,L')) (hc:x.c≠[]) (hl:T.length=lim) (hq:Q 3 T ks b):cW lim Q L n T ks b
 | take {L L':List Cd} {n:Nat} {T:List (aG×Value)} {ks:List Nat} {b:Bool} {x:Cd} (s:aG) (hs:vD x s.r s.a s.b s.i s.j∧x.c=s.c) (hcv:∀x∈L,∀k∈ks,kQ (aK T k) x.c) (h:jL (fun c=>ks.any fun k=>bX (aK T k) c) L.length L=some (x,L')) (hc:s.c≠[]) (hl:T.length≠lim) (hdv:∀k∈ks,kQ s.c (aK T k))
  (hF:∀y∈jG (T++[(s,.slice x.ad x.ln x.cp)]) T.length (cN T ks s.c),rS y.1.c∧(y.2=0→dQ y.1.c=true→bG y.1.c=true))
  (hLF:L'.length+(jG (T++[(s,.slice x.ad x.ln x.cp)]) T.length (cN T ks s.c)).length≤1000000) (hnF:n+(jG (T++[(s,.slice x.ad x.ln x.cp)]) T.length (cN T ks s.c)).length≤1000000)
  (next:∀L2 n2 b2,bR (jG (T++[(s,.slice x.ad x.ln x.cp)]) T.length (cN T ks s.c)) L' n b L2 n2 b2→cW lim Q L2 n2 (T++[(s,.slice x.ad x.ln x.cp)]) (cN T ks s.c) b2):cW lim Q L n T ks b
theorem bR.mem:∀(F:List (aG×Int)) {L L1:List Cd} {n n1:Nat} {b b1:Bool},bR F L n b L1 n1 b1→∀y∈L1,y∈L∨∃x∈F,x.2=0∧dQ x.1.c=true∧y.c=x.1.c
 | [],L,L1,n,n1,b,b1,h,y,hy=>by
  obtain ⟨rfl,rfl,rfl⟩:=h
  exact Or.inl hy
 | x :: F,L,L1,n,n1,b,b1,h,y,hy=>by
  unfold bR at h
  split at h
  ·rcases bR.mem F h y hy with h1 | ⟨z,h1,h2⟩
   ·exact Or.inl h1
   ·exact Or.inr ⟨z,List.mem_cons_of_mem _ h1,h2⟩
  ·rename_i hc
   have hc1:x.2=0:=Classical.byContradiction fun e=>hc (Or.inl e)
   have hc2:dQ x.1.c=true:=by
    cases hf:dQ x.1.c
    ·exact absurd (Or.inr hf) hc
    ·rfl
   split at h
   ·rcases bR.mem F h y hy with h1 | ⟨z,h1,h2⟩
    ·exact Or.inl h1
    ·exact Or.inr ⟨z,List.mem_cons_of_mem _ h1,h2⟩
   ·obtain ⟨ad,cp,h⟩:=h
    rcases bR.mem F h y hy with h1 | ⟨z,h1,h2⟩
    ·rcases List.mem_append.1 (aBr _ _ _ _ h1) with h3 | h3
     ·exact Or.inl h3
     ·simp at h3
      subst h3
      exact Or.inr ⟨x,by simp,hc1,hc2,rfl⟩
    ·exact Or.inr ⟨z,List.mem_cons_of_mem _ h1,h2⟩
theorem aC4 {cov:List Lt→Bool}:∀(f:Nat) {L L':List Cd} {x:Cd},jL cov f L=some (x,L')→x∈L∧(∀y∈L',y∈L)∧cov x.c=false
 | 0,L,L',x,h=>by cases h
 | f+1,[],L',x,h=>by cases h
 | f+1,z :: r,L',x,h=>by
  unfold jL at h
  simp only at h
  split at h
  ·obtain ⟨h1,h2,h3⟩:=aC4 f h
   exact ⟨vB h1,fun y hy=>vB (h2 y hy),h3⟩
  ·rename_i hc
   cases h
   exact ⟨by simp,fun y hy=>vB hy,by simpa using hc⟩
theorem aVt {T:List (aG×Value)} {ks:List Nat} {c:List Lt} (h:∀k∈ks,k < T.length) (p:aG×Value):∀k∈cN T ks c,k < (T++[p]).length:=fun k hk=>by
 simp [cN] at hk
 simp
 rcases hk with ⟨hk,_⟩ | rfl
 ·have:=h k hk
  omega
 ·omega
theorem aVu (T:List (aG×Value)) (ks:List Nat) (c:List Lt):(cN T ks c).length≤ks.length+1:=by
 have:=List.length_filter_le (fun k=>!bX c (aK T k)) ks
 simp [cN]
 exact this
structure xZ (L:List Cd) (n:Nat) (T:List (aG×Value)) (ks:List Nat):Prop where
 l:∀x∈L,bG x.c=true
 t:∀p∈T,bG p.1.c=true
 k:∀k∈ks,k < T.length
 kl:ks.length≤T.length
 ll:L.length≤1000000
 nn:n≤1000000
theorem xZ.take {L L' L2:List Cd} {n n2:Nat} {T:List (aG×Value)} {ks:List Nat} {b b2:Bool} {x:Cd} {cov:List Lt→Bool} {f:Nat} (h:xZ L n T ks) (s:aG) (v:Value) (hs:x.c=s.c) (hn:jL cov f L=some (x,L')) {F:List (aG×Int)} (hF:∀y∈F,rS y.1.c∧(y.2=0→dQ y.1.c=true→bG y.1.c=true)) (hLF:L'.length+F.length≤1000000) (hnF:n+F.length≤1000000) (ht:bR F L' n b L2 n2 b2):xZ L2 n2 (T++[(s,v)]) (cN T ks s.c):=by
 obtain ⟨h1,h2,_⟩:=aC4 _ hn
 have hlen:=ht.len
 refine ⟨fun y hy=>?_,fun p hp=>?_,aVt h.k _,?_,by omega,by omega⟩
 ·rcases ht.mem _ y hy with h3 | ⟨z,h3,h4,h5,h6⟩
  ·exact h.l y (h2 y h3)
  ·rw [h6]
   exact (hF z h3).2 h4 h5
 ·rcases List.mem_append.1 hp with hp | hp
  ·exact h.t p hp
  ·simp at hp
   subst hp
   show bG s.c=true
   rw [←hs]
   exact h.l x h1
 ·have:=aVu T ks s.c
  have:=h.kl
  simp
  omega
end Go.Proofs.YtbddofieljiihaaGreatDoor
