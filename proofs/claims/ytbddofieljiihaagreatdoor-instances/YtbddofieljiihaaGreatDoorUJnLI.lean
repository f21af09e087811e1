/- The program: what holds while the parts of two places are joined. The program: the classes of two places are made one, and so on with their parts. The program: how great what a place was made is: pure words, and what holds on the way. -/
import Derived.Test.YtbddofieljiihaaGreatDoorUAppI
namespace Go.Proofs.YtbddofieljiihaaGreatDoor
open Go.RowKit Go.Shelf Go.WideMaps
set_option maxRecDepth 100000
theorem oV (w:World) (x:Value) (t:TypeId):(w.alloc (.cells #[x] t)).cell? ⟨w.heap.size,0,none⟩=some x∧(w.alloc (.cells #[x] t)).frozen? ⟨w.heap.size,0,none⟩=false:=by
 have h:(w.alloc (.cells #[x] t)).heap[w.heap.size]?=some (.cells #[x] t):=by
  show (w.heap.push _)[w.heap.size]?=_
  simp
 constructor
 ·unfold World.cell?
  rw [h]
  rfl
 ·unfold World.frozen?
  rw [h]
  rfl
theorem aB4 (w:World) (x y z:Value) (t1 t2 t3:TypeId):∃W,W=((w.alloc (.cells #[x] t1)).alloc (.cells #[y] t2)).alloc (.cells #[z] t3)∧Below w.heap.size w W∧W.cell? ⟨w.heap.size,0,none⟩=some x∧W.frozen? ⟨w.heap.size,0,none⟩=false∧W.cell? ⟨w.heap.size+1,0,none⟩=some y∧W.cell? ⟨w.heap.size+1+1,0,none⟩=some z∧W.heap.size=w.heap.size+3:=by
 refine ⟨_,rfl,(((Below.refl _ _).alloc (Nat.le_refl _) _).alloc (by simp) _).alloc (by simp;omega) _,?_,?_,?_,?_,by simp⟩
 ·have h1:=(oV w x t1).1
  have h2:=Below.at' ((Below.refl _ (w.alloc (.cells #[x] t1))).alloc (Nat.le_refl _) (.cells #[y] t2)) (Nat.le_refl _) h1
  exact Below.at' ((Below.refl _ ((w.alloc (.cells #[x] t1)).alloc (.cells #[y] t2))).alloc (Nat.le_refl _) (.cells #[z] t3)) (Nat.le_refl _) h2
 ·have hb:Below (w.alloc (.cells #[x] t1)).heap.size (w.alloc (.cells #[x] t1)) (((w.alloc (.cells #[x] t1)).alloc (.cells #[y] t2)).alloc (.cells #[z] t3)):=((Below.refl _ _).alloc (Nat.le_refl _) _).alloc (by simp) _
  rw [hb.frozen (p:=⟨w.heap.size,0,none⟩) (by simp)]
  exact (oV w x t1).2
 ·have h1:=(oV (w.alloc (.cells #[x] t1)) y t2).1
  rw [World.size_alloc] at h1
  exact Below.at' ((Below.refl _ ((w.alloc (.cells #[x] t1)).alloc (.cells #[y] t2))).alloc (Nat.le_refl _) (.cells #[z] t3)) (Nat.le_refl _) h1
 ·have h1:=(oV ((w.alloc (.cells #[x] t1)).alloc (.cells #[y] t2)) z t3).1
  rw [World.size_alloc,World.size_alloc] at h1
  exact h1
theorem bA.ends {w:World} {B tb:Nat} {vn ve vl vs vm:Value} {L:List Nd} {F:List Nat} {S:List Int} (h:bA w B tb vn ve vl vs vm L F S) (h0:0 < L.length):∃ge ce,ve=.slice (some ⟨ge,0,none⟩) L.length ce∧∀p,p < L.length→w.cell? ⟨ge,p,none⟩=some (.int .i64 (p+aF (L.drop p) 1)):=by
 obtain ⟨a,c,e,hc⟩:=aA7 h.re (fM L)
 obtain ⟨g,rfl,_⟩:=hc 0 (by rw [fM];exact h0)
 refine ⟨g,c,e,fun p hp=>?_⟩
 obtain ⟨g',hg,h1⟩:=hc p (by rw [fM];exact hp)
 simp at hg
 subst hg
 rw [h1]
 have:=sE L p hp
 rw [List.getElem?_eq_getElem (by rw [fM];exact hp)] at this
 simp at this
 rw [this]
 simp
theorem jV.of {w:World} {B tb:Nat} {vn vl vs vm:Value} {L:List Nd} {F:List Nat} {S:List Int} {ba bt ge ce a:Nat} (h:bA w B tb vn (.slice (some ⟨ge,0,none⟩) L.length ce) vl vs vm L F S) (h0:0 < L.length) (ca:w.cell? ⟨ba,0,none⟩=some (.int .i64 a)) (ct:w.cell? ⟨bt,0,none⟩=some (.pointer (some ⟨tb,0,none⟩))):jV w ba bt tb ge L a:=by
 obtain ⟨g,c,e,he⟩:=h.ends h0
 simp at e
 obtain ⟨rfl,rfl⟩:=e
 exact ⟨ca,ct,⟨_,h.c1⟩,he⟩
theorem aB5 {ks:List Nat} {w w':World} (h:Below w.heap.size w w') (hk:∀k∈ks,k < w.heap.size):gE ks w w':=fun k hm=>h.block k (hk k hm)
structure JC (L:List Nd) (rt:Nat→Nat) (a b:Nat) (Bs Q:Nat→Nat→Prop):Prop where
 sound:∀i j,rt i=rt j→Cl (aE L) Bs i j
 ab:Cl (aE L) Bs a b
 mod:dE (aE L) (fun i j=>rt i=rt j) (rA Q a b)
def kL (L:List Nd) (rb k:Nat):Nat:=rb+1+aF (L.drop (rb+1)) k
theorem aRy:∀(m:Nat) (s:List Nd) (b k:Nat),k < m→(gK s m b)[k]?=some (b+aF s k):=by
 intro m
 induction m with
 | zero=>intro s b k h;omega
 | succ m ih=>
  intro s b k h
  rw [lC]
  cases k with
  | zero=>simp
  | succ k=>
   rw [List.getElem?_cons_succ,ih _ _ k (by omega),show k+1=1+k by omega,qY]
   simp
   omega
theorem aB6 {L:List Nd} {p:Nat} {n:Nd} (h:L[p]?=some n) {k:Nat} (hk:k < aX n):((aE L).ch p)[k]?=some (kL L p k):=by
 rw [kE h,aRy _ _ _ _ hk]
 rfl
theorem aFy {L:List Nd} {p:Nat} {n:Nd} (h:L[p]?=some n):((aE L).ch p).length=aX n:=by rw [kE h,aA3]
theorem aFz {L:List Nd} (hL:eA L) {p:Nat} {n:Nd} (h:L[p]?=some n) {k:Nat} (hk:k < aX n):kL L p k < L.length∧kL L p (k+1)=kL L p k+aF (L.drop (kL L p k)) 1:=by
 obtain ⟨h1,h2⟩:=aFw (hL p n h) hk
 rw [List.length_drop] at h1
 rw [List.drop_drop] at h2
 unfold kL
 refine ⟨by omega,?_⟩
 rw [h2]
 omega
theorem aB7 {L:List Nd} (hL:eA L) {p:Nat} {n:Nd} (h:L[p]?=some n):∀x∈(aE L).ch p,x < L.length:=by
 intro x hx
 obtain ⟨k,hk,rfl⟩:=List.getElem_of_mem hx
 have hk':k < aX n:=by rw [←aFy h];exact hk
 have:=aB6 h hk'
 rw [List.getElem?_eq_getElem hk] at this
 simp at this
 rw [this]
 exact (aFz hL h hk').1
structure uK (w:World) (B tb gl cl:Nat) (vn ve vs vm:Value) (L:List Nd) (F0:List Nat) (S:List Int) (rt aY:Nat→Nat) (a b ra rb ob N0:Nat) (C pre:List Nat) (W:World):Prop where
 big:N0≤W.heap.size
 st:∃F' rt' d',bA W B tb vn ve (.slice (some ⟨gl,0,none⟩) L.length cl) vs vm L F' S∧eZ F' rt' d'∧iJ L rt'∧lD F'≤lD F0∧(∀i j,aY i=aY j→rt' i=rt' j)∧
  (pre <+: C→∀Bs Q,JC L rt a b Bs Q→(∀i j,rt' i=rt' j→Cl (aE L) Bs i j)∧dE (aE L) (fun i j=>rt' i=rt' j) (nD (aE L) Q ra rb pre.length))
 far:w.grownBy W (some gl)
 x3:W.cell? ⟨w.heap.size,0,none⟩=some (.pointer (some ⟨tb,0,none⟩))
 x6:W.cell? ⟨w.heap.size+1,0,none⟩=some (.bool false)
 f6:W.frozen? ⟨w.heap.size+1,0,none⟩=false
 o0:W.cell? ⟨ob,0,none⟩=some (.int .i64 (kL L rb pre.length))
 of:W.frozen? ⟨ob,0,none⟩=false
structure xE (w:World) (B tb gl cl:Nat) (vn ve vs vm:Value) (L:List Nd) (F0:List Nat) (S:List Int) (rt aY:Nat→Nat) (a b:Nat) (C:List Nat) (c:Code) (pre:List Nat) (W:World):Prop where
 ret:c=.ret
 st:∃F' rt' d',bA W B tb vn ve (.slice (some ⟨gl,0,none⟩) L.length cl) vs vm L F' S∧eZ F' rt' d'∧iJ L rt'∧lD F'≤lD F0∧(∀i j,aY i=aY j→rt' i=rt' j)
 no:pre <+: C→∀Bs Q,JC L rt a b Bs Q→¬jS (aE L) (Cl (aE L) Bs)
 far:w.grownBy W (some gl)
 x6:W.cell? ⟨w.heap.size+1,0,none⟩=some (.bool false)
theorem mJ {w W W':World} {o row:Option Nat} (h:w.grownBy W o) (hg:W.grownBy W' row) (hr:∀r,row=some r→w.heap.size≤r):w.grownBy W' o:=
 ⟨hg.os.trans h.os,hg.tape.trans h.tape,hg.output.trans h.output,Nat.le_trans h.size hg.size,fun k hk ho=>by
  rw [hg.block k (Nat.lt_of_lt_of_le hk h.size) (fun e=>by have:=hr k e.symm;omega),h.block k hk ho]⟩
section
variable {w:World} {B tb gl cl:Nat} {vn ve vs vm:Value} {L:List Nd} {F0:List Nat} {S:List Int} {rt aY:Nat→Nat} {a b ra rb ob N N0:Nat} {C:List Nat}
theorem uK.own (hN:w.heap.size≤N):OwnFrom N (fun (pre:List (mK C)) W=>uK w B tb gl cl vn ve vs vm L F0 S rt aY a b ra rb ob N0 C (pre.map fun x=>x.1) W):=by
 intro pre W W' row h hg hr
 have hr':∀r,row=some r→∃o:Obj,W.heap[r]?=some o∧o.isCells=false:=fun r e=>(hr r e).2
 obtain ⟨F',rt',d',h1,h2⟩:=h.st
 exact ⟨Nat.le_trans h.big hg.size,⟨F',rt',d',h1.others hg hr',h2⟩,mJ h.far hg (fun r e=>by have:=(hr r e).1;omega),cell_kept h.x3 hg hr',cell_kept h.x6 hg hr',(frozen_kept h.x6 hg hr').trans h.f6,cell_kept h.o0 hg hr',(frozen_kept h.o0 hg hr').trans h.of⟩
theorem xE.own (hN:w.heap.size≤N) (c:Code):OwnFrom N (fun (pre:List (mK C)) W=>xE w B tb gl cl vn ve vs vm L F0 S rt aY a b C c (pre.map fun x=>x.1) W):=by
 intro pre W W' row h hg hr
 have hr':∀r,row=some r→∃o:Obj,W.heap[r]?=some o∧o.isCells=false:=fun r e=>(hr r e).2
 obtain ⟨F',rt',d',h1,h2⟩:=h.st
 exact ⟨h.ret,⟨F',rt',d',h1.others hg hr',h2⟩,h.no,mJ h.far hg (fun r e=>by have:=(hr r e).1;omega),cell_kept h.x6 hg hr'⟩
end
structure xF (w W:World) (tb gl ge ce ob:Nat) (L:List Nd) (o:Nat) (ks:List Nat) (B0:Nat) (W':World):Prop where
 x3:W'.cell? ⟨w.heap.size,0,none⟩=some (.pointer (some ⟨tb,0,none⟩))
 x6:W'.cell? ⟨w.heap.size+1,0,none⟩=some (.bool false)
 f6:W'.frozen? ⟨w.heap.size+1,0,none⟩=false
 o0:W'.cell? ⟨ob,0,none⟩=some (.int .i64 o)
 of:W'.frozen? ⟨ob,0,none⟩=false
 c1:W'.cell? ⟨tb,1,none⟩=some (.slice (some ⟨ge,0,none⟩) L.length ce)
 en:W'.cell? ⟨ge,o,none⟩=some (.int .i64 (o+aF (L.drop o) 1))
 kp:gE ks W W'
 kf:KeepsFrom B0 W W'
 far:w.grownBy W' (some gl)
theorem uL {W W':World} {g:Nat} (B0:Nat) (hg:W.grownBy W' (some g)) (hc:∃o:Obj,W.heap[g]?=some o∧o.isCells=true):KeepsFrom B0 W W':=by
 obtain ⟨x,h1,h2⟩:=hc
 exact ⟨hg.size,fun k o _ hk ho=>(hg.block k (Array.getElem?_eq_some_iff.1 hk).1 (fun e=>by simp at e;subst e;rw [h1] at hk;simp at hk;subst hk;rw [h2] at ho;cases ho)).trans hk⟩
theorem qB {W:World} {g:Nat} (B0:Nat) {u:Value} (hc:W.cell? ⟨g,0,none⟩=some u) (v:Value):KeepsFrom B0 W (W.setCell ⟨g,0,none⟩ v):=by
 refine uL B0 (cB W ⟨g,0,none⟩ v) ?_
 unfold World.cell? at hc
 simp only at hc
 split at hc
 ·rename_i c e f h
  exact ⟨_,h,rfl⟩
 ·cases hc
theorem aB8 {ks:List Nat} {W W':World} {g:Nat} (hg:W.grownBy W' (some g)) (hk:∀k∈ks,k < W.heap.size∧k≠g):gE ks W W':=fun k hm=>hg.block k (hk k hm).1 (fun e=>(hk k hm).2 (by simpa using e))
theorem xF.make {w W:World} {B tb gl cl ge ce:Nat} {vn vs vm:Value} {L:List Nd} {F0:List Nat} {S:List Int} {rt aY:Nat→Nat} {a b ra rb ob N0:Nat} {C pre:List Nat} {F':List Nat} (h:uK w B tb gl cl vn (.slice (some ⟨ge,0,none⟩) L.length ce) vs vm L F0 S rt aY a b ra rb ob N0 C pre W) (hT:bA W B tb vn (.slice (some ⟨ge,0,none⟩) L.length ce) (.slice (some ⟨gl,0,none⟩) L.length cl) vs vm L F' S)
  {W':World} (hg:W.grownBy W' (some gl)) (hob:w.heap.size≤ob) (hgl:gl < w.heap.size) (ho:kL L rb pre.length < L.length) {ks:List Nat} (hk:∀k∈ks,k < W.heap.size∧k≠gl) (B0:Nat):xF w W tb gl ge ce ob L (kL L rb pre.length) ks B0 W':=by
 obtain ⟨g,c,e,he⟩:=hT.ends (by omega)
 simp at e
 obtain ⟨rfl,rfl⟩:=e
 have hne:ge≠gl:=fun e=>hT.ab (by simp [Value.ownBlock,e])
 have htg:tb≠gl:=fun e=>dD hT.rl hT.box (by decide) (by simp [Value.ownBlock,e])
 have fz:∀{p:Addr} {v:Value},W.cell? p=some v→p.block≠gl→W'.frozen? p=W.frozen? p:=fun hc hn=>World.frozen?_of_block (hg.block _ (World.block_lt_of_cell? W _ hc) (fun e=>hn (by simpa using e)))
 exact ⟨hg.cell h.x3 (by simp;omega),hg.cell h.x6 (by simp;omega),(fz h.x6 (by simp;omega)).trans h.f6,hg.cell h.o0 (by simp;omega),(fz h.o0 (by simp;omega)).trans h.of,hg.cell hT.c1 (by simpa using htg),hg.cell (he _ ho) (by simpa using hne),aB8 hg hk,uL B0 hg (tW hT.rl rfl),h.far.trans hg⟩
theorem aG0 {α:Type} {C:List Nat} {f:α→Nat} {pre:List α} {x:α} (h:(pre++[x]).map f <+: C):pre.map f <+: C∧C[pre.length]?=some (f x):=by
 obtain ⟨r,rfl⟩:=h
 refine ⟨⟨[f x]++r,by simp⟩,?_⟩
 rw [List.map_append,List.append_assoc,List.getElem?_append_right (by simp)]
 simp
theorem jU.part {L:List Nd} {rt rt' rt'':Nat→Nat} {a b ra rb k p q:Nat} {ok:Bool} {Bs Q:Nat→Nat→Prop} (hc:JC L rt a b Bs Q) (hra:rt a=rt ra) (hrb:rt b=rt rb) (n1:(aE L).named ra) (n2:(aE L).named rb) (hs:∀i j,rt' i=rt' j→Cl (aE L) Bs i j) (hm:dE (aE L) (fun i j=>rt' i=rt' j) (nD (aE L) Q ra rb k)) (hp:((aE L).ch ra)[k]?=some p) (hq:((aE L).ch rb)[k]?=some q) (h:jU L rt' rt'' p q ok) :
  (ok=true→(∀i j,rt'' i=rt'' j→Cl (aE L) Bs i j)∧dE (aE L) (fun i j=>rt'' i=rt'' j) (nD (aE L) Q ra rb (k+1)))∧(ok=false→¬jS (aE L) (Cl (aE L) Bs)):=by
 have hcl:Cl (aE L) Bs p q:=Cl.down (k:=k) ((hc.sound _ _ hra.symm).trans (hc.ab.trans (hc.sound _ _ hrb))) n1 n2 hp hq
 obtain ⟨h1,h2⟩:=h Bs (nD (aE L) Q ra rb (k+1)) hs hcl (hm.part hp hq)
 exact ⟨fun e=>(h1 e).2,h2⟩
attribute [local go_sem] Oper.semAt_some
theorem rG {n:Nat} {fn:Func} {R:Ending→World→Prop} {a:Act} {w:World} {v:Value} (hd:a.defers=[]) (hr:(results fn a.tmps).run Tryz.prog w=.ok v w) (h:R (.returned v) w):bodyPostM Fence.wide n Tryz.prog fn R .ret a w:=by
 show LeavesInM Fence.wide n Tryz.prog fn a.tmps R a.defers .returning w
 rw [hd]
 exact ⟨v,hr,h⟩
theorem aRz {F:List Nat} {rt d:Nat→Nat} (h:eZ F rt d) {p:Nat} (hp:p < F.length):0 < lD F:=by
 unfold lD
 rw [List.countP_pos_iff]
 exact ⟨rt p,by simpa using h.rt_lt hp,by simp [h.rootAt hp]⟩
theorem bA.node {w:World} {B tb:Nat} {vn ve vl vs vm:Value} {L:List Nd} {F:List Nat} {S:List Int} (h:bA w B tb vn ve vl vs vm L F S) {p:Nat} {n:Nd} (hp:L[p]?=some n):∃gn cn,vn=.slice (some ⟨gn,0,none⟩) L.length cn∧w.cell? ⟨gn,p * 2,none⟩=some (.string n.1)∧w.cell? ⟨gn,p * 2+1,none⟩=some (.int .i64 n.2):=by
 obtain ⟨a,c,e,hc⟩:=aEk h.rn
 obtain ⟨g,rfl,h1,h2⟩:=hc p n hp
 exact ⟨g,c,e,h1,h2⟩
theorem bA.leader {w:World} {B tb:Nat} {vn ve vl vs vm:Value} {L:List Nd} {F:List Nat} {S:List Int} (h:bA w B tb vn ve vl vs vm L F S) {p:Nat} (hp:p < L.length):∃gl cl,vl=.slice (some ⟨gl,0,none⟩) L.length cl∧(∃u,w.cell? ⟨gl,p,none⟩=some u)∧w.frozen? ⟨gl,p,none⟩=false:=by
 obtain ⟨a,c,e,hc⟩:=aA7 h.rl h.lf
 have hlf:=h.lf
 obtain ⟨g,rfl,h1⟩:=hc p (by omega)
 subst e
 exact ⟨g,c,rfl,⟨_,h1⟩,h.rl.frozenAt p⟩
theorem aG1 {w w1 w2:World} {tb gl p:Nat} {v u u' vl t:Value} (hb2:Below w1.heap.size w1 w2) (x3:w1.cell? ⟨w.heap.size,0,none⟩=some t) (x6:w1.cell? ⟨w.heap.size+1,0,none⟩=some u) (f6:w1.frozen? ⟨w.heap.size+1,0,none⟩=false) (hu:w1.cell? ⟨gl,p,none⟩=some u') (hfz:w1.frozen? ⟨gl,p,none⟩=false) (c2:w1.cell? ⟨tb,2,none⟩=some vl) (hgl:gl < w.heap.size) :
  w2.cell? ⟨tb,2,none⟩=some vl∧w2.cell? ⟨w.heap.size,0,none⟩=some t∧(∃z,w2.cell? ⟨gl,p,none⟩=some z)∧w2.frozen? ⟨gl,p,none⟩=false∧(w2.setCell ⟨gl,p,none⟩ v).cell? ⟨w.heap.size,0,none⟩=some t∧(w2.setCell ⟨gl,p,none⟩ v).cell? ⟨w.heap.size+1,0,none⟩=some u∧(w2.setCell ⟨gl,p,none⟩ v).frozen? ⟨w.heap.size+1,0,none⟩=false:=by
 have k3:=Below.at' hb2 (Nat.le_refl _) x3
 have k6:=Below.at' hb2 (Nat.le_refl _) x6
 refine ⟨Below.at' hb2 (Nat.le_refl _) c2,k3,⟨_,Below.at' hb2 (Nat.le_refl _) hu⟩,(hb2.frozen (p:=⟨gl,p,none⟩) (World.block_lt_of_cell? _ _ hu)).trans hfz,fH k3 (by omega),fH k6 (by omega),?_⟩
 rw [World.frozen?_setCell]
 exact (hb2.frozen (p:=⟨w.heap.size+1,0,none⟩) (World.block_lt_of_cell? _ _ x6)).trans f6
theorem bA.lts {w:World} {B tb:Nat} {vn ve vl vs vm:Value} {L:List Nd} {F:List Nat} {S:List Int} (h:bA w B tb vn ve vl vs vm L F S) {g:Nat} (hg:w.heap.size≤g):some g≠some tb∧vn.ownBlock≠some g∧ve.ownBlock≠some g∧vl.ownBlock≠some g∧vs.ownBlock≠some g:=by
 refine ⟨fun e=>?_,fun e=>?_,fun e=>?_,fun e=>?_,fun e=>?_⟩
 ·have:=(Array.getElem?_eq_some_iff.1 h.box).1
  simp at e
  omega
 ·have:=(bY h.rn g e).2;omega
 ·have:=(bY h.re g e).2;omega
 ·have:=(bY h.rl g e).2;omega
 ·have:=(bY h.rs g e).2;omega
theorem bA.boxed {w w3:World} {B tb:Nat} {vn ve vl vs vm:Value} {L:List Nd} {F F0:List Nat} {S S0:List Int} (h:bA w3 B tb vn ve vl vs vm L F S) (h0:bA w B tb vn ve vl vs vm L F0 S0) {g:Nat} (hg:w.heap.size≤g) (j:Nat) (u:Value):bA (w3.setCell ⟨g,j,none⟩ u) B tb vn ve vl vs vm L F S:=by
 obtain ⟨e0,e1,e2,e3,e4⟩:=h0.lts hg
 exact h.grown (cB w3 ⟨g,j,none⟩ u) e0 (Or.inr e1) (Or.inr e2) (Or.inr e3) (Or.inr e4)
theorem uM {w w2 w3:World} {o:Option Nat} (hb:Below w.heap.size w w2) (hg:w2.grownBy w3 o):w.grownBy w3 o:=(fF hb).trans hg
theorem lI {w w3:World} {o:Option Nat} (hg:w.grownBy w3 o) {g:Nat} (hgw:w.heap.size≤g) (j:Nat) (u:Value):w.grownBy (w3.setCell ⟨g,j,none⟩ u) o:=by
 have h:=cB w3 ⟨g,j,none⟩ u
 exact ⟨h.os.trans hg.os,h.tape.trans hg.tape,h.output.trans hg.output,Nat.le_trans hg.size h.size,fun k hk ho=>by
  rw [h.block k (Nat.lt_of_lt_of_le hk hg.size) (fun e=>by simp at e;omega),hg.block k hk ho]⟩
structure JW (w:World) (B tb:Nat) (gn cn gl cl:Nat) (ve vs vm:Value) (L:List Nd) (F:List Nat) (S:List Int) (ra rb:Nat) (na nb:Nd) (wx:World):Prop where
 tm:bA wx B tb (.slice (some ⟨gn,0,none⟩) L.length cn) ve (.slice (some ⟨gl,0,none⟩) L.length cl) vs vm L F S
 far:w.grownBy wx (some gl)
 x3:wx.cell? ⟨w.heap.size,0,none⟩=some (.pointer (some ⟨tb,0,none⟩))
 x6:wx.cell? ⟨w.heap.size+1,0,none⟩=some (.bool false)
 f6:wx.frozen? ⟨w.heap.size+1,0,none⟩=false
 c0:wx.cell? ⟨tb,0,none⟩=some (.slice (some ⟨gn,0,none⟩) L.length cn)
 y0:wx.cell? ⟨gn,ra * 2,none⟩=some (.string na.1)
 y1:wx.cell? ⟨gn,ra * 2+1,none⟩=some (.int .i64 na.2)
 z0:wx.cell? ⟨gn,rb * 2,none⟩=some (.string nb.1)
 z1:wx.cell? ⟨gn,rb * 2+1,none⟩=some (.int .i64 nb.2)
theorem JW.mk' {w:World} {B tb gn cn gl cl:Nat} {ve vs vm:Value} {L:List Nd} {F:List Nat} {S:List Int} {ra rb:Nat} {na nb:Nd} {wx:World} (h:bA wx B tb (.slice (some ⟨gn,0,none⟩) L.length cn) ve (.slice (some ⟨gl,0,none⟩) L.length cl) vs vm L F S) (hf:w.grownBy wx (some gl)) (hna:L[ra]?=some na) (hnb:L[rb]?=some nb)
  (x3:wx.cell? ⟨w.heap.size,0,none⟩=some (.pointer (some ⟨tb,0,none⟩))) (x6:wx.cell? ⟨w.heap.size+1,0,none⟩=some (.bool false)) (f6:wx.frozen? ⟨w.heap.size+1,0,none⟩=false):JW w B tb gn cn gl cl ve vs vm L F S ra rb na nb wx:=by
 obtain ⟨g1,c1,e1,y0,y1⟩:=h.node hna
 obtain ⟨g2,c2,e2,z0,z1⟩:=h.node hnb
 simp at e1 e2
 obtain ⟨rfl,rfl⟩:=e1
 obtain ⟨rfl,rfl⟩:=e2
 exact ⟨h,hf,x3,x6,f6,h.c0,y0,y1,z0,z1⟩
theorem JW.below {w:World} {B tb gn cn gl cl:Nat} {ve vs vm:Value} {L:List Nd} {F:List Nat} {S:List Int} {ra rb:Nat} {na nb:Nd} {wx wy:World} (h:JW w B tb gn cn gl cl ve vs vm L F S ra rb na nb wx) (k:Below wx.heap.size wx wy):JW w B tb gn cn gl cl ve vs vm L F S ra rb na nb wy:=
 ⟨h.tm.below k,h.far.trans (fF k),Below.at' k (Nat.le_refl _) h.x3,Below.at' k (Nat.le_refl _) h.x6,(k.frozen (p:=⟨w.heap.size+1,0,none⟩) (World.block_lt_of_cell? _ _ h.x6)).trans h.f6,Below.at' k (Nat.le_refl _) h.c0,Below.at' k (Nat.le_refl _) h.y0,Below.at' k (Nat.le_refl _) h.y1,Below.at' k (Nat.le_refl _) h.z0,Below.at' k (Nat.le_refl _) h.z1⟩
set_option maxHeartbeats 2000000 in
theorem aS0 (B tb:Nat) (vn ve vl vs vm:Value) (L:List Nd) (S:List Int) (hL:eA L):∀(m:Nat) (F:List Nat) (rt d:Nat→Nat) (a b:Nat) (w:World),lD F≤m→bA w B tb vn ve vl vs vm L F S→eZ F rt d→iJ L rt→a < L.length→b < L.length→
  Calls Tryz.prog 132 #[.pointer (some ⟨tb,0,none⟩),.int .i64 a,.int .i64 b] w fun e w'=>∃ok F' rt' d',e=.returned (.bool ok)∧aRw w B tb vn ve vl vs vm L F S rt a b ok w' F' rt' d':=by
 intro m
 induction m with
 | zero=>
  intro F rt d a b w hm h hF _ ha _
  have:=aRz hF (p:=a) (by rw [h.lf];exact ha)
  omega
 | succ m ih=>
  intro F rt d a b w hm h hF hN ha hb
  have hb0:Below w.heap.size w ((w.alloc (.cells #[.pointer (some ⟨tb,0,none⟩)] 162)).alloc (.cells #[.bool false] 4)):=((Below.refl _ _).alloc (Nat.le_refl _) _).alloc (by simp) _
  have CA:=aA (fun d' (p:Nat) (hp:p < L.length)=>aA8 B tb vn ve vl vs vm L F S rt d p (((w.alloc (.cells #[.pointer (some ⟨tb,0,none⟩)] 162)).alloc (.cells #[.bool false] 4)).drewN d') ((h.below hb0).drewN d') hF hp)
  have HT:=aA h
  have HF:=aA hF
  have HN:=aA hN
  have HM:=aA hm
  have HB0:=aA hb0
  have IH:=aA ih
  clear h hF hN hm hb0 ih
  refine (callsIn_wide (n:=3)).1 ?_
  refine callsIn_of_wp_marks Tryz.func132 rfl trivial ?_
  simp only [Tryz.ntmps132,List.size_toArray,List.length_cons,List.length_nil,Nat.reduceAdd,Nat.reduceSub,Array.replicate_succ,Array.replicate_zero,List.push_toArray,List.append_toArray,List.nil_append,List.cons_append]
  refine wpIn_wide.2 ?_
  go_wp2
  go_quiet ((go_at_call 144;exact Calls.quiet_of_same (aB CA _ _ (by assumption))))
  have hb1:Below w.heap.size w (((w.alloc (.cells #[.pointer (some ⟨tb,0,none⟩)] 162)).alloc (.cells #[.bool false] 4)).drewN nq):=HB0.out.trans ((aJ ⟨nq,rfl⟩).mono HB0.out.size)
  have x3:(((w.alloc (.cells #[.pointer (some ⟨tb,0,none⟩)] 162)).alloc (.cells #[.bool false] 4)).drewN nq).cell? ⟨w.heap.size,0,none⟩=some (.pointer (some ⟨tb,0,none⟩)):=by simp
  have x6:(((w.alloc (.cells #[.pointer (some ⟨tb,0,none⟩)] 162)).alloc (.cells #[.bool false] 4)).drewN nq).cell? ⟨w.heap.size+1,0,none⟩=some (.bool false):=by simp
  have f6:(((w.alloc (.cells #[.pointer (some ⟨tb,0,none⟩)] 162)).alloc (.cells #[.bool false] 4)).drewN nq).frozen? ⟨w.heap.size+1,0,none⟩=false:=by simp
  generalize ((w.alloc (.cells #[.pointer (some ⟨tb,0,none⟩)] 162)).alloc (.cells #[.bool false] 4)).drewN nq=w1 at *
  have HB1:=aA hb1
  clear CA HB0 hb1
  obtain ⟨ra,hra⟩ : ∃ra,ra=rt a:=⟨_,rfl⟩
  obtain ⟨rb,hrb⟩ : ∃rb,rb=rt b:=⟨_,rfl⟩
  rw [←hra,←hrb]
  have HRA:=aA hra
  have HRB:=aA hrb
  clear hra hrb
  by_cases he:ra=rb
  ·have hei:((ra:Int) == (rb:Int))=true:=by rw [he];simp
   have HE:=aA he
   clear he
   go_wp2
   have hw6:=World.cell?_setCell_same' w1 ⟨w.heap.size+1,0,none⟩ (.bool true) (by rw [x6];rfl)
   refine rG (v:=.bool true) rfl (by simp [results,Tryz.results132,go_sem,hw6]) ?_
   have hbf:Below w.heap.size w (w1.setCell ⟨w.heap.size+1,0,none⟩ (.bool true)):=HB1.out.setCell (by simp) _
   exact ⟨true,F,rt,d,rfl,⟨HT.out.below hbf,HF.out,HN.out,Nat.le_refl _,fF hbf,fun _ _ e=>e,jU.same (by rw [←HRA.out,←HRB.out,HE.out])⟩⟩
  ·have hei:((ra:Int) == (rb:Int))=false:=by rw [beq_eq_false_iff_ne];omega
   have hlf:=HT.out.lf
   have hral:ra < L.length:=by rw [HRA.out,←hlf];exact HF.out.rt_lt (by omega)
   have hrbl:rb < L.length:=by rw [HRB.out,←hlf];exact HF.out.rt_lt (by omega)
   have hraf:F[ra]?=some ra:=by rw [HRA.out];exact HF.out.rootAt (by omega)
   have hrbf:F[rb]?=some rb:=by rw [HRB.out];exact HF.out.rootAt (by omega)
   obtain ⟨na,hna⟩ : ∃n,L[ra]?=some n:=⟨L[ra],List.getElem?_eq_getElem hral⟩
   obtain ⟨nb,hnb⟩ : ∃n,L[rb]?=some n:=⟨L[rb],List.getElem?_eq_getElem hrbl⟩
   have hT1:=HT.out.below HB1.out
   obtain ⟨gn,cn,rfl,y0,y1⟩:=hT1.node hna
   obtain ⟨gn',cn',e',z0,z1⟩:=hT1.node hnb
   simp at e'
   obtain ⟨rfl,rfl⟩:=e'
   have c0:=hT1.c0
   obtain ⟨sa,xa⟩:=na
   obtain ⟨sb,xb⟩:=nb
   simp only at y0 y1 z0 z1
   have hrai:(ra:Int) < (L.length:Int):=by omega
   have hrbi:(rb:Int) < (L.length:Int):=by omega
   have hfew:=HT.out.few
   have HRAF:=aA hraf
   have HRBF:=aA hrbf
   have HNA:=aA hna
   have HNB:=aA hnb
   have HNE:=aA he
   have CV:=aA (fun s x wx=>nE s x wx)
   have hw1:=HB1.out.size
   clear hlf hraf hrbf hna hnb hT1 he
   by_cases hva:sa.toList.isEmpty=true
   ·have HVA:=aA (show aH (sa,xa)=true from hva)
    obtain ⟨gl,cl,rfl,⟨u,hu⟩,hfz⟩:=(HT.out.below HB1.out).leader hral
    have c2:=(HT.out.below HB1.out).c2
    have CVA:=aA (aB CV sa xa)
    rw [hva] at CVA
    have hglw:gl < w.heap.size:=(bY HT.out.rl gl rfl).2
    have HST:=aA (fun (w2:World) (hb2:Below w1.heap.size w1 w2)=>aG1 (v:=.int .i64 (rb:Int)) (u:=.bool false) hb2 x3 x6 f6 hu hfz c2 hglw)
    have HFIN:=aA (fun (w2:World) (hb2:Below w1.heap.size w1 w2)=>((HT.out.below HB1.out).below hb2).lead ra rb)
    clear hfz hu c2
    go_wp2_with (first
     | (go_at_call 49;refine (aB CVA _).mono ?_;rintro e w2 ⟨rfl,hb2⟩;obtain ⟨k2,kx,⟨ku,hku⟩,kfz,kS3,kS6,kSf⟩:=HST.out w2 hb2;have HB2:=aA hb2;clear hb2)
     | go_in)
    have hw6:=World.cell?_setCell_same' (w2.setCell ⟨gl,ra,none⟩ (.int .i64 (rb:Int))) ⟨w.heap.size+1,0,none⟩ (.bool true) (by rw [kS6];rfl)
    refine rG (v:=.bool true) rfl (by simp [results,Tryz.results132,go_sem,hw6]) ?_
    obtain ⟨ht2,hg2⟩:=HFIN.out w2 HB2.out
    have ht3:=ht2.boxed HT.out (g:=w.heap.size+1) (by omega) 0 (.bool true)
    have hg3:=lI (uM (HB1.out.trans (HB2.out.mono hw1)) hg2) (g:=w.heap.size+1) (by omega) 0 (.bool true)
    refine ⟨true,F.set ra rb,eS rt ra rb,dJ rt d ra rb,rfl,⟨ht3,HF.out.join HRAF.out HRBF.out HNE.out,HN.out.join (fun hn=>?_),Nat.le_of_lt (aEr HRAF.out HNE.out),hg3,uJ rt ra rb,jU.var (aRx HRA.out HRB.out) (Or.inl (HN.out.var ?_))⟩⟩
    ·rw [fV HNA.out,HVA.out] at hn;cases hn
    ·rw [←HRA.out,fV HNA.out,HVA.out];simp
   ·have HVA:=aA (show aH (sa,xa)=false by simpa [aH] using hva)
    have hva':sa.toList.isEmpty=false:=by simpa using hva
    obtain ⟨gl,cl,rfl,⟨u,hu⟩,hfz⟩:=(HT.out.below HB1.out).leader hrbl
    have c2:=(HT.out.below HB1.out).c2
    have CVA:=aA (aB CV sa xa)
    rw [hva'] at CVA
    have hglw:gl < w.heap.size:=(bY HT.out.rl gl rfl).2
    have HST:=aA (fun (w2:World) (hb2:Below w1.heap.size w1 w2)=>aG1 (v:=.int .i64 (ra:Int)) (u:=.bool false) hb2 x3 x6 f6 hu hfz c2 hglw)
    have HJW:=aA (fun (w2:World) (hb2:Below w1.heap.size w1 w2)=>(show JW w B tb gn cn gl cl ve vs vm L (F.set rb ra) S ra rb (sa,xa) (sb,xb) (w2.setCell ⟨gl,rb,none⟩ (.int .i64 (ra:Int))) from by
     obtain ⟨_,_,_,_,k3,k6,kf⟩:=HST.out w2 hb2
     obtain ⟨ht,hg⟩:=((HT.out.below HB1.out).below hb2).lead rb ra
     exact JW.mk' ht (uM (HB1.out.trans (hb2.mono hw1)) hg) HNA.out HNB.out k3 k6 kf))
    have HFJ:=aA (HF.out.join HRBF.out HRAF.out (fun e=>HNE.out e.symm))
    have HRN:=aA (aEr HRBF.out (fun e=>HNE.out e.symm))
    have HNJ:=aA (HN.out.join (u:=rb) (v:=ra) (fun _=>by rw [fV HNA.out];exact HVA.out))
    clear hfz hu c2
    by_cases hvb:sb.toList.isEmpty=true
    ·have HVB:=aA (show aH (sb,xb)=true from hvb)
     have CVB:=aA (aB CV sb xb)
     rw [hvb] at CVB
     go_wp2_with (first
      | (go_at_call 49;refine (aB CVA _).mono ?_;clear CVA;rintro e w2 ⟨rfl,hb2⟩;obtain ⟨k2,kx,⟨ku,hku⟩,kfz,_⟩:=HST.out w2 hb2;have hJ:=HJW.out w2 hb2;have j1:=hJ.x3;have j2:=hJ.c0;have j3:=hJ.z0;have j4:=hJ.z1;have HJ:=aA hJ;clear hJ hb2)
      | (go_at_call 49;refine (aB CVB _).mono ?_;clear CVB;rintro e w3 ⟨rfl,hb3⟩;have hJ3:=HJ.out.below hb3;have m1:=hJ3.x6;have m2:=hJ3.f6;have HJ3:=aA hJ3;clear hJ3 hb3)
      | go_in)
     have hw6:=World.cell?_setCell_same' w3 ⟨w.heap.size+1,0,none⟩ (.bool true) (by rw [m1];rfl)
     refine rG (v:=.bool true) rfl (by simp [results,Tryz.results132,go_sem,hw6]) ?_
     have ht3:=HJ3.out.tm.boxed HT.out (g:=w.heap.size+1) (by omega) 0 (.bool true)
     have hg3:=lI HJ3.out.far (g:=w.heap.size+1) (by omega) 0 (.bool true)
     refine ⟨true,F.set rb ra,eS rt rb ra,dJ rt d rb ra,rfl,⟨ht3,HFJ.out,HNJ.out,Nat.le_of_lt HRN.out,hg3,uJ rt rb ra,jU.var (aB2 HRB.out HRA.out) (Or.inr (HN.out.var ?_))⟩⟩
     rw [←HRB.out,fV HNB.out,HVB.out];simp
    ·have HVB:=aA (show aH (sb,xb)=false by simpa [aH] using hvb)
     have hvb':sb.toList.isEmpty=false:=by simpa using hvb
     have CVB:=aA (aB CV sb xb)
     rw [hvb'] at CVB
     have hqn:=tA sa sb xa xb
     have hqg:=sY
     have hnbq:=sZ (sa,xa) (sb,xb)
     simp only at hnbq
     by_cases hll:(sa,xa)=(sb,xb)
     ·rw [decide_eq_true hll] at hnbq
      have HLL:=aA hll
      clear hll
      go_wp2_with (first
       | (go_at_call 49;refine (aB CVA _).mono ?_;clear CVA;rintro e w2 ⟨rfl,hb2⟩;obtain ⟨k2,kx,⟨ku,hku⟩,kfz,_⟩:=HST.out w2 hb2;have hJ:=HJW.out w2 hb2;have j1:=hJ.x3;have j2:=hJ.c0;have j3:=hJ.z0;have j4:=hJ.z1;have HJ:=aA hJ;clear hJ hb2)
       | (go_at_call 49;refine (aB CVB _).mono ?_;clear CVB;rintro e w3 ⟨rfl,hb3⟩;have hJ3:=HJ.out.below hb3;have m1:=hJ3.x6;have m2:=hJ3.f6;have m3:=hJ3.x3;have m4:=hJ3.c0;have m5:=hJ3.y0;have m6:=hJ3.y1;have m7:=hJ3.z0;have m8:=hJ3.z1;have HJ3:=aA hJ3;clear hJ3 hb3)
       | go_in)
      go_quiet (fail)
      have hJ4:=HJ3.out.below (aJ (w1:=w3.drewN nq) ⟨_,rfl⟩)
      generalize w3.drewN nq=w4 at *
      have n3:=hJ4.x3
      have n6:=World.block_lt_of_cell? _ _ hJ4.x6
      simp only at n6
      have nA:=fun X=>Below.at' ((Below.refl w4.heap.size w4).alloc (Nat.le_refl _) X) (Nat.le_refl _) n3
      have HJ4:=aA hJ4
      have CP:=aA (fun wx=>aB3 tb ra wx)
      clear hJ4 m1 m2 m3 m4 m5 m6 m7 m8 HJ3 hqn hqg hnbq
      go_wp2_with (first
       | (go_at_call 145;refine (aB CP _).mono ?_;rintro e w5 ⟨rfl,rfl⟩)
       | go_in)
      clear nA CP n3
      obtain ⟨C,hC⟩ : ∃C,(aE L).ch ra=C:=⟨_,rfl⟩
      obtain ⟨ge,ce,rfl,_⟩:=HT.out.ends (by omega)
      obtain ⟨w6,hw6,hal,o0,of0,ot0,oa0,os0⟩:=aB4 w4 (.int .i64 ((rb:Int)+1)) (.pointer (some ⟨tb,0,none⟩)) (.int .i64 ra) 3 162 3
      rw [←hw6]
      clear hw6
      have hJ6:=HJ4.out.below hal
      have hIt:jV w6 (w4.heap.size+1+1) (w4.heap.size+1) tb ge L ra:=jV.of hJ6.tm (by omega) oa0 ot0
      have htb6:=(Array.getElem?_eq_some_iff.1 hJ6.tm.box).1
      have hge6:=(bY hJ6.tm.re ge rfl).2
      have hks:∀k∈[w4.heap.size+1+1,w4.heap.size+1,tb,ge],k < w6.heap.size:=by
       intro k hk
       simp at hk
       rcases hk with rfl | rfl | rfl | rfl <;> omega
      refine (wpIn_wide (n:=3)).1 ?_
      refine wpIn_rangeFunc_ownG rfl (by omega) (gf:=149) (lb:=#[.pointer (some ⟨w4.heap.size+1+1,0,none⟩),.pointer (some ⟨w4.heap.size+1,0,none⟩)]) rfl trivial (enters_of Tryz.func149 (by kernel_rfl) rfl)
       (encs:=fun x:mK C=>#[.int .i64 (x.1:Nat)]) (Kp:=gE [w4.heap.size+1+1,w4.heap.size+1,tb,ge]) (S:=fun xs=>xs.map (fun x=>x.1)=C) (Sp:=fun pre=>pre.map (fun x=>x.1) <+: C) (N:=C.length) (w0:=w6)
       (fun l J Jx W hW hJ hJx hY h0=>by
        have:=aBc 2 l (w4.heap.size+1+1) (w4.heap.size+1) tb ge L ra (sa,xa) C hC (by omega) hL hfew HNA.out J Jx _ hJ hY W (hIt.kept (aB5 hW hks)) h0
        simpa using this)
       (fun h k=>h.trans k) (gE.put hks) (Below.refl _ _) (fun _=>rfl)
       (fun pre W=>uK w B tb gl cl (.slice (some ⟨gn,0,none⟩) L.length cn) (.slice (some ⟨ge,0,none⟩) L.length ce) vs vm L (F.set rb ra) S rt (eS rt rb ra) a b ra rb w4.heap.size w6.heap.size C (pre.map fun x=>x.1) W)
       (fun c pre W=>xE w B tb gl cl (.slice (some ⟨gn,0,none⟩) L.length cn) (.slice (some ⟨ge,0,none⟩) L.length ce) vs vm L (F.set rb ra) S rt (eS rt rb ra) a b C c (pre.map fun x=>x.1) W)
       (uK.own (by omega)) (fun c=>xE.own (by omega) c) ?h0 ?a1 ?assign ?body ?done ?stop
      case h0=>
       have hm:=aB2 (a:=a) (b:=b) HRB.out HRA.out
       refine ⟨Nat.le_refl _,⟨F.set rb ra,eS rt rb ra,dJ rt d rb ra,hJ6.tm,HFJ.out,HNJ.out,Nat.le_refl _,fun _ _ e=>e,fun _ Bs Q hc=>⟨hm.sound hc.sound (fun _ _=>Cl.symm) (fun _ _ _=>Cl.trans) hc.ab,?_⟩⟩,hJ6.far,hJ6.x3,hJ6.x6,hJ6.f6,?_,of0⟩
       ·refine hc.mod.name (oR rt) hm (sD L) ?_ ?_ ?_ ?_ ?_
        ·show rt a=rt ra
         rw [HRA.out,HF.out.rt_rt]
        ·show rt b=rt rb
         rw [HRB.out,HF.out.rt_rt]
        ·rw [fV HNA.out];exact HVA.out
        ·rw [fV HNB.out];exact HVB.out
        ·rw [nT HNA.out,nT HNB.out];exact HLL.out
       ·rw [o0];simp [kL]
      case assign=>
       intro l x W K hK
       gi_wp2
       exact hK
      case body=>
       rintro l pre x W hI hlen
       obtain ⟨F',rt',d',hT',hF',hN',hR',hmono,hsem⟩:=hI.st
       have hxp:x.1 < L.length:=aB7 hL HNA.out x.1 (by rw [hC];exact x.2)
       have hCl:C.length=aX (sa,xa):=by rw [←hC];exact aFy HNA.out
       have hwb:aX (sb,xb)=aX (sa,xa):=by rw [HLL.out]
       have hpl:(pre.map fun x=>x.1).length=pre.length:=by simp
       have hol:=aFz hL HNB.out (k:=pre.length) (by omega)
       have CJ:=IH.out F' rt' d' x.1 (kL L rb pre.length) W (by have:=HRN.out;have:=HM.out;omega) hT' hF' hN' hxp hol.1
       have x3':=hI.x3
       have o0':=hI.o0
       rw [hpl] at o0'
       have hWs:=hI.far.size
       have htbW:=(Array.getElem?_eq_some_iff.1 hT'.box).1
       have hgeW:=(bY hT'.re ge rfl).2
       have hW4:w4.heap.size+1+1 < W.heap.size:=by have:=hI.big;omega
       have hkk:∀k∈[w4.heap.size+1+1,w4.heap.size+1,tb,ge],k < W.heap.size∧k≠gl:=by
        intro k hk
        simp at hk
        have h1:tb≠gl:=fun e=>dD hT'.rl hT'.box (by decide) (by simp [Value.ownBlock,e])
        have h2:ge≠gl:=fun e=>hT'.ab (by simp [Value.ownBlock,e])
        rcases hk with rfl | rfl | rfl | rfl
        ·exact ⟨by omega,by omega⟩
        ·exact ⟨by omega,by omega⟩
        ·exact ⟨htbW,h1⟩
        ·exact ⟨hgeW,h2⟩
       have HNX:=aA (fun (W':World) (hg:W.grownBy W' (some gl))=>(show xF w W tb gl ge ce w4.heap.size L (kL L rb pre.length) [w4.heap.size+1+1,w4.heap.size+1,tb,ge] w6.heap.size W' from by have:=xF.make hI hT' hg (by omega) hglw (by rw [hpl];exact hol.1) hkk w6.heap.size;rw [hpl] at this;exact this))
       have HPX:=aA hpl
       have HKK:=aA (fun k hk=>(hkk k hk).1)
       have HI:=aA hI
       have HSEM:=aA hsem
       have HMONO:=aA hmono
       have HRR:=aA hR'
       have HOL:=aA hol
       have hO:kL L rb pre.length < L.length:=hol.1
       have HCJ:=aA CJ
       generalize hoe:kL L rb pre.length=oe at *
       have HOE:=aA hoe
       clear hI hsem hmono hR' hol CJ hT' hF' hN' hkk hpl hoe
       gi_wp2_with (first
        | (refine ⟨trivial,?_⟩;gi_at_call 132;refine (CallsIn.inRound l (callsIn_wide.2 (aB HCJ))).mono ?_;rintro e W' ⟨ok,F'',rt'',d'',rfl,hres⟩;have hnx:=HNX.out W' hres.far;have HRES:=aA hres;have q1:=hnx.x3;have q2:=hnx.x6;have q3:=hnx.f6;have q4:=hnx.o0;have q5:=hnx.of;have q6:=hnx.c1;have q7:=hnx.en;have HNX2:=aA hnx;clear hnx hres)
        | fail)
       ·have hok:ok=false:=by simpa using ‹(!ok)=true›
        refine ⟨HNX2.out.kf.trans (qB _ q2 _),⟨rfl,⟨F'',rt'',d'',HRES.out.tm.boxed HT.out (by omega) 0 _,HRES.out.forest,HRES.out.named,Nat.le_trans HRES.out.fewer HRR.out,fun i j e=>HRES.out.mono _ _ (HMONO.out i j e)⟩,fun hp Bs Q hc=>?_,lI HNX2.out.far (by omega) 0 _,World.cell?_setCell_same' _ _ _ (by rw [q2];rfl)⟩⟩
        obtain ⟨hp1,hp2⟩:=aG0 hp
        obtain ⟨hs1,hm1⟩:=HSEM.out hp1 Bs Q hc
        rw [HPX.out] at hm1
        refine (jU.part hc (by rw [HRA.out,HF.out.rt_rt]) (by rw [HRB.out,HF.out.rt_rt]) (by rw [fV HNA.out];exact HVA.out) (by rw [fV HNB.out];exact HVB.out) hs1 hm1 (by rw [hC];exact hp2) ?_ HRES.out.sem).2 hok
        rw [aB6 HNB.out (by omega),HOE.out]
       ·have hok:ok=true:=by simpa using ‹(!ok)=false›
        have hmix:Tryz.prog.follows .mixedOrders=true:=by kernel_rfl
        have hOi:(oe:Int) < (L.length:Int):=by omega
        have hOz:(0:Int)≤(oe:Int):=Int.natCast_nonneg _
        have hOn:((oe:Int)).toNat=oe:=Int.toNat_natCast _
        gi_region_with_o (fail)
        all_goals
         gi_wp2
         have hbd:Below (W'.setCell ⟨w4.heap.size,0,none⟩ (.int .i64 ((oe:Int)+(aF (L.drop oe) 1:Nat)))).heap.size (W'.setCell ⟨w4.heap.size,0,none⟩ (.int .i64 ((oe:Int)+(aF (L.drop oe) 1:Nat)))) (W'.setCell ⟨w4.heap.size,0,none⟩ (.int .i64 ((oe:Int)+(aF (L.drop oe) 1:Nat)))).drew:=aJ ⟨1,rfl⟩
         have hkn:∀k∈[w4.heap.size+1+1,w4.heap.size+1,tb,ge],k≠w4.heap.size:=by
          have h1:=(Array.getElem?_eq_some_iff.1 HT.out.box).1
          have h2:=(bY HT.out.re ge rfl).2
          intro k hk
          simp at hk
          rcases hk with rfl | rfl | rfl | rfl <;> omega
         refine ⟨HNX2.out.kf.trans ((qB _ q4 _).trans ⟨hbd.size,fun k o _ hk _=>(hbd.block k (Array.getElem?_eq_some_iff.1 hk).1).trans hk⟩),HNX2.out.kp.trans (fun k hk=>(cB W' ⟨w4.heap.size,0,none⟩ _).block k ?_ (by simpa using hkn k hk)),⟨?_,⟨F'',rt'',d'',(HRES.out.tm.boxed HT.out (g:=w4.heap.size) (by omega) 0 _).below hbd,HRES.out.forest,HRES.out.named,Nat.le_trans HRES.out.fewer HRR.out,fun i j e=>HRES.out.mono _ _ (HMONO.out i j e),fun hp Bs Q hc=>?_⟩,(lI HNX2.out.far (by omega) 0 _).trans (fF hbd),fH q1 (by omega),fH q2 (by omega),?_,?_,?_⟩⟩
         ·exact Nat.lt_of_lt_of_le (HKK.out k hk) HRES.out.far.size
         ·have h1:=HI.out.big
          have h2:=HRES.out.far.size
          have h3:=(cB W' ⟨w4.heap.size,0,none⟩ (.int .i64 ((oe:Int)+(aF (L.drop oe) 1:Nat)))).size
          exact Nat.le_trans h1 (Nat.le_trans h2 h3)
         ·obtain ⟨hp1,hp2⟩:=aG0 hp
          obtain ⟨hs1,hm1⟩:=HSEM.out hp1 Bs Q hc
          rw [HPX.out] at hm1
          have:=(jU.part hc (by rw [HRA.out,HF.out.rt_rt]) (by rw [HRB.out,HF.out.rt_rt]) (by rw [fV HNA.out];exact HVA.out) (by rw [fV HNB.out];exact HVB.out) hs1 hm1 (by rw [hC];exact hp2) (by rw [aB6 HNB.out (by omega),HOE.out]) HRES.out.sem).1 hok
          simpa using this
         ·show (W'.setCell _ _).frozen? _=false
          rw [World.frozen?_setCell];exact q3
         ·show (W'.setCell _ _).cell? _=_
          rw [World.cell?_setCell_same' W' ⟨w4.heap.size,0,none⟩ _ (by rw [q4];rfl)]
          have:=HOL.out.2
          simp only [List.length_map,List.length_append,List.length_cons,List.length_nil]
          rw [show pre.length+(0+1)=pre.length+1 by omega,this]
          simp
         ·show (W'.setCell _ _).frozen? _=false
          rw [World.frozen?_setCell];exact q5
      case done=>
       rintro D ys W hD hS hI hK
       obtain ⟨F',rt',d',hT',hF',hN',hR',hmono,hsem⟩:=hI.st
       have x6':=hI.x6
       have f6':=hI.f6
       go_wp2
       have hK':=(KeepsOthers.setCell W ⟨w.heap.size+1,0,none⟩ (.bool true)).same D _ hK rfl
       refine ⟨by simp,.inl ⟨_,_,rfl,run_takeDeferred hK',?_⟩⟩
       have hc5:=cell_kept (World.cell?_setCell_same' W ⟨w.heap.size+1,0,none⟩ (.bool true) (by rw [x6'];rfl)) (grownBy_putObj' _ D (.deferred none)) (fun r e=>by cases e;exact ⟨_,hK',rfl⟩)
       refine ⟨.bool true,?_,?_⟩
       ·simp [results,Tryz.results132,go_sem,hc5]
       ·refine ⟨true,F',rt',d',rfl,⟨(hT'.boxed HT.out (g:=w.heap.size+1) (by omega) 0 (.bool true)).others (grownBy_putObj' _ D (.deferred none)) (fun r e=>by cases e;exact ⟨_,hK',rfl⟩),hF',hN',Nat.le_trans hR' (Nat.le_of_lt HRN.out),mJ (lI hI.far (g:=w.heap.size+1) (by omega) 0 (.bool true)) (grownBy_putObj' _ D (.deferred none)) (fun r e=>by cases e;omega),fun i j e=>hmono _ _ (uJ rt rb ra i j e),fun Bs Q hs hab hc=>⟨fun _=>?_,fun e=>by cases e⟩⟩⟩
        obtain ⟨h1,h2⟩:=hsem (by rw [hS];exact List.prefix_refl _) Bs Q ⟨hs,hab,hc⟩
        exact ⟨hmono a b ((aB2 (a:=a) (b:=b) HRB.out HRA.out).ab (oR rt)),h1,h2.allParts (by rw [hC];have:=congrArg List.length hS;omega)⟩
      case stop=>
       rintro D c pre W hD hS hI hK
       have hcr:=hI.ret
       subst hcr
       refine wpIn_wide.2 ?_
       go_wp2
       refine ⟨by simp,.inl ⟨_,_,rfl,run_takeDeferred hK,?_⟩⟩
       have hc5:=cell_kept hI.x6 (grownBy_putObj' _ D (.deferred none)) (fun r e=>by cases e;exact ⟨_,hK,rfl⟩)
       refine ⟨.bool false,?_,?_⟩
       ·simp [results,Tryz.results132,go_sem,hc5]
       ·obtain ⟨F',rt',d',hT',hF',hN',hR',hmono⟩:=hI.st
        exact ⟨false,F',rt',d',rfl,⟨hT'.others (grownBy_putObj' _ D (.deferred none)) (fun r e=>by cases e;exact ⟨_,hK,rfl⟩),hF',hN',Nat.le_trans hR' (Nat.le_of_lt HRN.out),mJ hI.far (grownBy_putObj' _ D (.deferred none)) (fun r e=>by cases e;omega),fun i j e=>hmono _ _ (uJ rt rb ra i j e),fun Bs Q hs hab hc=>⟨fun e=>(by cases e),fun _=>hI.no hS Bs Q ⟨hs,hab,hc⟩⟩⟩⟩
     ·rw [decide_eq_false hll] at hnbq
      have HLL:=aA hll
      clear hll
      go_wp2_with (first
       | (go_at_call 49;refine (aB CVA _).mono ?_;clear CVA;rintro e w2 ⟨rfl,hb2⟩;obtain ⟨k2,kx,⟨ku,hku⟩,kfz,_⟩:=HST.out w2 hb2;have hJ:=HJW.out w2 hb2;have j1:=hJ.x3;have j2:=hJ.c0;have j3:=hJ.z0;have j4:=hJ.z1;have HJ:=aA hJ;clear hJ hb2)
       | (go_at_call 49;refine (aB CVB _).mono ?_;clear CVB;rintro e w3 ⟨rfl,hb3⟩;have hJ3:=HJ.out.below hb3;have m1:=hJ3.x6;have m2:=hJ3.f6;have m3:=hJ3.x3;have m4:=hJ3.c0;have m5:=hJ3.y0;have m6:=hJ3.y1;have m7:=hJ3.z0;have m8:=hJ3.z1;have HJ3:=aA hJ3;clear hJ3 hb3)
       | go_in)
      go_quiet (fail)
      go_wp2
      have hw6:=World.cell?_setCell_same' (w3.drewN nq) ⟨w.heap.size+1,0,none⟩ (.bool false) (by simp [m1])
      refine rG (v:=.bool false) rfl (by simp [results,Tryz.results132,go_sem,hw6]) ?_
      have hJ4:=HJ3.out.below (aJ (w1:=w3.drewN nq) ⟨_,rfl⟩)
      have ht3:=hJ4.tm.boxed HT.out (g:=w.heap.size+1) (by omega) 0 (.bool false)
      have hg3:=lI hJ4.far (g:=w.heap.size+1) (by omega) 0 (.bool false)
      refine ⟨false,F.set rb ra,eS rt rb ra,dJ rt d rb ra,rfl,⟨ht3,HFJ.out,HNJ.out,Nat.le_of_lt HRN.out,hg3,uJ rt rb ra,jU.clash HF.out.rt_rt ?_ ?_ ?_⟩⟩
      ·rw [←HRA.out,fV HNA.out];exact HVA.out
      ·rw [←HRB.out,fV HNB.out];exact HVB.out
      ·rw [←HRA.out,←HRB.out,nT HNA.out,nT HNB.out];exact HLL.out
end Go.Proofs.YtbddofieljiihaaGreatDoor
namespace Go.Proofs.YtbddofieljiihaaGreatDoor
open Go.RowKit Go.Shelf Go.WideMaps
set_option maxRecDepth 100000
inductive eK (G:Gr) (E:Nat→Nat→Prop):Nat→Nat→Prop
 | step {x j p y:Nat}:E x j→G.named j→p∈G.ch j→E p y→eK G E x y
 | trans {x y z:Nat}:eK G E x y→eK G E y z→eK G E x z
section
variable {G:Gr} {E:Nat→Nat→Prop}
theorem eK.left (hE:iE G E) {x x' y:Nat} (h:eK G E x y) (e:E x' x):eK G E x' y:=by
 induction h generalizing x' with
 | step a b c d=>exact eK.step (hE.trans _ _ _ e a) b c d
 | trans _ h2 ih _=>exact eK.trans (ih e) h2
theorem eK.right (hE:iE G E) {x y y':Nat} (h:eK G E x y) (e:E y y'):eK G E x y':=by
 induction h generalizing y' with
 | step a b c d=>exact eK.step a b c (hE.trans _ _ _ d e)
 | trans h1 _ _ ih=>exact eK.trans h1 (ih e)
theorem eK.first (hE:iE G E) {x y:Nat} (h:eK G E x y):∃j p,E x j∧G.named j∧p∈G.ch j∧(E p y∨eK G E p y):=by
 induction h with
 | step a b c d=>exact ⟨_,_,a,b,c,Or.inl d⟩
 | @trans x y z h1 h2 ih _=>
  obtain ⟨j,p,a,b,c,d⟩:=ih
  refine ⟨j,p,a,b,c,Or.inr ?_⟩
  rcases d with d | d
  ·exact h2.left hE d
  ·exact eK.trans d h2
theorem bS.irrefl (hE:iE G E) {x:Nat} (h:bS G E x):¬eK G E x x:=by
 induction h with
 | mk x _ ih=>
  intro hr
  obtain ⟨j,p,a,b,c,d⟩:=hr.first hE
  refine ih j a b p c ?_
  rcases d with d | d
  ·exact (hr.left hE d).right hE (hE.symm _ _ d)
  ·exact eK.trans d (eK.step a b c (hE.refl p))
theorem aG2 (h:dE G E fun _ _=>False) (hE:qZ E):iE G E∧jS G E:=
 ⟨⟨hE.refl,hE.symm,hE.trans,fun i j k p q hij hi hj hp hq=>((h i j hij hi hj).2 k p q hp hq).le hE.refl hE.symm hE.trans fun i j hij=>by
  rcases hij with hij | hij
  ·exact hij
  ·exact hij.elim⟩,fun i j hij hi hj=>(h i j hij hi hj).1⟩
theorem aS1 (hE:iE G E) (hN:jS G E) (hA:G.Arity) {x r:Nat} (hxr:E x r) (hr:∀p∈G.ch r,bS G E p) (hnr:∀j,E x j→G.named j→G.named r):bS G E x:=by
 refine ⟨_,fun j hj hn p hp=>?_⟩
 have hn':=hnr j hj hn
 have ha:=aAj hE hN hA (hE.trans _ _ _ (hE.symm _ _ hxr) hj) hn' hn
 obtain ⟨q,hq,hqp⟩:=ha.mem_right hp
 exact (hr q hq).same hE hqp
theorem aS2 {rep:Nat→Nat} {xs:List Nat} {ls:List (List Nd)} (h:aL (fun x l=>aO G E rep [x] l) xs ls):aO G E rep xs ls.flatten:=by
 induction h with
 | nil=>exact aO.nil
 | cons h1 _ ih=>exact h1.append ih
end
def oW (L:List Nd) (rt:Nat→Nat) (S:List Int):Prop:=∀(p:Nat) (n:Int),S[p]?=some n→n=0∨n=-1∨(bS (aE L) (fun i j=>rt i=rt j) p∧∃l,aO (aE L) (fun i j=>rt i=rt j) rt [p] l∧n=(min 501 l.length:Nat))
def jC (S:List Int):Nat:=S.countP fun x=>x == 0
theorem aS3 (S:List Int):∀(p:Nat) (v:Int),S[p]?=some 0→v≠0→jC (S.set p v) < jC S:=by
 induction S with
 | nil=>intro p v h;simp at h
 | cons x r ih=>
  intro p v h hv
  unfold jC at ih ⊢
  cases p with
  | zero=>
   simp at h
   subst h
   simp [hv]
  | succ p=>
   have:=ih p v (by simpa using h) hv
   rw [List.set_cons_succ,List.countP_cons,List.countP_cons]
   omega
theorem aS4 (S:List Int):∀(p:Nat) (v:Int),v≠0→jC (S.set p v)≤jC S:=by
 induction S with
 | nil=>intro p v _;simp [jC]
 | cons x r ih=>
  intro p v hv
  unfold jC at ih ⊢
  cases p with
  | zero=>
   rw [List.set_cons_zero,List.countP_cons,List.countP_cons]
   simp [hv]
  | succ p=>
   have:=ih p v hv
   rw [List.set_cons_succ,List.countP_cons,List.countP_cons]
   omega
theorem bA.sized {w:World} {B tb:Nat} {vn ve vl vm:Value} {L:List Nd} {F:List Nat} {S:List Int} {gs cs:Nat} (h:bA w B tb vn ve vl (.slice (some ⟨gs,0,none⟩) L.length cs) vm L F S) (p:Nat) (x:Int):bA (w.setCell ⟨gs,p,none⟩ (.int .i64 x)) B tb vn ve vl (.slice (some ⟨gs,0,none⟩) L.length cs) vm L F (S.set p x)∧w.grownBy (w.setCell ⟨gs,p,none⟩ (.int .i64 x)) (some gs):=by
 have hg:=cB w ⟨gs,p,none⟩ (.int .i64 x)
 refine ⟨⟨?_,h.high,cX h.rn hg (eV h.rn h.rs (by decide)),cX h.re hg (Or.inr h.ac),cX h.rl hg (Or.inr h.bc),?_,h.lf,by rw [List.length_set];exact h.ls,h.few,h.short,h.ab,h.ac,h.bc⟩,hg⟩
 ·rw [hg.block tb (Array.getElem?_eq_some_iff.1 h.box).1 (fun e=>dD h.rs h.box (by decide) e.symm),h.box]
 ·have r:=(h.rs.stored p (.int .i64 x)).1
  rw [←List.map_set] at r
  exact r
theorem bA.size {w:World} {B tb:Nat} {vn ve vl vs vm:Value} {L:List Nd} {F:List Nat} {S:List Int} (h:bA w B tb vn ve vl vs vm L F S) {p:Nat} (hp:p < L.length):∃gs cs n,vs=.slice (some ⟨gs,0,none⟩) L.length cs∧S[p]?=some n∧w.cell? ⟨gs,p,none⟩=some (.int .i64 n)∧w.frozen? ⟨gs,p,none⟩=false:=by
 obtain ⟨a,c,e,hc⟩:=aOz h.rs h.ls
 have hls:=h.ls
 have hp':p < S.length:=by omega
 obtain ⟨g,rfl,h1⟩:=hc p hp'
 subst e
 exact ⟨g,c,S[p],rfl,List.getElem?_eq_getElem hp',h1,h.rs.frozenAt p⟩
theorem aG3 (w:World) (x y z:Value) (t1 t2 t3:TypeId):∃W,W=((w.alloc (.cells #[x] t1)).alloc (.cells #[y] t2)).alloc (.cells #[z] t3)∧Below w.heap.size w W∧W.cell? ⟨w.heap.size,0,none⟩=some x∧W.cell? ⟨w.heap.size+1,0,none⟩=some y∧W.cell? ⟨w.heap.size+1+1,0,none⟩=some z∧W.frozen? ⟨w.heap.size+1,0,none⟩=false∧W.frozen? ⟨w.heap.size+1+1,0,none⟩=false∧W.heap.size=w.heap.size+3:=by
 obtain ⟨W,h1,h2,h3,_,h5,h6,h7⟩:=aB4 w x y z t1 t2 t3
 refine ⟨W,h1,h2,h3,h5,h6,?_,?_,h7⟩
 ·subst h1
  have hb:Below ((w.alloc (.cells #[x] t1)).alloc (.cells #[y] t2)).heap.size ((w.alloc (.cells #[x] t1)).alloc (.cells #[y] t2)) (((w.alloc (.cells #[x] t1)).alloc (.cells #[y] t2)).alloc (.cells #[z] t3)):=(Below.refl _ _).alloc (Nat.le_refl _) _
  rw [hb.frozen (p:=⟨w.heap.size+1,0,none⟩) (by simp)]
  have:=(oV (w.alloc (.cells #[x] t1)) y t2).2
  rw [World.size_alloc] at this
  exact this
 ·subst h1
  have:=(oV ((w.alloc (.cells #[x] t1)).alloc (.cells #[y] t2)) z t3).2
  rw [World.size_alloc,World.size_alloc] at this
  exact this
structure aS5 (w:World) (B tb:Nat) (vn ve vl vs vm:Value) (L:List Nd) (F:List Nat) (S:List Int) (rt:Nat→Nat) (a:Nat) (n:Int) (b:Bool) (w':World) (S':List Int):Prop where
 tm:bA w' B tb vn ve vl vs vm L F S'
 far:w.grownBy w' vs.ownBlock
 few:jC S'≤jC S
 yes:b=true→oW L rt S'∧(∀p:Nat,S'[p]?=some (-1)↔S[p]?=some (-1))∧bS (aE L) (fun i j=>rt i=rt j) a∧∃l,aO (aE L) (fun i j=>rt i=rt j) rt [a] l∧n=(min 501 l.length:Nat)
 no:b=false→n=0∧¬bS (aE L) (fun i j=>rt i=rt j) a
structure uN (w:World) (B tb gs cs:Nat) (vn ve vl vm:Value) (L:List Nd) (F:List Nat) (S0:List Int) (rt:Nat→Nat) (cb N0:Nat) (pre:List Nat) (W:World):Prop where
 big:N0≤W.heap.size
 st:∃S',bA W B tb vn ve vl (.slice (some ⟨gs,0,none⟩) L.length cs) vm L F S'∧jC S'≤jC S0∧oW L rt S'∧(∀p:Nat,S'[p]?=some (-1)↔S0[p]?=some (-1))
 pts:∃ls,aL (fun x l=>aO (aE L) (fun i j=>rt i=rt j) rt [x] l) pre ls∧(∀x∈pre,bS (aE L) (fun i j=>rt i=rt j) x)∧W.cell? ⟨cb,0,none⟩=some (.int .i64 ((min 501 (1+(ls.map List.length).sum):Nat):Int))
 far:w.grownBy W (some gs)
 x0:W.cell? ⟨w.heap.size,0,none⟩=some (.pointer (some ⟨tb,0,none⟩))
 x1:W.cell? ⟨w.heap.size+1,0,none⟩=some (.int .i64 0)
 x2:W.cell? ⟨w.heap.size+1+1,0,none⟩=some (.bool false)
 f1:W.frozen? ⟨w.heap.size+1,0,none⟩=false
 f2:W.frozen? ⟨w.heap.size+1+1,0,none⟩=false
 cf:W.frozen? ⟨cb,0,none⟩=false
structure xG (w:World) (B tb gs cs:Nat) (vn ve vl vm:Value) (L:List Nd) (F:List Nat) (S0:List Int) (rt:Nat→Nat) (c:Code) (pre:List Nat) (W:World):Prop where
 ret:c=.ret
 st:∃S',bA W B tb vn ve vl (.slice (some ⟨gs,0,none⟩) L.length cs) vm L F S'∧jC S'≤jC S0
 no:∃x∈pre,¬bS (aE L) (fun i j=>rt i=rt j) x
 far:w.grownBy W (some gs)
 x1:W.cell? ⟨w.heap.size+1,0,none⟩=some (.int .i64 0)
 x2:W.cell? ⟨w.heap.size+1+1,0,none⟩=some (.bool false)
section
variable {w:World} {B tb gs cs:Nat} {vn ve vl vm:Value} {L:List Nd} {F:List Nat} {S0:List Int} {rt:Nat→Nat} {cb N0 N:Nat} {C:List Nat}
theorem uN.own (hN:w.heap.size≤N):OwnFrom N (fun (pre:List (mK C)) W=>uN w B tb gs cs vn ve vl vm L F S0 rt cb N0 (pre.map fun x=>x.1) W):=by
 intro pre W W' row h hg hr
 have hr':∀r,row=some r→∃o:Obj,W.heap[r]?=some o∧o.isCells=false:=fun r e=>(hr r e).2
 obtain ⟨S',h1,h2⟩:=h.st
 obtain ⟨ls,h3,h4,h5⟩:=h.pts
 exact ⟨Nat.le_trans h.big hg.size,⟨S',h1.others hg hr',h2⟩,⟨ls,h3,h4,cell_kept h5 hg hr'⟩,mJ h.far hg (fun r e=>by have:=(hr r e).1;omega),cell_kept h.x0 hg hr',cell_kept h.x1 hg hr',cell_kept h.x2 hg hr',(frozen_kept h.x1 hg hr').trans h.f1,(frozen_kept h.x2 hg hr').trans h.f2,(frozen_kept h5 hg hr').trans h.cf⟩
theorem xG.own (hN:w.heap.size≤N) (c:Code):OwnFrom N (fun (pre:List (mK C)) W=>xG w B tb gs cs vn ve vl vm L F S0 rt c (pre.map fun x=>x.1) W):=by
 intro pre W W' row h hg hr
 have hr':∀r,row=some r→∃o:Obj,W.heap[r]?=some o∧o.isCells=false:=fun r e=>(hr r e).2
 obtain ⟨S',h1,h2⟩:=h.st
 exact ⟨h.ret,⟨S',h1.others hg hr',h2⟩,h.no,mJ h.far hg (fun r e=>by have:=(hr r e).1;omega),cell_kept h.x1 hg hr',cell_kept h.x2 hg hr'⟩
end
end Go.Proofs.YtbddofieljiihaaGreatDoor
