/- The search: is a clause covered by one that is kept? The search: the next one that is not covered. -/
import Derived.Test.YtbddofieljiihaaGreatDoorXFacI
namespace Go.Proofs.YtbddofieljiihaaGreatDoor
open Go.RowKit Go.Shelf Go.WideMaps
set_option maxRecDepth 100000
open Classical in
noncomputable def bX (c d:List Lt):Bool:=decide (c.length≤d.length∧fC d c [])
open Classical in
theorem aIf {c d:List Lt} {r:Bool} (h:r=true↔c.length≤d.length∧fC d c []):r=bX c d:=by
 unfold bX
 by_cases hc:c.length≤d.length∧fC d c []
 ·rw [decide_eq_true hc];exact h.2 hc
 ·rw [decide_eq_false hc]
  cases r
  ·rfl
  ·exact absurd (h.1 rfl) hc
def kQ (c d:List Lt):Prop:=∀(B:Nat) (a1 a2:Option Addr) (c1 c2:Nat) (w:World),bK B w (.slice a1 c.length c1) c→bK B w (.slice a2 d.length c2) d→
 Calls Tryz.prog 19 #[.slice a1 c.length c1,.slice a2 d.length c2] w fun e w'=>e=.returned (.bool (bX c d))∧Below w.heap.size w w'
def xV (b1 b2 sb gs n cap k:Nat) (ad ad2:Option Addr) (l1 c1 l2 c2:Nat) (w':World):Prop:=w'.cell? ⟨b1,0,none⟩=some (.pointer (some ⟨sb,0,none⟩))∧w'.cell? ⟨sb,2,none⟩=some (.slice (some ⟨gs,0,none⟩) n cap)∧w'.cell? ⟨gs,k * 6+5,none⟩=some (.slice ad l1 c1)∧w'.cell? ⟨b2,0,none⟩=some (.slice ad2 l2 c2)
theorem xV.below {b1 b2 sb gs n cap k:Nat} {ad ad2:Option Addr} {l1 c1 l2 c2:Nat} {w w':World} (h:xV b1 b2 sb gs n cap k ad ad2 l1 c1 l2 c2 w) (hb:Below w.heap.size w w'):xV b1 b2 sb gs n cap k ad ad2 l1 c1 l2 c2 w':=by
 obtain ⟨h0,h1,h2,h3⟩:=h
 exact ⟨Below.at' hb (Nat.le_refl _) h0,Below.at' hb (Nat.le_refl _) h1,Below.at' hb (Nat.le_refl _) h2,Below.at' hb (Nat.le_refl _) h3⟩
set_option maxHeartbeats 4000000 in
theorem aVm (B sb hp:Nat) (v vs vk:Value) (L:List Cd) (n:Nat) (T:List (aG×Value)) (ks:List Nat) (big:Bool) (b1 b2 k:Nat) (vc:Value) (c:List Lt) (w:World) (h:bC B w sb hp v vs vk L n T ks big) (x1:Boxed w b1 49 (.pointer (some ⟨sb,0,none⟩))) (x2:Boxed w b2 24 vc) (hc:bK B w vc c) (hcv:kQ (aK T k) c) (hk:k < T.length) :
  Calls Tryz.prog 90 #[.int .i64 (k:Nat),.pointer (some ⟨b1,0,none⟩),.pointer (some ⟨b2,0,none⟩)] w fun e w'=>e=.returned (.bool (bX (aK T k) c))∧Below w.heap.size w w':=by
 obtain ⟨gs,cap,ad,cp,rfl,heq,hsc,hsm⟩:=h.st.cell hk
 clear heq
 rw [←pD hk] at hsc hsm
 obtain ⟨ad2,cp2,rfl⟩:=hc.shape
 obtain ⟨_,_,c2,_,_⟩:=h.cells
 have hS:xV b1 b2 sb gs T.length cap k ad ad2 (aK T k).length cp c.length cp2 w:=⟨x1.cell,c2,hsc,x2.cell⟩
 have CC:=aA (fun (wx:World) (hwx:∃d,wx=w.drewN d)=>(hcv B ad ad2 cp cp2 wx (by obtain ⟨d,rfl⟩:=hwx;exact hsm.below (aJ ⟨d,rfl⟩)) (by obtain ⟨d,rfl⟩:=hwx;exact hc.below (aJ ⟨d,rfl⟩))).mono (R':=fun e w2=>e=.returned (.bool (bX (aK T k) c))∧Below w.heap.size w w2) (fun e w2 he=>by
  obtain ⟨d,rfl⟩:=hwx
  exact ⟨he.1,(aJ ⟨d,rfl⟩).trans he.2⟩))
 have HS:=aA hS
 obtain ⟨s0,s1,s2,s3⟩:=hS
 have hki:(k:Int) < (T.length:Int):=by omega
 have hkz:(0:Int)≤(k:Int):=by omega
 clear h x1 x2 hc hsc hsm c2 hk hcv
 generalize (aK T k).length=l1 at *
 generalize c.length=l2 at *
 generalize T.length=tn at *
 generalize bX (aK T k) c=q at *
 go_enter Tryz.func90,Tryz.ntmps90
 go_wp2
 go_region_held3 (fun w'=>w'.cell? ⟨b1,0,none⟩=some (.pointer (some ⟨sb,0,none⟩))∧w'.cell? ⟨sb,2,none⟩=some (.slice (some ⟨gs,0,none⟩) tn cap)∧w'.cell? ⟨gs,k * 6+5,none⟩=some (.slice ad l1 cp)∧w'.cell? ⟨b2,0,none⟩=some (.slice ad2 l2 cp2)) (go_keep)
  (first
   | (go_at_call 19;refine (aB CC _ (by first | exact ⟨0,rfl⟩ | exact ⟨1,rfl⟩ | exact ⟨_,rfl⟩)).mono ?_;rintro e w2 ⟨rfl,hb2⟩;obtain ⟨k0,k1,k2,k3⟩:=HS.out.below hb2;have HB2:=aA hb2;clear hb2)
   | go_in)
 go_wp2
 go_ret
 exact ⟨rfl,HB2.out⟩
set_option maxHeartbeats 4000000 in
theorem aIg (B sb:Nat) (vs:Value) (T:List (aG×Value)) (b1 b2 k:Nat) (s:aG) (ad2:Option Addr) (cp2:Nat) (w:World) (c2:w.cell? ⟨sb,2,none⟩=some vs) (st:fZ B w vs T) (x1:w.heap[b1]?=some (.cells #[.int .i64 s.r,.int .i64 s.a,.int .i64 s.b,.int .i64 s.i,.int .i64 s.j,.slice ad2 s.c.length cp2] 54 (0,0))) (x2:Boxed w b2 49 (.pointer (some ⟨sb,0,none⟩))) (hc:bK B w (.slice ad2 s.c.length cp2) s.c) (hcv:kQ s.c (aK T k)) (hk:k < T.length) :
  Calls Tryz.prog 60 #[.int .i64 (k:Nat),.pointer (some ⟨b1,0,none⟩),.pointer (some ⟨b2,0,none⟩)] w fun e w'=>e=.returned (.bool (bX s.c (aK T k)))∧Below w.heap.size w w':=by
 obtain ⟨gs,cap,ad,cp,rfl,heq,hsc,hsm⟩:=st.cell hk
 clear heq
 rw [←pD hk] at hsc hsm
 have hb5:w.cell? ⟨b1,5,none⟩=some (.slice ad2 s.c.length cp2):=by simp [World.cell?,x1]
 have CC:=aA (fun (wx:World) (hwx:∃d,wx=w.drewN d)=>(hcv B ad2 ad cp2 cp wx (by obtain ⟨d,rfl⟩:=hwx;exact hc.below (aJ ⟨d,rfl⟩)) (by obtain ⟨d,rfl⟩:=hwx;exact hsm.below (aJ ⟨d,rfl⟩))).mono (R':=fun e w2=>e=.returned (.bool (bX s.c (aK T k)))∧Below w.heap.size w w2) (fun e w2 he=>by
  obtain ⟨d,rfl⟩:=hwx
  exact ⟨he.1,(aJ ⟨d,rfl⟩).trans he.2⟩))
 have s0:=x2.cell
 have s1:=c2
 have s2:=hsc
 have s3:=hb5
 have hki:(k:Int) < (T.length:Int):=by omega
 have hkz:(0:Int)≤(k:Int):=by omega
 clear st x1 x2 hc hsc hsm c2 hk hb5 hcv
 generalize (aK T k).length=l1 at *
 generalize s.c.length=l2 at *
 generalize T.length=tn at *
 generalize bX s.c (aK T k)=q at *
 go_enter Tryz.func60,Tryz.ntmps60
 go_wp2
 go_region_held3 (fun w'=>w'.cell? ⟨b2,0,none⟩=some (.pointer (some ⟨sb,0,none⟩))∧w'.cell? ⟨sb,2,none⟩=some (.slice (some ⟨gs,0,none⟩) tn cap)∧w'.cell? ⟨gs,k * 6+5,none⟩=some (.slice ad l1 cp)∧w'.cell? ⟨b1,5,none⟩=some (.slice ad2 l2 cp2)) (go_keep)
  (first
   | (go_at_call 19;refine (aB CC _ (by first | exact ⟨0,rfl⟩ | exact ⟨1,rfl⟩ | exact ⟨_,rfl⟩)).mono ?_;rintro e w2 ⟨rfl,hb2⟩;have k0:=Below.at' hb2 (Nat.le_refl _) s0;have k1:=Below.at' hb2 (Nat.le_refl _) s1;have k2:=Below.at' hb2 (Nat.le_refl _) s2;have k3:=Below.at' hb2 (Nat.le_refl _) s3;have HB2:=aA hb2;clear hb2)
   | go_in)
 go_wp2
 go_ret
 exact ⟨rfl,HB2.out⟩
set_option maxHeartbeats 4000000 in
theorem aVn (B sb hp:Nat) (v vs vk:Value) (L:List Cd) (n:Nat) (T:List (aG×Value)) (ks:List Nat) (big:Bool) (ad:Option Addr) (cp:Nat) (c:List Lt) (w:World) (h:bC B w sb hp v vs vk L n T ks big) (hc:bK B w (.slice ad c.length cp) c) (hcv:∀k∈ks,kQ (aK T k) c) (hks:∀k∈ks,k < T.length) (hl:ks.length≤1000000) :
  Calls Tryz.prog 57 #[.pointer (some ⟨sb,0,none⟩),.slice ad c.length cp] w fun e w'=>e=.returned (.bool (ks.any fun k=>bX (aK T k) c))∧Below w.heap.size w w':=by
 obtain ⟨ka,kc,rfl⟩:=h.kp.shape
 have hb1:Below w.heap.size w ((w.alloc (.cells #[.pointer (some ⟨sb,0,none⟩)] 49)).alloc (.cells #[.slice ad c.length cp] 24)):=((Below.refl _ w).alloc (Nat.le_refl _) _).alloc (by simp) _
 have hx1:Boxed ((w.alloc (.cells #[.pointer (some ⟨sb,0,none⟩)] 49)).alloc (.cells #[.slice ad c.length cp] 24)) w.heap.size 49 (.pointer (some ⟨sb,0,none⟩)):=(Below.heap_alloc _ _ _ (by simp)).trans (World.alloc_heap_new w _)
 have hx2:Boxed ((w.alloc (.cells #[.pointer (some ⟨sb,0,none⟩)] 49)).alloc (.cells #[.slice ad c.length cp] 24)) (w.heap.size+1) 24 (.slice ad c.length cp):=by
  have:=World.alloc_heap_new (w.alloc (.cells #[.pointer (some ⟨sb,0,none⟩)] 49)) (.cells #[.slice ad c.length cp] 24)
  rwa [World.size_alloc] at this
 have h1:=h.below hb1
 have CC:=aA (aUo B w.heap.size (w.heap.size+1) (fun k=>bX (aK T k) c) ka kc ks _ h1.kp hl (fun k hk wx hwx=>aVm B sb hp v vs _ L n T ks big w.heap.size (w.heap.size+1) k (.slice ad c.length cp) c wx (h1.below hwx) ((bO (S:=bM) hwx).boxed hx1 (by decide)) ((bO (S:=bM) hwx).boxed hx2 (by decide)) ((hc.below hb1).below hwx) (hcv k hk) (hks k hk)))
 obtain ⟨_,_,_,c3,_⟩:=h1.cells
 have HB1:=aA hb1
 clear h hc h1 hx1 hx2 hb1 hks hcv
 go_enter Tryz.func57,Tryz.ntmps57
 go_wp2_with (first
  | (go_at_call 89;refine (aB CC).mono ?_;rintro e w2 ⟨rfl,hb2⟩;have HB2:=aA (HB1.out.trans (hb2.mono (by have:=HB1.out.size;simpa using this)));clear hb2)
  | go_in)
 go_ret
 exact ⟨rfl,HB2.out⟩
theorem aIh:∀(f:Nat) (L:List Cd) (k:Nat) (x:Cd),x∈jW f L k→x∈L
 | 0,_,_,_,h=>h
 | f+1,L,k,x,h=>by
  unfold jW at h
  split at h
  ·have:=aIh f _ _ x h
   unfold mT at this
   rcases List.mem_or_eq_of_mem_set this with h1 | rfl
   ·rcases List.mem_or_eq_of_mem_set h1 with h2 | rfl
    ·exact h2
    ·exact List.getElem_mem _
   ·exact List.getElem_mem _
  ·exact h
theorem vB {L:List Cd} {x:Cd} (h:x∈iO L):x∈L:=by
 unfold iO at h
 cases hl:L.getLast? with
 | none=>rw [hl] at h;simp at h
 | some y=>
  rw [hl] at h
  have h1:=List.mem_of_mem_take (aIh _ _ _ _ h)
  rcases List.mem_or_eq_of_mem_set h1 with h2 | rfl
  ·exact h2
  ·exact List.mem_of_getLast? hl
theorem aVo (L:List Cd):(iO L).length=L.length - 1:=by
 unfold iO
 cases hl:L.getLast? with
 | none=>rw [List.getLast?_eq_none_iff.1 hl];rfl
 | some y=>simp only;rw [aHk];simp
def jL (cov:List Lt→Bool):Nat→List Cd→Option (Cd×List Cd)
 | 0,_=>none
 | f+1,L=>match L with
  | []=>none
  | x :: r=>if cov x.c then jL cov f (iO (x :: r)) else some (x,iO (x :: r))
def xW (w:World) (hp:Nat):Nat:=match w.cell? ⟨hp,0,none⟩ with | some (.slice _ n _)=>n | _=>0
theorem bT.len {B:Nat} {w:World} {hp:Nat} {v:Value} {L:List Cd} (h:bT B w hp v L):xW w hp=L.length:=by
 obtain ⟨a,c,rfl⟩:=aR h.row
 unfold xW
 rw [h.c0.1]
def qJ (x:Cd):Value:=.agg #[.int .i64 x.r,.int .i64 x.a,.int .i64 x.b,.int .i64 x.i,.int .i64 x.j,.slice x.ad x.ln x.cp]
def aVp (B:Nat) (w:World) (sb hp:Nat) (vs vk:Value) (L:List Cd) (n:Nat) (T:List (aG×Value)) (ks:List Nat) (big:Bool) (e:Ending) (w':World):Prop:=
 ∃v',Mv bM B w w'∧((jL (fun c=>ks.any fun k=>bX (aK T k) c) L.length L=none∧e=.returned (.tuple #[qJ fQ,.bool false])∧bC B w' sb hp v' vs vk [] n T ks big)∨
  ∃x L',jL (fun c=>ks.any fun k=>bX (aK T k) c) L.length L=some (x,L')∧e=.returned (.tuple #[qJ x,.bool true])∧bC B w' sb hp v' vs vk L' n T ks big∧bK B w' (.slice x.ad x.ln x.cp) x.c∧x.ln=x.c.length)
def S6 (w:World) (b:Nat) (x:Cd):Prop:=w.heap[b]?=some (.cells #[.int .i64 x.r,.int .i64 x.a,.int .i64 x.b,.int .i64 x.i,.int .i64 x.j,.slice x.ad x.ln x.cp] 54 (0,0))
def rR (w:World) (b:Nat) (x:Cd):World:=((((((w.setCell ⟨b,0,none⟩ (.int .i64 x.r)).setCell ⟨b,1,none⟩ (.int .i64 x.a)).setCell ⟨b,2,none⟩ (.int .i64 x.b)).setCell ⟨b,3,none⟩ (.int .i64 x.i)).setCell ⟨b,4,none⟩ (.int .i64 x.j)).setCell ⟨b,5,none⟩ (.slice x.ad x.ln x.cp))
theorem S6.cells {w:World} {b:Nat} {x:Cd} (h:S6 w b x):w.cell? ⟨b,0,none⟩=some (.int .i64 x.r)∧w.cell? ⟨b,1,none⟩=some (.int .i64 x.a)∧w.cell? ⟨b,2,none⟩=some (.int .i64 x.b)∧w.cell? ⟨b,3,none⟩=some (.int .i64 x.i)∧w.cell? ⟨b,4,none⟩=some (.int .i64 x.j)∧w.cell? ⟨b,5,none⟩=some (.slice x.ad x.ln x.cp):=by
 refine ⟨?_,?_,?_,?_,?_,?_⟩ <;> simp [World.cell?,show w.heap[b]?=_ from h]
theorem S6.frz {w:World} {b:Nat} {x:Cd} (h:S6 w b x) (k:Nat):w.frozen? ⟨b,k,none⟩=false:=by simp [World.frozen?,show w.heap[b]?=_ from h]
theorem S6.below {w w':World} {b:Nat} {x:Cd} (h:S6 w b x) (hb:Below w.heap.size w w'):S6 w' b x:=(hb.block b (Array.getElem?_eq_some_iff.1 h).1).trans h
theorem S6.put {w:World} {b:Nat} {x y:Cd} (h:S6 w b x):S6 (rR w b y) b y∧w.grownBy (rR w b y) (some b):=by
 have hs:∀(u:World) (cs:Array Value) (k:Nat) (v:Value),u.heap[b]?=some (.cells cs 54 (0,0))→(u.setCell ⟨b,k,none⟩ v).heap[b]?=some (.cells (cs.setIfInBounds k v) 54 (0,0)):=fun u cs k v hu=>by
  have hlt:=(Array.getElem?_eq_some_iff.1 hu).1
  show (u.heap.modify b _)[b]?=_
  rw [Array.getElem?_eq_getElem (by rw [Array.size_modify];exact hlt),Array.getElem_modify_self,(Array.getElem?_eq_some_iff.1 hu).2]
  rfl
 constructor
 ·unfold S6 rR
  rw [hs _ _ 5 _ (hs _ _ 4 _ (hs _ _ 3 _ (hs _ _ 2 _ (hs _ _ 1 _ (hs _ _ 0 _ h)))))]
  simp
 ·unfold rR
  have h:∀(u:World) (k:Nat) (v:Value),w.grownBy u (some b)→w.grownBy (u.setCell ⟨b,k,none⟩ v) (some b):=fun u k v hu=>jK hu (cB u ⟨b,k,none⟩ v)
  exact h _ _ _ (h _ _ _ (h _ _ _ (h _ _ _ (h _ _ _ (h _ _ _ ⟨rfl,rfl,rfl,Nat.le_refl _,fun _ _ _=>rfl⟩)))))
theorem Mv.newput {S:List TypeId} {B:Nat} {w w3 w4:World} {r:Nat} (h:Mv S B w w3) (hg:w3.grownBy w4 (some r)) (hr:w.heap.size≤r):Mv S B w w4:=
 ⟨hg.os.trans h.os,hg.tape.trans h.tape,hg.output.trans h.output,Nat.le_trans h.size hg.size,fun k o hk ho=>by
  have hlt:=(Array.getElem?_eq_some_iff.1 hk).1
  exact (hg.block k (Nat.lt_of_lt_of_le hlt h.size) (by simp;omega)).trans (h.keep k o hk ho)⟩
theorem bC.other {B:Nat} {w w':World} {sb hp:Nat} {v vs vk:Value} {L:List Cd} {n:Nat} {T:List (aG×Value)} {ks:List Nat} {big:Bool} {r:Nat} {x:Cd} (h:bC B w sb hp v vs vk L n T ks big) (hg:w.grownBy w' (some r)) (hr:S6 w r x) (hne:vs.ownBlock≠some r):bC B w' sb hp v vs vk L n T ks big:=by
 have hm:Mv [54] 0 w w':=Mv.of_grown hg (fun k hk=>by cases hk;exact ⟨Nat.zero_le _,_,_,hr,by simp⟩)
 exact ⟨hm.cells h.box (by decide),⟨hm.cells h.heap.box (by decide),hm.row h.heap.row (by decide),h.heap.base⟩,⟨cX h.st.row hg (Or.inr hne),fun p hp=>hm.clause (h.st.cl p hp) (by decide) (by decide)⟩,hm.row h.kp (by decide),fun x hx=>⟨hm.clause (h.cl x hx).1 (by decide) (by decide),(h.cl x hx).2⟩,h.base⟩
set_option maxHeartbeats 8000000 in
theorem aVq (B sb hp:Nat) (v vs vk:Value) (L:List Cd) (n:Nat) (T:List (aG×Value)) (ks:List Nat) (big:Bool) (w:World) (h:bC B w sb hp v vs vk L n T ks big) (hcv:∀x∈L,∀k∈ks,kQ (aK T k) x.c) (hks:∀k∈ks,k < T.length) (hl:ks.length≤1000000) (hL:L.length≤1000000) (hB:B≤w.heap.size) :
  Calls Tryz.prog 36 #[.pointer (some ⟨sb,0,none⟩)] w fun e w'=>aVp B w sb hp vs vk L n T ks big e w':=by
 have HH:=aA h
 have HKS:=aA hks
 have HIL:=aA hcv
 clear h hks hcv
 go_enter Tryz.func36,Tryz.ntmps36
 go_wp2
 go_loopw [] (fun wr=>∃(f:Nat) (M:List Cd) (v':Value),bC B wr sb hp v' vs vk M n T ks big∧M.length≤f∧M.length≤L.length∧(∀x∈M,x∈L)∧jL (fun c=>ks.any fun k=>bX (aK T k) c) f M=jL (fun c=>ks.any fun k=>bX (aK T k) c) L.length L∧Mv bM B w wr∧w.heap.size < wr.heap.size∧S6 wr w.heap.size fQ) (fun wr=>xW wr hp)
 case atStart=>
  have hb:Below w.heap.size w (w.alloc (.cells #[.int .i64 0,.int .i64 0,.int .i64 0,.int .i64 0,.int .i64 0,.slice none 0 0] 54)):=(Below.refl _ w).alloc (Nat.le_refl _) _
  exact ⟨L.length,L,v,HH.out.below hb,Nat.le_refl _,Nat.le_refl _,fun _ hx=>hx,rfl,Mv.of_below hb,by simp,World.alloc_heap_new w _⟩
 case round=>
  obtain ⟨f,M,v',hI,hf,hML,hsub,hnx,hm,hsz,hbx⟩:=hrel
  obtain ⟨c0,_,_,_,_⟩:=hI.cells
  have hvs:vs.ownBlock≠some w.heap.size:=fun e=>by have:=(bY HH.out.st.row _ e).2;omega
  cases M with
  | nil=>
   have CP:=aA (aUe B hp v' wr hI.heap)
   unfold Cd.agg fQ at CP
   have HI:=aA hI
   have HM:=aA hm
   have hnone:jL (fun c=>ks.any fun k=>bX (aK T k) c) L.length L=none:=by
    rw [←hnx]
    cases f <;> rfl
   have HNX:=aA hnone
   have HBX:=aA hbx
   clear hI hm hnx hsub hbx hnone
   simp only at CP
   go_wp2_with (first
    | (go_at_call 56;refine (aB CP).mono ?_;rintro e w2 ⟨rfl,hb2⟩;have HA:=aA (fun o=>HBX.out.below (hb2.alloc hb2.size o));obtain ⟨q0,q1,q2,q3,q4,q5⟩ : (∀o,(w2.alloc o).cell? ⟨w.heap.size,0,none⟩=some (.int .i64 0))∧(∀o,(w2.alloc o).cell? ⟨w.heap.size,1,none⟩=some (.int .i64 0))∧(∀o,(w2.alloc o).cell? ⟨w.heap.size,2,none⟩=some (.int .i64 0))∧(∀o,(w2.alloc o).cell? ⟨w.heap.size,3,none⟩=some (.int .i64 0))∧(∀o,(w2.alloc o).cell? ⟨w.heap.size,4,none⟩=some (.int .i64 0))∧(∀o,(w2.alloc o).cell? ⟨w.heap.size,5,none⟩=some (.slice none 0 0)):=⟨fun o=>(HA.out o).cells.1,fun o=>(HA.out o).cells.2.1,fun o=>(HA.out o).cells.2.2.1,fun o=>(HA.out o).cells.2.2.2.1,fun o=>(HA.out o).cells.2.2.2.2.1,fun o=>(HA.out o).cells.2.2.2.2.2⟩;have qz:∀o k,(w2.alloc o).frozen? ⟨w.heap.size,k,none⟩=false:=(fun o k=>(HA.out o).frz k);have HB2:=aA hb2;clear hb2)
    | go_in)
   have hA:=HA.out (.cells #[.int .i64 0,.int .i64 0,.int .i64 0,.int .i64 0,.int .i64 0,.slice none 0 0,.int .i64 0,.int .i64 0] 82)
   have hb3:Below wr.heap.size wr (w2.alloc (.cells #[.int .i64 0,.int .i64 0,.int .i64 0,.int .i64 0,.int .i64 0,.slice none 0 0,.int .i64 0,.int .i64 0] 82)):=HB2.out.alloc HB2.out.size _
   obtain ⟨hp6,hg6⟩:=hA.put (y:=fQ)
   obtain ⟨t0,t1,t2,t3,t4,t5⟩:=hp6.cells
   refine bodyPost_ret (v:=.tuple #[qJ fQ,.bool false]) (w:=rR (w2.alloc (.cells #[.int .i64 0,.int .i64 0,.int .i64 0,.int .i64 0,.int .i64 0,.slice none 0 0,.int .i64 0,.int .i64 0] 82)) w.heap.size fQ) (by simp [results,Tryz.results36,go_sem,t0,t1,t2,t3,t4,t5,qJ];try rfl) rfl ?_
   exact ⟨v',(HM.out.trans (Mv.of_below hb3)).newput hg6 (Nat.le_refl _),.inl ⟨HNX.out,rfl,(HI.out.below hb3).other hg6 hA hvs⟩⟩
  | cons x r=>
   have hx:∀k∈ks,kQ (aK T k) x.c:=HIL.out x (hsub x (by simp))
   have hxc:=hI.cl x (by simp)
   have hpl:=aVo (x :: r)
   have CP:=aA ((aUf B hp v' (x :: r) wr hI.heap (by simp) (by omega) (Nat.le_trans hB (Nat.le_of_lt hsz))).mono (R':=fun e w2=>e=.returned (.tuple #[.agg #[.int .i64 x.r,.int .i64 x.a,.int .i64 x.b,.int .i64 x.i,.int .i64 x.j,.slice x.ad x.ln x.cp,.int .i64 x.wt,.int .i64 x.nm],.bool true])∧∃v2,bC B w2 sb hp v2 vs vk (iO (x :: r)) n T ks big∧Mv bM B wr w2∧bK B w2 (.slice x.ad x.ln x.cp) x.c∧S6 w2 w.heap.size fQ) (fun e w2 he=>by
    obtain ⟨h1,v2,h2,h3⟩:=he
    exact ⟨h1,v2,hI.pushed h3 h2 (fun y hy=>hI.cl y (vB hy)),h3.mono (by decide) (Nat.le_refl _),h3.clause hxc.1 (by decide) (by decide),h3.cells hbx (by decide)⟩))
   obtain ⟨f,rfl⟩ : ∃f',f=f'+1:=⟨f - 1,by simp at hf;omega⟩
   have hst:jL (fun c=>ks.any fun k=>bX (aK T k) c) (f+1) (x :: r)=if (ks.any fun k=>bX (aK T k) x.c) then jL (fun c=>ks.any fun k=>bX (aK T k) c) f (iO (x :: r)) else some (x,iO (x :: r)):=rfl
   rw [hst] at hnx
   have hlen:xW wr hp=(x :: r).length:=hI.heap.len
   have hsub2:∀y∈iO (x :: r),y∈L:=fun y hy=>hsub y (vB hy)
   have hlp:(iO (x :: r)).length≤f:=by rw [hpl];simp at hf ⊢;exact hf
   have hlp2:(iO (x :: r)).length≤L.length:=by rw [hpl];simp at hML ⊢;omega
   have hlp3:(iO (x :: r)).length < (x :: r).length:=by rw [hpl];simp
   generalize hpp:iO (x :: r)=M' at *
   generalize hmm:(x :: r).length=ml at *
   have HM:=aA hm
   have HNX:=aA hnx
   have HS2:=aA hsub2
   have HLN:=aA hlen
   have HXL:=aA hxc.2
   have HX:=aA hx
   clear hI hm hnx hsub hbx hst hpl hpp hmm hsub2 hx hxc hlen
   have CC:=aA (fun (w2:World) (v2:Value) (hS:bC B w2 sb hp v2 vs vk M' n T ks big) (hc:bK B w2 (.slice x.ad x.ln x.cp) x.c) (o:Obj)=>(show Calls Tryz.prog 57 #[.pointer (some ⟨sb,0,none⟩),.slice x.ad x.ln x.cp] (w2.alloc o) fun e w'=>e=.returned (.bool (ks.any fun k=>bX (aK T k) x.c))∧Below (w2.alloc o).heap.size (w2.alloc o) w' from by
    have hbo:Below w2.heap.size w2 (w2.alloc o):=(Below.refl _ w2).alloc (Nat.le_refl _) o
    have:=aVn B sb hp v2 vs vk M' n T ks big x.ad x.cp x.c (w2.alloc o) (hS.below hbo) (by rw [←HXL.out];exact hc.below hbo) HX.out HKS.out hl
    rw [←HXL.out] at this
    exact this))
   cases hcov:(ks.any fun k=>bX (aK T k) x.c)
   ·rw [hcov] at CC HNX
    clear hcov
    go_wp2_with (first
     | (go_at_call 57;refine (aB CC w2 v2 HSS.out HCL.out _).mono ?_;rintro e w3 ⟨rfl,hb3⟩;obtain ⟨p0,p1,p2,p3,p4,p5,_,_⟩:=((show gG (w2.alloc (.cells #[.int .i64 x.r,.int .i64 x.a,.int .i64 x.b,.int .i64 x.i,.int .i64 x.j,.slice x.ad x.ln x.cp,.int .i64 x.wt,.int .i64 x.nm] 82)) w2.heap.size x from World.alloc_heap_new w2 _).below hb3).cells;have hS6:=(HS6.out.below ((Below.refl _ w2).alloc (Nat.le_refl _) (.cells #[.int .i64 x.r,.int .i64 x.a,.int .i64 x.b,.int .i64 x.i,.int .i64 x.j,.slice x.ad x.ln x.cp,.int .i64 x.wt,.int .i64 x.nm] 82))).below hb3;obtain ⟨q0,q1,q2,q3,q4,q5⟩:=hS6.cells;have qz:=hS6.frz;have HA:=aA hS6;have HB3:=aA hb3;clear hb3 hS6)
     | (go_at_call 56;refine (aB CP).mono ?_;rintro e w2 ⟨rfl,v2,hS2,hm2,hc2,h62⟩;have HSS:=aA hS2;have HCL:=aA hc2;have HS6:=aA h62;have HM2:=aA (HM.out.trans hm2);clear hS2 hc2 h62 hm2)
     | go_in)
    have hb4:Below w2.heap.size w2 w3:=((Below.refl _ w2).alloc (Nat.le_refl _) (.cells #[.int .i64 x.r,.int .i64 x.a,.int .i64 x.b,.int .i64 x.i,.int .i64 x.j,.slice x.ad x.ln x.cp,.int .i64 x.wt,.int .i64 x.nm] 82)).trans (HB3.out.mono (by simp))
    obtain ⟨hp6,hg6⟩:=HA.out.put (y:=x)
    obtain ⟨t0,t1,t2,t3,t4,t5⟩:=hp6.cells
    refine bodyPost_ret (v:=.tuple #[qJ x,.bool true]) (w:=rR w3 w.heap.size x) (by simp [results,Tryz.results36,go_sem,t0,t1,t2,t3,t4,t5,qJ];try rfl) rfl ?_
    have hm6:Mv [54] 0 w3 (rR w3 w.heap.size x):=Mv.of_grown hg6 (fun k hk=>by cases hk;exact ⟨Nat.zero_le _,_,_,HA.out,by simp⟩)
    exact ⟨v2,(HM2.out.trans (Mv.of_below hb4)).newput hg6 (Nat.le_refl _),.inr ⟨x,M',by have:=HNX.out;simpa using this.symm,rfl,(HSS.out.below hb4).other hg6 HA.out hvs,hm6.clause (HCL.out.below hb4) (by decide) (by decide),HXL.out⟩⟩
   ·rw [hcov] at CC HNX
    clear hcov
    go_wp2_with (first
     | (go_at_call 57;refine (aB CC w2 v2 HSS.out HCL.out _).mono ?_;rintro e w3 ⟨rfl,hb3⟩;have HB3:=aA hb3;clear hb3)
     | (go_at_call 56;refine (aB CP).mono ?_;rintro e w2 ⟨rfl,v2,hS2,hm2,hc2,h62⟩;have HSS:=aA hS2;have HCL:=aA hc2;have HS6:=aA h62;have HM2:=aA (HM.out.trans hm2);clear hS2 hc2 h62 hm2)
     | go_in)
    have hb4:Below w2.heap.size w2 w3:=((Below.refl _ w2).alloc (Nat.le_refl _) (.cells #[.int .i64 x.r,.int .i64 x.a,.int .i64 x.b,.int .i64 x.i,.int .i64 x.j,.slice x.ad x.ln x.cp,.int .i64 x.wt,.int .i64 x.nm] 82)).trans (HB3.out.mono (by simp))
    have hs4:=hb4.size
    have hs5:=HM2.out.size
    have hs6:=(Array.getElem?_eq_some_iff.1 HS6.out).1
    exact ⟨⟨f,M',v2,HSS.out.below hb4,hlp,hlp2,HS2.out,by have:=HNX.out;simpa using this,HM2.out.trans (Mv.of_below hb4),by omega,HS6.out.below hb4⟩,by rw [(HSS.out.below hb4).heap.len,HLN.out];exact hlp3⟩
end Go.Proofs.YtbddofieljiihaaGreatDoor
