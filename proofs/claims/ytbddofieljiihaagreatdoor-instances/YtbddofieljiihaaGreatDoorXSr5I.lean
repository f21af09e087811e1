/- The search: the heap is made; nothing was above its size: closed. The search: the answer. -/
import Derived.Test.YtbddofieljiihaaGreatDoorXFacI
namespace Go.Proofs.YtbddofieljiihaaGreatDoor
open Go.RowKit Go.Shelf Go.WideMaps
set_option maxRecDepth 100000
set_option maxHeartbeats 2000000 in
theorem aVv (B:Nat) (w:World) (hB:B≤w.heap.size) :
  Calls Tryz.prog 33 #[.func (.func 34) #[] #[]] w fun e w'=>e=.returned (.pointer (some ⟨w.heap.size,0,none⟩))∧bT B w' w.heap.size (.slice none 0 0) []∧Below w.heap.size w w':=by
 go_enter Tryz.func33,Tryz.ntmps33
 go_wp2
 go_ret
 exact ⟨rfl,⟨World.alloc_heap_new w _,World.ownsRow_nil _ _ _ _,hB⟩,(Below.refl _ w).alloc (Nat.le_refl _) _⟩
set_option maxHeartbeats 2000000 in
theorem aVw (B sb hp:Nat) (v vs vk:Value) (L:List Cd) (n:Nat) (T:List (aG×Value)) (ks:List Nat) (w:World) (h:bC B w sb hp v vs vk L n T ks false) :
  Calls Tryz.prog 37 #[.pointer (some ⟨sb,0,none⟩)] w fun e w'=>e=.returned (.bool true)∧Below w.heap.size w w':=by
 obtain ⟨_,_,_,_,c4⟩:=h.cells
 have c4a:=fun X=>Below.at' ((Below.refl w.heap.size w).alloc (Nat.le_refl _) X) (Nat.le_refl _) c4
 clear h
 go_enter Tryz.func37,Tryz.ntmps37
 go_wp2
 go_returns
 exact ⟨rfl,(Below.refl _ w).alloc (Nat.le_refl _) _⟩
set_option maxHeartbeats 2000000 in
theorem aVx (B sb hp:Nat) (v vk:Value) (L:List Cd) (n:Nat) (T:List (aG×Value)) (ks:List Nat) (big:Bool) (va:Option Addr) (tn vc:Nat) (w:World) (h:bC B w sb hp v (.slice va tn vc) vk L n T ks big) (hb:1≤tn) (ht:tn≤1000000) :
  Calls Tryz.prog 21 #[.pointer (some ⟨sb,0,none⟩),.int .i64 1] w fun e w'=>e=.returned (.agg #[.int .i64 1,.slice va tn vc,.slice none 0 0,.int .i64 ((tn - 1:Nat):Int),.bool big])∧Below w.heap.size w w':=by
 obtain ⟨_,_,c2,_,c4⟩:=h.cells
 have c2a:=fun X=>Below.at' ((Below.refl w.heap.size w).alloc (Nat.le_refl _) X) (Nat.le_refl _) c2
 have c4a:=fun X=>Below.at' ((Below.refl w.heap.size w).alloc (Nat.le_refl _) X) (Nat.le_refl _) c4
 have hww:IntKind.i64.wrap ((tn:Int) - 1)=(tn:Int) - 1:=by rw [IntKind.wrap_i64];omega
 clear h
 go_enter Tryz.func21,Tryz.ntmps21
 go_wp2_with fail
 go_region_held3 (fun w'=>w'.cell? ⟨sb,2,none⟩=some (.slice va tn vc)∧w'.cell? ⟨sb,4,none⟩=some (.bool big)) (go_keep) (fail)
 all_goals
  go_wp2_with fail
  go_returns
  refine ⟨by rw [show ((tn - 1:Nat):Int)=(tn:Int) - 1 by omega],?_⟩
  exact (((Below.refl _ w).alloc (Nat.le_refl _) _).alloc (by simp) _).trans (Below.mono (aJ ⟨1,rfl⟩) (by simp;omega))
set_option maxHeartbeats 2000000 in
theorem aVy (B sb hp:Nat) (v:Value) (L:List Cd) (n:Nat) (T:List (aG×Value)) (ks:List Nat) (big:Bool) (va ka:Option Addr) (tn vc kn kc:Nat) (w:World) (h:bC B w sb hp v (.slice va tn vc) (.slice ka kn kc) L n T ks big) :
  Calls Tryz.prog 21 #[.pointer (some ⟨sb,0,none⟩),.int .i64 2] w fun e w'=>e=.returned (.agg #[.int .i64 2,.slice va tn vc,.slice ka kn kc,.int .i64 tn,.bool big])∧Below w.heap.size w w':=by
 obtain ⟨_,_,c2,c3,c4⟩:=h.cells
 have c2a:=fun X=>Below.at' ((Below.refl w.heap.size w).alloc (Nat.le_refl _) X) (Nat.le_refl _) c2
 have c3a:=fun X=>Below.at' ((Below.refl w.heap.size w).alloc (Nat.le_refl _) X) (Nat.le_refl _) c3
 have c4a:=fun X=>Below.at' ((Below.refl w.heap.size w).alloc (Nat.le_refl _) X) (Nat.le_refl _) c4
 clear h
 go_enter Tryz.func21,Tryz.ntmps21
 go_wp2_with fail
 go_region_held3 (fun w'=>w'.cell? ⟨sb,2,none⟩=some (.slice va tn vc)∧w'.cell? ⟨sb,3,none⟩=some (.slice ka kn kc)∧w'.cell? ⟨sb,4,none⟩=some (.bool big)) (go_keep) (fail)
 all_goals
  go_wp2_with fail
  go_returns
  refine ⟨rfl,?_⟩
  exact (((Below.refl _ w).alloc (Nat.le_refl _) _).alloc (by simp) _).trans (Below.mono (aJ ⟨1,rfl⟩) (by simp;omega))
end Go.Proofs.YtbddofieljiihaaGreatDoor
