/- The program: a variable is bound, and is freed. -/
import Derived.Test.YtjnddclkdofgdaaDoorCMem2
import Derived.Test.YtjnddclkdofgdaaDoorPClause
namespace Go.Proofs.YtjnddclkdofgdaaDoor
open Go.RowKit Go.Shelf
set_option maxRecDepth 100000

set_option maxHeartbeats 400000 in
theorem bind_known (B g cap : Nat) (x : Int) (a : Addr) (t t' : List Nd) (dv : Value) (L : Bd') (w : World) (hM : MIn w B g dv L) (h0 : 0 ≤ x) (h1 : x < 60) (hN : NodesB w B (some a) t) (hl : look L x = some t') :
    Calls Tryd.prog 129 #[.pointer (some ⟨g, 0, none⟩), .int .i64 x, .slice (some a) t.length cap] w fun e w' => e = .returned (.bool (decide (t' = t))) ∧ MIn w' B g dv L ∧ Fr B w w' := by
  obtain ⟨m, rfl⟩ : ∃ m : Nat, x = m := ⟨x.toNat, by omega⟩
  obtain ⟨v, hv, hT⟩ := hM.term m (by omega)
  rw [hl] at hT
  obtain ⟨a', cap', rfl, hN'⟩ := hT
  have CE := hide (equal_any (some a') (some a) cap' cap t' t w hN'.nodes hN.nodes)
  have HM := hide hM
  clear hM hN hN' hl
  go_enter Tryd.func129, Tryd.ntmps129
  go_wp2_with (go_at_call 109; refine (unhide CE).mono ?_; rintro e w1 ⟨rfl, hd⟩; have HD := hide hd; clear hd)
  go_ret
  exact ⟨rfl, HM.out.drawn HD.out, (Fr.refl _ _).drawn HD.out⟩

set_option maxHeartbeats 400000 in
theorem bind_new (B g cap : Nat) (x : Int) (a : Addr) (t : List Nd) (dv : Value) (L : Bd') (w : World) (hM : MIn w B g dv L) (h0 : 0 ≤ x) (h1 : x < 60) (hN : NodesB w B (some a) t) (hl : look L x = none) (ht : termGo t 1 = true) (h60 : t.length ≤ 60) :
    Calls Tryd.prog 129 #[.pointer (some ⟨g, 0, none⟩), .int .i64 x, .slice (some a) t.length cap] w fun e w' => e = .returned (.bool true) ∧ MIn w' B g dv (L ++ [(x, t)]) ∧ Fr B w w' := by
  obtain ⟨iI, hI, hI0, hI1, hI2⟩ := info_parts infoInt
  obtain ⟨m, rfl⟩ : ∃ m : Nat, x = m := ⟨x.toNat, by omega⟩
  obtain ⟨v, hv, hT⟩ := hM.term m (by omega)
  rw [hl] at hT
  obtain rfl : v = .slice none 0 0 := hT
  obtain ⟨bv, hbv, ho⟩ := hM.bound
  have hfz := hM.frozen (1 + m)
  have hfz2 := hM.frozen 61
  have hap := hM.apart ho
  have hlen := hM.ok.few
  have hlow := hM.low
  have hgl := hM.lt
  have HM := hide hM
  have o1 := own_setCell ho (p := ⟨g, 1 + m, none⟩) hap (.slice (some a) t.length cap)
  have HO := hide ho
  have HN := hide hN
  have HL := hide hl
  have HT := hide ht
  have HP := hide hap
  clear hM ho hN hl ht hap
  go_enter Tryd.func129, Tryd.ntmps129
  go_wp2_with (first
    | (at_builtin; refine wpList_append_own _ rfl _ _ 34 rfl B 3 iI (.int .i64 0) 1 8 Tryd.underlying34 hI hI0 hI1 hI2 rfl (by decide) _ _ _ rfl (o1.alloc _) ⟨w.heap.size, 0, none⟩ 1 1 [.int .i64 (m : Int)] (by rfl) rfl ?d1 ?d2 ?d3 ?d4 ?d5 ?_)
    | go_in)
  case d1 => exact new1 _ _ _ _ (by simp [World.setCell])
  case d2 => exact one1 _
  case d3 => unfold maxLen; omega
  case d4 => omega
  case d5 => simp [World.setCell]; omega
  intro v' w2 ho2 hg2 _
  obtain ⟨va, vcp, rfl⟩ := own_shape ho2
  have R := hide (HM.out.more (by omega) HL.out HN.out HT.out h60 HO.out hg2 ho2)
  have hc61 : w2.cell? ⟨g, 61, none⟩ = some bv := hg2.cell (Below.at' ((Below.refl _ _).alloc (Nat.le_refl _) _) (Nat.le_refl _) (by rw [World.cell?_setCell_other w _ _ _ (by first | (simp; done) | (simp; omega))]; exact hbv)) HP.out
  have hfz3 : w2.frozen? ⟨g, 61, none⟩ = false := by
    rw [World.frozen?_of_block (hg2.block g (by simp [World.setCell]; omega) HP.out), World.frozen?_of_block (a := ⟨g, 61, none⟩) (heap_alloc_old _ _ (show g < _ by simp [World.setCell]; omega)), World.frozen?_setCell]
    exact hfz2
  clear ho2 hg2 o1
  go_wp2
  go_ret
  exact ⟨rfl, R.out⟩

end Go.Proofs.YtjnddclkdofgdaaDoor
