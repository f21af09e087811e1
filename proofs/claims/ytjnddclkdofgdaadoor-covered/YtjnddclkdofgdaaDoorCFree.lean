/- The program: variables are freed. -/
import Derived.Test.YtjnddclkdofgdaaDoorCMatch
namespace Go.Proofs.YtjnddclkdofgdaaDoor
open Go.RowKit Go.Shelf
set_option maxRecDepth 100000

theorem own_front {w : World} {B : Nat} {e : TypeId} {g cap n m : Nat} {xs : List Value} (h : w.ownsRow B e 1 (.slice (some ⟨g, 0, none⟩) n cap) n xs) (hm : m ≤ n) : w.ownsRow B e 1 (.slice (some ⟨g, 0, none⟩) m cap) m (xs.take m) := by
  obtain ⟨h1, ⟨h, _⟩ | ⟨g', cap', cur, hv, hb, hh, hc, hx, hz, ht⟩⟩ := h
  · simp at h
  · obtain ⟨rfl, rfl⟩ : g = g' ∧ cap = cap' := by simpa using hv
    refine ⟨by simp; omega, Or.inr ⟨g, cap, cur, rfl, hb, hh, by omega, hx, hz, ?_⟩⟩
    rw [← ht, List.take_take]
    congr 1
    omega
/-- While variables are freed. -/
structure Freed (w wr : World) (B g : Nat) (dv bv : Value) (M : Bd') : Prop where
  blk : MBlk wr g
  fr : Fr B w wr
  rest : ∀ k, k ≠ g → wr.heap[k]? = w.heap[k]?
  among : wr.cell? ⟨g, 0, none⟩ = some dv
  term : ∀ x : Nat, x < 60 → wr.cell? ⟨g, 1 + x, none⟩ = if (x : Int) ∈ M.map Prod.fst then some (.slice none 0 0) else w.cell? ⟨g, 1 + x, none⟩
  bound : wr.cell? ⟨g, 61, none⟩ = some bv
theorem Freed.start {w : World} {B g : Nat} {dv bv : Value} {L : Bd'} (h : MIn w B g dv L) (hb : w.cell? ⟨g, 61, none⟩ = some bv) : Freed w w B g dv bv [] :=
  ⟨h.blk, Fr.refl _ _, fun _ _ => rfl, h.among, fun x _ => by simp, hb⟩
theorem Freed.step {w wr : World} {B g m : Nat} {dv bv : Value} {M : Bd'} {p : Int × List Nd} (h : Freed w wr B g dv bv M) (hB : B ≤ g) (hm : m < 60) (hp : p.1 = (m : Int)) (hc : ∃ u, wr.cell? ⟨g, 1 + m, none⟩ = some u) : Freed w (wr.setCell ⟨g, 1 + m, none⟩ (.slice none 0 0)) B g dv bv (M ++ [p]) := by
  obtain ⟨u, hu⟩ := hc
  refine ⟨h.blk.set _ _, h.fr.trans (Fr.setB hB h.blk _ _), fun k hk => by rw [heap_setCell_other _ _ _ _ (by simpa using hk)]; exact h.rest k hk, ?_, fun x hx => ?_, ?_⟩
  · rw [World.cell?_setCell_other wr _ _ _ (by first | (simp; done) | (simp; omega))]; exact h.among
  · by_cases hxm : x = m
    · subst hxm
      rw [World.cell?_setCell_same wr _ _ hu, if_pos (by simp [hp])]
    · rw [World.cell?_setCell_other wr _ _ _ (by first | (simp; done) | (simp; omega)), h.term x hx]
      have : ((x : Int) ∈ (M ++ [p]).map Prod.fst) ↔ ((x : Int) ∈ M.map Prod.fst) := by
        rw [List.map_append, List.mem_append]
        simp [hp]
        omega
      simp only [this]
  · rw [World.cell?_setCell_other wr _ _ _ (by first | (simp; done) | (simp; omega))]; exact h.bound

set_option maxHeartbeats 1000000 in
theorem mFree_any (B g : Nat) (dv : Value) (L M : Bd') (w : World) (hM : MIn w B g dv (L ++ M)) :
    Calls Tryd.prog 107 #[.pointer (some ⟨g, 0, none⟩), .int .i64 (L.length : Nat)] w fun e w' => e = .returned (.tuple #[]) ∧ MIn w' B g dv L ∧ Fr B w w' := by
  obtain ⟨bv, hbv, ho⟩ := hM.bound
  have hlen := hM.ok.few
  simp only [List.length_append] at hlen
  have hfz := fun j => hM.frozen j
  have hlow := hM.low
  have hap := hM.apart ho
  have HM := hide hM
  have ho' := ho
  obtain ⟨_, ⟨rfl, h0⟩ | ⟨gb, cap, cur, rfl, hbb, hh, hc, hx, hz, ht⟩⟩ := ho'
  · have hL : L = [] ∧ M = [] := by
      simp only [List.length_append] at h0
      exact ⟨List.eq_nil_of_length_eq_zero (by omega), List.eq_nil_of_length_eq_zero (by omega)⟩
    obtain ⟨rfl, rfl⟩ := hL
    have hf := hfz 61
    have R := hide (MIn.less (M := []) hM hM.blk (Fr.refl _ _) hM.among (fun x _ => by simp) (by rw [hbv]; rfl) (bv' := .slice none 0 0) (World.ownsRow_nil _ _ _ _))
    clear hM ho hap
    go_enter Tryd.func107, Tryd.ntmps107
    go_wp2
    go_loopw [13] (fun i wr => i = .int .i64 0 ∧ wr = w) (fun _ _ => 0)
    case atStart => exact ⟨rfl, rfl⟩
    case round =>
      obtain ⟨rfl, rfl⟩ := hrel
      go_wp2
      go_end0
      exact ⟨rfl, R.out⟩
  · simp only [List.length_append] at hc ht hbv ho hap hz
    have hcell : ∀ k, k < M.length → ∃ m : Nat, m < 60 ∧ (M[k]?).map Prod.fst = some (m : Int) ∧ w.cell? ⟨gb, L.length + k, none⟩ = some (.int .i64 (m : Int)) := by
      intro k hk
      have hkk := HM.out.ok.keys M[k] (List.mem_append_right _ (List.getElem_mem _))
      refine ⟨M[k].1.toNat, by omega, by simp [hk]; omega, ?_⟩
      have := World.ownsRow.cellAt ho (L.length + k) (by omega)
      rw [this]
      rw [List.map_append, List.getElem?_append_right (by simp)]
      simp [hk]
      omega
    have hgg : gb ≠ g := by
      intro e
      exact hap (by simp [Value.ownBlock, e])
    have hfr := own_front ho (m := L.length) (by omega)
    rw [List.map_append, List.take_left' (by simp)] at hfr
    have HO := hide hfr
    have HC := hide hcell
    have hi1 : (0 : Int) ≤ (L.length : Int) := by omega
    have hi2 : (L.length : Int) ≤ ((L.length + M.length : Nat) : Int) := by omega
    have hi3 : (L.length : Int) ≤ (cap : Int) := by omega
    have hi4 : (L.length : Int) ≤ (L.length : Int) + (M.length : Int) := by omega
    clear hM ho hfr hh hz ht hap hcell
    by_cases hce : cap = L.length
    · have hM0 : M = [] := List.eq_nil_of_length_eq_zero (by omega)
      subst hM0
      subst hce
      have hf := hfz 61
      have R := hide (MIn.less (M := []) HM.out HM.out.blk (Fr.refl _ _) HM.out.among (fun x _ => by simp) (by rw [hbv]; rfl) HO.out)
      simp only [List.length_nil, Nat.add_zero] at hbv
      clear hc HC hi2 hi4 hlen
      go_enter Tryd.func107, Tryd.ntmps107
      go_wp2
      go_loopw [13] (fun i wr => i = .int .i64 0 ∧ wr = w) (fun _ _ => 0)
      case atStart => exact ⟨rfl, rfl⟩
      case round =>
        obtain ⟨rfl, rfl⟩ := hrel
        go_wp2
        go_end0
        exact ⟨rfl, R.out⟩
    · go_enter Tryd.func107, Tryd.ntmps107
      go_wp2
      have HFS := hide (Freed.start HM.out hbv)
      go_loopw [13] (fun i wr => ∃ k : Nat, k ≤ M.length ∧ i = .int .i64 k ∧ Freed w wr B g dv (.slice (some ⟨gb, 0, none⟩) (L.length + M.length) cap) (M.take k)) (fun i _ => M.length - (intOf i).toNat)
      case atStart => exact ⟨0, Nat.zero_le _, rfl, HFS.out⟩
      case round =>
        obtain ⟨k, hk, rfl, hF⟩ := hrel
        by_cases hlt : k < M.length
        · obtain ⟨m, hm, hmk, hcl⟩ := HC.out k hlt
          have hcl2 : wr.cell? ⟨gb, L.length + k, none⟩ = some (.int .i64 (m : Int)) := by rw [World.cell?_of_block (hF.rest gb hgg)]; exact hcl
          have hct : ∃ u, wr.cell? ⟨g, 1 + m, none⟩ = some u := by
            rw [hF.term m hm]
            obtain ⟨v, hv, _⟩ := HM.out.term m hm
            split
            · exact ⟨_, rfl⟩
            · exact ⟨v, hv⟩
          have hfw : wr.frozen? ⟨g, 1 + m, none⟩ = false := by
            obtain ⟨cs, hb⟩ := hF.blk
            simp [World.frozen?, hb]
          have HN := hide (hF.step hlow hm (p := M[k]) (by simpa [hlt] using hmk) hct)
          obtain ⟨u, hu⟩ := hct
          clear hcl hF hmk
          go_wp2
          go_roundw
          case rel => exact ⟨k + 1, by omega, by go_num, by rw [List.take_succ_eq_append_getElem hlt]; exact HN.out⟩
          case measure => simp [intOf]; omega
        · have hkM : M.take k = M := List.take_of_length_le (by omega)
          rw [hkM] at hF
          have hbw := hF.bound
          have hfw : wr.frozen? ⟨g, 61, none⟩ = false := by
            obtain ⟨cs, hb⟩ := hF.blk
            simp [World.frozen?, hb]
          have how : wr.ownsRow B 3 1 (.slice (some ⟨gb, 0, none⟩) L.length cap) L.length (L.map fun p => .int .i64 p.1) := by
            obtain ⟨h1, ⟨h, _⟩ | ⟨g', cap', cur', hv, hb', hh', hr'⟩⟩ := HO.out
            · simp at h
            · obtain ⟨rfl, rfl⟩ : gb = g' ∧ cap = cap' := by simpa using hv
              exact ⟨h1, Or.inr ⟨gb, cap, cur', rfl, hb', by rw [hF.rest gb hgg]; exact hh', hr'⟩⟩
          have R := hide (MIn.less HM.out hF.blk hF.fr hF.among hF.term (by rw [hbw]; rfl) how)
          clear hF hkM how
          go_wp2
          go_end0
          exact ⟨rfl, R.out⟩

end Go.Proofs.YtjnddclkdofgdaaDoor
