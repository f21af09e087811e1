/- The program's scanner: the clause that is false. -/
import Derived.Test.YtcpdadppblbndaaGQuo2
namespace Go.Proofs.Ytcpdadppblbndaa
open Go.RowKit
set_option maxRecDepth 100000

abbrev fB : ByteArray := ⟨#[36, 102, 97, 108, 115, 101]⟩
/-- Does it stand there? -/
def isF (s : ByteArray) (p : Nat) : Prop := p + 6 ≤ s.size ∧ s.extract p (p + 6) = fB
theorem fB_low : ∀ i, i < 6 → byteD fB i < 128 := by
  have : ∀ i : Fin 6, byteD fB i.1 < 128 := by decide
  exact fun i hi => this ⟨i, hi⟩
theorem isF_bytes {s : ByteArray} {p : Nat} : isF s p ↔ p + 6 ≤ s.size ∧ ∀ i, i < 6 → byteD s (p + i) = byteD fB i := by
  unfold isF
  constructor
  · rintro ⟨h1, h2⟩
    refine ⟨h1, fun i hi => ?_⟩
    have : byteD (s.extract p (p + 6)) i = byteD fB i := by rw [h2]
    rw [← this, byteD_lt (s.extract p (p + 6)) i (by rw [ByteArray.size_extract]; omega), byteD_lt s (p + i) (by omega), ByteArray.getElem_extract]
  · rintro ⟨h1, h2⟩
    refine ⟨h1, ?_⟩
    apply ByteArray.ext
    apply Array.ext
    · have : (s.extract p (p + 6)).size = 6 := by rw [ByteArray.size_extract]; omega
      exact this
    · intro i hi1 hi2
      have hi6 : i < 6 := hi2
      have e := h2 i hi6
      rw [byteD_lt s (p + i) (by omega), byteD_lt fB i hi6] at e
      have e1 : (s.extract p (p + 6))[i]'hi1 = s[p + i]'(by omega) := ByteArray.getElem_extract ..
      have e2 := UInt8.toNat_inj.1 e
      exact e1.trans e2
/-- What empty answers. -/
def EmpR (B pb : Nat) (s : ByteArray) (p g j m c : Nat) (k a : Int) (wd : ByteArray) (vC vP vM : Value) (w : World) (e : Ending) (w' : World) : Prop :=
  w.grownBy w' (some pb) ∧ ((isF s p ∧ e = .returned (tokenV 36 p ⟨#[]⟩) ∧ ∃ j' m' c', ScIn B w' pb s (p + 6) g j' m' c' k a wd vC vP vM) ∨ (¬ isF s p ∧ e = .returned (tokenV (-2) p ⟨#[]⟩) ∧ ScIn B w' pb s p g j m c k a wd vC vP vM))
section
variable {B : Nat} {pb : Nat} {s : ByteArray} {p g j m c : Nat} {k a : Int} {wd : ByteArray} {vC vP vM : Value}
set_option maxHeartbeats 3000000 in
theorem sEmpty_any {w : World} (h : ScIn B w pb s p g j m c k a wd vC vP vM) :
    Calls Try.prog 51 #[.pointer (some ⟨pb, 0, none⟩)] w fun e w' => EmpR B pb s p g j m c k a wd vC vP vM w e w' := by
  have d0 := h.box.c0
  have d1 := h.at0.2
  have e0 : ∀ o, (w.alloc o).cell? ⟨pb, 0, none⟩ = some (.slice (some ⟨g, j * 2, none⟩) (m + 1) (c + 1)) := fun o => Below.at' ((Below.refl _ w).alloc (Nat.le_refl _) o) (Nat.le_refl _) d0
  have e1 : ∀ o, (w.alloc o).cell? ⟨g, j * 2 + 1, none⟩ = some (.int .i64 p) := fun o => Below.at' ((Below.refl _ w).alloc (Nat.le_refl _) o) (Nat.le_refl _) d1
  have HB0 : Hid (∀ o o2, Below w.heap.size w ((w.alloc o).alloc o2)) := hide fun o o2 => ((Below.refl _ _).alloc (Nat.le_refl _) o).alloc (by simp) o2
  have HX0 : Hid (∀ o o2, ((w.alloc o).alloc o2).heap[w.heap.size]? = some o ∧ ((w.alloc o).alloc o2).heap[w.heap.size + 1]? = some o2 ∧ ((w.alloc o).alloc o2).heap.size = w.heap.size + 2) := hide fun o o2 => ⟨by show ((w.heap.push _).push _)[w.heap.size]? = _; simp [Array.getElem?_push], by
    show ((w.heap.push o).push o2)[w.heap.size + 1]? = _
    have h : ((w.heap.push o).push o2)[(w.heap.push o).size]? = some o2 := by rw [Array.getElem?_push]; exact if_pos rfl
    rwa [Array.size_push] at h, by simp⟩
  have HS := hide h
  have hpb := h.box.lt
  clear h d0 d1
  go_enter Try.func51, Try.ntmps51
  go_wp2
  have hb1 := HB0.out (.cells #[.int .i32 0, .int .i64 0, .string ⟨#[]⟩] 71) (.cells #[.int .i32 36, .int .i64 p, .string ⟨#[]⟩] 71)
  have HS1 := hide (HS.out.below hb1)
  obtain ⟨hx1, hy1, hz1⟩ := HX0.out (.cells #[.int .i32 0, .int .i64 0, .string ⟨#[]⟩] 71) (.cells #[.int .i32 36, .int .i64 p, .string ⟨#[]⟩] 71)
  have HB1 := hide hb1
  have HX1 := hide hx1
  have HY1 := hide hy1
  clear hb1 hx1 hy1 HB0 HX0 e0 e1
  generalize (w.alloc (.cells #[.int .i32 0, .int .i64 0, .string ⟨#[]⟩] 71)).alloc (.cells #[.int .i32 36, .int .i64 p, .string ⟨#[]⟩] 71) = w2 at *
  obtain ⟨rb, hrbe⟩ : ∃ rb, w.heap.size = rb := ⟨_, rfl⟩
  rw [hrbe] at hz1 HX1 HY1 hpb
  simp only [hrbe]
  have HRB := hide hrbe
  clear hrbe
  go_loopg [] 6 (fun q wr => ∃ i : Nat, q + i = 6 ∧ wr.heap[rb + 2]? = some (.stringIter fB i) ∧ Below w2.heap.size w2 wr ∧ p + i ≤ s.size ∧ ∀ x, x < i → byteD s (p + x) = byteD fB x)
  case atStart =>
    refine ⟨0, rfl, ?_, (Below.refl _ w2).alloc (Nat.le_refl _) _, HS.out.le, fun x hx => by omega⟩
    have := World.iter_heap w2 fB 0
    rw [hz1] at this
    simpa using this
  case round =>
    obtain ⟨i, hqi, hit, hfar, hpi, hall⟩ := hrel
    have HIT := hide hit
    have HALL := hide hall
    have HW2 := hide hfar
    have hlow : ∀ x, x < i → byteD s (p + x) < 128 := fun x hx => by rw [hall x hx]; exact fB_low x (by omega)
    obtain ⟨hd, him⟩ := HS1.out.letters i hpi hlow
    have HD := hide hd
    by_cases hi6 : i < 6
    · have hp : i < fB.size := hi6
      have hc : (fB[i]'hp).toNat < 128 := by have := fB_low i hi6; rw [byteD_lt fB i hp] at this; exact this
      have hnx : ∀ ty, (Instr.next (.pointer (some ⟨rb + 2, 0, none⟩)) true ty).run Try.prog wr = _ := fun ty => Lib.run_next_ascii_at wr (rb + 2) fB i ty hit hp hc
      have HI2 := hide (Lib.iterAt_heap wr (rb + 2) fB i (i + 1) hit)
      have hfar2 := Lib.below_iterAt hfar (k := rb + 2) (by omega) fB (i + 1)
      have hSi := HS1.out.below hfar2
      have a0 := (hSi.cells i (p + i) hd hpi him).1
      have d0 := hSi.box.c0
      have HSI := hide hSi
      have HF2 := hide hfar2
      have HXI : Hid ((wr.iterAt (rb + 2) fB (i + 1)).heap[rb]? = some (.cells #[.int .i32 0, .int .i64 0, .string ⟨#[]⟩] 71)) := hide ((hfar2.block rb (by omega)).trans HX1.out)
      have hbi : (fB[i]'hp).toNat = byteD fB i := (byteD_lt fB i hp).symm
      have himi : (i : Int) < (m : Int) + 1 := by omega
      have hi0 : (0 : Int) ≤ (i : Int) := by omega
      by_cases heq : gch s (p + i) = (byteD fB i : Int)
      · have hlt : p + i < s.size := Classical.byContradiction fun hn => by rw [gch_end s _ hn] at heq; omega
        have hbe := (gch_iff s (p + i) hlt (byteD fB i) (fB_low i hi6)).1 heq
        rw [heq, ← hbi] at a0
        clear hit hall hfar hd hSi hfar2
        go_wp2
        go_roundg (6 - (i + 1))
        case measure => omega
        case rel => exact ⟨i + 1, by omega, HI2.out, HF2.out, by omega, fun x hx => by
          by_cases e : x = i
          · subst e; exact hbe
          · exact HALL.out x (by omega)⟩
      · have HNF : Hid (¬ isF s p) := hide fun hF => by
          obtain ⟨h1, h2⟩ := isF_bytes.1 hF
          exact heq ((gch_iff s (p + i) (by omega) (byteD fB i) (fB_low i hi6)).2 (h2 i hi6))
        have CB := hide (sBad_any HSI.out)
        unfold tokenV at CB
        rw [hbi] at hnx
        generalize gch s (p + i) = cc at *
        have hne : (cc != (byteD fB i : Int)) = true := by simpa using heq
        clear hit hall hfar hd hSi hfar2 hbi
        go_wp2_with (first
          | (go_at_call 53; refine (unhide CB).mono ?_; rintro e w3 ⟨rfl, hb3⟩; have hx3 := (hb3.block rb (by have := HW2.out.size; simp only [Lib.iterAt_size]; omega)).trans HXI.out; have HB3 := hide hb3; have t0 : w3.cell? ⟨rb, 0, none⟩ = some (.int .i32 0) := (by simp [World.cell?, hx3]); have t1 : w3.cell? ⟨rb, 1, none⟩ = some (.int .i64 0) := (by simp [World.cell?, hx3]); have t2 : w3.cell? ⟨rb, 2, none⟩ = some (.string ⟨#[]⟩) := (by simp [World.cell?, hx3]); have tt0 := cell_again (v := .int .i32 (-2)) t0; have t3 : ∀ i, w3.frozen? ⟨rb, i, none⟩ = false := (fun i => by simp [World.frozen?, hx3]); clear hb3 hx3)
          | go_in)
        refine bodyPost_ret (by simp [results, Try.results51, go_sem, tt0, t1, t2]; try rfl) rfl ?_
        have hbw : Below w.heap.size w (wr.iterAt (rb + 2) fB (i + 1)) := HB1.out.trans (HF2.out.mono HB1.out.size)
        have hfin : Below w.heap.size w w3 := hbw.trans (HB3.out.mono hbw.size)
        have hrw : w.heap.size ≤ rb := by rw [HRB.out]; exact Nat.le_refl _
        have hf2 := below_set (below_set (below_set hfin (p := ⟨rb, 0, none⟩) hrw (.int .i32 (-2))) (p := ⟨rb, 1, none⟩) hrw (.int .i64 p)) (p := ⟨rb, 2, none⟩) hrw (.string ⟨#[]⟩)
        exact ⟨below_grown hf2 _, Or.inr ⟨HNF.out, rfl, HS.out.below hf2⟩⟩
    · obtain rfl : i = 6 := by omega
      have hp : ¬ 6 < fB.size := by decide
      have hnx : ∀ ty, (Instr.next (.pointer (some ⟨rb + 2, 0, none⟩)) true ty).run Try.prog wr = _ := fun ty => Lib.run_next_end_at wr (rb + 2) fB 6 ty hit hp
      have HYF : Hid (isF s p) := hide (isF_bytes.2 ⟨hpi, hall⟩)
      have hSi := HS1.out.below hfar
      have d0 := hSi.box.c0
      have f0 := hSi.box.soft 0
      have hX9 := (hfar.block rb (by omega)).trans HX1.out
      have hT9 := (hfar.block (rb + 1) (by omega)).trans HY1.out
      obtain ⟨m', rfl⟩ : ∃ m', m = m' + 6 := ⟨m - 6, by omega⟩
      obtain ⟨c', rfl⟩ : ∃ c', c = c' + 6 := ⟨c - 6, by have := HS.out.mc; omega⟩
      have hpr : pb ≠ rb := by omega
      have hpt : pb ≠ rb + 1 := by omega
      have cY : ∀ u, (wr.setCell ⟨pb, 0, none⟩ u).heap[rb]? = some (.cells #[.int .i32 0, .int .i64 0, .string ⟨#[]⟩] 71) ∧ (wr.setCell ⟨pb, 0, none⟩ u).heap[rb + 1]? = some (.cells #[.int .i32 36, .int .i64 p, .string ⟨#[]⟩] 71) := fun u => ⟨by rw [Below.heap_setCell _ _ _ _ hpr.symm]; exact hX9, by rw [Below.heap_setCell _ _ _ _ hpt.symm]; exact hT9⟩
      have z0 : ∀ u, (wr.setCell ⟨pb, 0, none⟩ u).cell? ⟨rb, 0, none⟩ = some (.int .i32 0) := fun u => by simp [World.cell?, (cY u).1]
      have z1 : ∀ u, (wr.setCell ⟨pb, 0, none⟩ u).cell? ⟨rb, 1, none⟩ = some (.int .i64 0) := fun u => by simp [World.cell?, (cY u).1]
      have z2 : ∀ u, (wr.setCell ⟨pb, 0, none⟩ u).cell? ⟨rb, 2, none⟩ = some (.string ⟨#[]⟩) := fun u => by simp [World.cell?, (cY u).1]
      have z3 : ∀ u i, (wr.setCell ⟨pb, 0, none⟩ u).frozen? ⟨rb, i, none⟩ = false := fun u i => by simp [World.frozen?, (cY u).1]
      have z4 : ∀ u, (wr.setCell ⟨pb, 0, none⟩ u).cell? ⟨rb + 1, 0, none⟩ = some (.int .i32 36) := fun u => by simp [World.cell?, (cY u).2]
      have z5 : ∀ u, (wr.setCell ⟨pb, 0, none⟩ u).cell? ⟨rb + 1, 1, none⟩ = some (.int .i64 p) := fun u => by simp [World.cell?, (cY u).2]
      have z6 : ∀ u, (wr.setCell ⟨pb, 0, none⟩ u).cell? ⟨rb + 1, 2, none⟩ = some (.string ⟨#[]⟩) := fun u => by simp [World.cell?, (cY u).2]
      have zz0 := fun u => cell_again (v := .int .i32 36) (z0 u)
      have hm1 : m' + 6 + 1 - 6 = m' + 1 := by omega
      have hc1 : c' + 6 + 1 - 6 = c' + 1 := by omega
      have hlb : (6 : Int) ≤ (m' : Int) + 6 + 1 := by omega
      clear cY hit hall hfar hd hSi hX9 hT9
      go_wp2
      refine bodyPost_ret (by simp [results, Try.results51, go_sem, zz0, z1, z2]; try rfl) rfl ?_
      have hJ := ScIn.jump 6 (p + 6) m' c' HS.out HD.out hpi
      have hbw : Below w.heap.size w wr := HB1.out.trans (HW2.out.mono HB1.out.size)
      have hY : Below (w.setCell ⟨pb, 0, none⟩ (.slice (some ⟨g, j * 2 + 6 * 2, none⟩) (m' + 1) (c' + 1))).heap.size (w.setCell ⟨pb, 0, none⟩ (.slice (some ⟨g, j * 2 + 6 * 2, none⟩) (m' + 1) (c' + 1))) (wr.setCell ⟨pb, 0, none⟩ (.slice (some ⟨g, j * 2 + 6 * 2, none⟩) (m' + 1) (c' + 1))) := below_setBoth hbw (HS.out.box.lt) _
      have hrw : (w.setCell ⟨pb, 0, none⟩ (.slice (some ⟨g, j * 2 + 6 * 2, none⟩) (m' + 1) (c' + 1))).heap.size ≤ rb := by rw [← HRB.out]; simp [World.setCell]
      have hf2 := below_set (below_set (below_set hY (p := ⟨rb, 0, none⟩) hrw (.int .i32 36)) (p := ⟨rb, 1, none⟩) hrw (.int .i64 p)) (p := ⟨rb, 2, none⟩) hrw (.string ⟨#[]⟩)
      have hg0 : w.grownBy (w.setCell ⟨pb, 0, none⟩ (.slice (some ⟨g, j * 2 + 6 * 2, none⟩) (m' + 1) (c' + 1))) (some pb) := grown_setCell _ _ _
      exact ⟨hg0.trans (below_grown hf2 _), Or.inl ⟨HYF.out, rfl, _, _, _, hJ.below hf2⟩⟩
end

end Go.Proofs.Ytcpdadppblbndaa
