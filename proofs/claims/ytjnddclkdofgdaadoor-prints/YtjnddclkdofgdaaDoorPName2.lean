/- The program: can a name stand without signs around it. -/
import Derived.Test.YtjnddclkdofgdaaDoorPName
import Derived.Lib.OthersKept
namespace Go.Proofs.YtjnddclkdofgdaaDoor
open Go.RowKit Go.Shelf
set_option maxRecDepth 100000

theorem inside_high (c : Int) (h : 128 ≤ c) : insideB c = false := by
  simp only [insideB, smallB, largeB, digitB, Bool.or_eq_false_iff, Bool.and_eq_false_iff, decide_eq_false_iff_not, beq_eq_false_iff_ne]
  omega
theorem plain_not (s : ByteArray) (p : Nat) (hp : p < s.size) (h : insideB ((s[p]'hp).toNat : Int) = false) : plainL s.data.toList = false := by
  unfold plainL
  rw [Bool.and_eq_false_iff]
  right
  rw [List.all_eq_false]
  exact ⟨s[p], List.getElem_mem (l := s.data.toList) (by rw [← size_data]; exact hp), by rw [h]; simp⟩
theorem plain_head (s : ByteArray) (hp : 0 < s.size) (h : smallB (s[0].toNat : Int) = false) : plainL s.data.toList = false := by
  unfold plainL
  rw [hd_data s hp, h]
  rfl
theorem plain_yes (s : ByteArray) (hp : 0 < s.size) (h : smallB (s[0].toNat : Int) = true) (ha : (s.data.toList.all fun b => insideB b.toNat) = true) : plainL s.data.toList = true := by
  unfold plainL
  rw [hd_data s hp, h, ha]
  rfl

set_option maxHeartbeats 2000000 in
theorem isPlain_any (s : ByteArray) (w : World) (hp0 : 0 < s.size) (hs : s.size ≤ 1000) :
    Calls Tryd.prog 72 #[.string s] w fun e w' => e = .returned (.bool (plainL s.data.toList)) ∧ Below w.heap.size w w' := by
  go_enter Tryd.func72, Tryd.ntmps72
  go_wp2
  go_loopw [] (fun wr => ∃ pos : Nat, pos ≤ s.size ∧ wr.heap[w.heap.size]? = some (.stringIter s pos) ∧ Below w.heap.size w wr ∧ ((s.data.toList.take pos).all fun b => insideB b.toNat) = true ∧ (0 < pos → smallB (s[0].toNat : Int) = true)) (fun wr => s.size - wr.iterPos w.heap.size)
  case atStart =>
    refine ⟨0, by omega, ?_, (Below.refl _ w).alloc (Nat.le_refl _) _, rfl, fun h => by omega⟩
    have := World.iter_heap w s 0
    simpa using this
  case round =>
    obtain ⟨pos, hpos, hit, hb, hall, hsm⟩ := hrel
    have HB := hide hb
    have HA := hide hall
    have HSM := hide hsm
    have hbs := hb.size
    clear hb hall hsm
    by_cases hp : pos < s.size
    · have HTS := hide (take_snocU s pos hp)
      by_cases hc : (s[pos]'hp).toNat < 128
      · have hnx : ∀ ty, (Instr.next (.pointer (some ⟨w.heap.size, 0, none⟩)) true ty).run Tryd.prog wr = _ := fun ty => Lib.run_next_ascii_at wr w.heap.size s pos ty hit hp hc
        have hit2 := Lib.iterAt_heap wr w.heap.size s pos (pos + 1) hit
        have HB2 := hide (Lib.below_iterAt HB.out (k := w.heap.size) (Nat.le_refl _) s (pos + 1))
        have HIT := hide hit
        have HIT2 := hide hit2
        have CW := hide (fun wx => isInWord_any ((s[pos]'hp).toNat : Int) wx)
        have CL := hide (fun wx => isLower_any ((s[pos]'hp).toNat : Int) wx)
        have HN := hide (plain_not s pos hp)
        clear hit hit2
        cases hin : insideB ((s[pos]'hp).toNat : Int)
        · rw [hin] at CW
          have HR := hide (HN.out hin)
          clear hin HN
          go_wp2_with (go_at_call 94; refine (unhide CW _).mono ?_; rintro e w1 ⟨rfl, rfl⟩)
          go_ret
          exact ⟨ret_bool HR.out.symm, HB2.out⟩
        · rw [hin] at CW
          have HAL : Hid (((s.data.toList.take (pos + 1)).all fun b => insideB b.toNat) = true) := hide (by rw [HTS.out, List.all_append, HA.out]; simp [hin])
          clear hin HN
          by_cases h0 : pos = 0
          · subst h0
            cases hl : smallB ((s[0]'hp).toNat : Int)
            · rw [hl] at CL
              have HR := hide (plain_head s hp0 hl)
              clear hl
              go_wp2_with (first
                | (go_at_call 94; refine (unhide CW _).mono ?_; rintro e w1 ⟨rfl, rfl⟩)
                | (go_at_call 95; refine (unhide CL _).mono ?_; rintro e w1 ⟨rfl, rfl⟩))
              go_ret
              exact ⟨ret_bool HR.out.symm, HB2.out⟩
            · rw [hl] at CL
              have HL := hide hl
              clear hl
              go_wp2_with (first
                | (go_at_call 94; refine (unhide CW _).mono ?_; rintro e w1 ⟨rfl, rfl⟩)
                | (go_at_call 95; refine (unhide CL _).mono ?_; rintro e w1 ⟨rfl, rfl⟩))
              go_roundw
              case rel => exact ⟨0 + 1, by omega, HIT2.out, HB2.out, HAL.out, fun _ => by first | exact HL.out | trivial⟩
              case measure => simp only [World.iterPos, HIT.out, HIT2.out]; omega
          · have h0' : ((pos : Int) == 0) = false := by rw [beq_eq_false_iff_ne]; omega
            go_wp2_with (first
              | (go_at_call 94; refine (unhide CW _).mono ?_; rintro e w1 ⟨rfl, rfl⟩))
            go_roundw
            case rel => exact ⟨pos + 1, by omega, HIT2.out, HB2.out, HAL.out, fun _ => HSM.out (by omega)⟩
            case measure => simp only [World.iterPos, HIT.out, HIT2.out]; omega
      · have hnx : ∀ ty, (Instr.next (.pointer (some ⟨w.heap.size, 0, none⟩)) true ty).run Tryd.prog wr = _ := fun ty => Lib.run_next_any_at wr w.heap.size s pos ty hit hp
        have hhi := decode_high s pos hp (by omega)
        have HR := hide (plain_not s pos hp (inside_high _ (by omega)))
        have HB2 := hide (Lib.below_iterAt HB.out (k := w.heap.size) (Nat.le_refl _) s (pos + (Utf8.decode s pos).2))
        have CW := hide (fun wx => isInWord_any ((Utf8.decode s pos).1 : Int) wx)
        rw [inside_high _ (by omega)] at CW
        clear hhi hit
        go_wp2_with (go_at_call 94; refine (unhide CW _).mono ?_; rintro e w1 ⟨rfl, rfl⟩)
        go_ret
        exact ⟨ret_bool HR.out.symm, HB2.out⟩
    · have hnx : ∀ ty, (Instr.next (.pointer (some ⟨w.heap.size, 0, none⟩)) true ty).run Tryd.prog wr = _ := fun ty => Lib.run_next_end_at wr w.heap.size s pos ty hit hp
      have hk1 : s.data.toList.take pos = s.data.toList := List.take_of_length_le (by rw [← size_data]; omega)
      have HR := hide (plain_yes s hp0 (HSM.out (by omega)) (by rw [← HA.out, hk1]))
      clear hit hk1
      go_wp2
      go_ret
      exact ⟨ret_bool HR.out.symm, HB.out⟩

end Go.Proofs.YtjnddclkdofgdaaDoor
