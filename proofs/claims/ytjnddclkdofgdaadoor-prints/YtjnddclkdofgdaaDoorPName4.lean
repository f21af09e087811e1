/- The program: a name is written: the walk. -/
import Derived.Test.YtjnddclkdofgdaaDoorPName3
namespace Go.Proofs.YtjnddclkdofgdaaDoor
open Go.RowKit Go.Shelf
set_option maxRecDepth 100000

theorem rowF_below {w w' : World} {B : Nat} {e : TypeId} {size : Nat} {v : Value} {n : Nat} {xs : List Value} (h : w.ownsRowF B e size v n xs) (k : Below w.heap.size w w') : w'.ownsRowF B e size v n xs := by
  obtain ⟨h1, h2 | ⟨g, cap, cur, f, h3, h4, h5, h6⟩⟩ := h
  · exact ⟨h1, Or.inl h2⟩
  · have hg : g < w.heap.size := (Array.getElem?_eq_some_iff.1 h5).1
    exact ⟨h1, Or.inr ⟨g, cap, cur, f, h3, h4, (k.block g hg).trans h5, h6⟩⟩
theorem Bd.below {B b : Nat} {l : List UInt8} {w w' : World} (h : Bd B b l w) (k : Below w.heap.size w w') : Bd B b l w' := by
  have go : ∀ p, Lib.BuilderAtF 65 5 B b p (Lib.byteCells l) w → Lib.BuilderAtF 65 5 B b p (Lib.byteCells l) w' := by
    rintro p ⟨hB, v, hb, ho, hne⟩
    have hg : b < w.heap.size := (Array.getElem?_eq_some_iff.1 hb).1
    exact ⟨hB, v, (k.block b hg).trans hb, rowF_below ho k, hne⟩
  rcases h with h | h
  · exact Or.inl (go _ h)
  · exact Or.inr (go _ h)
theorem Ok.refl (b : Nat) (w : World) : Ok b w w := Lib.OthersKept.refl _ _ _
theorem Ok.trans {b : Nat} {a c d : World} (h : Ok b a c) (k : Ok b c d) : Ok b a d := Lib.OthersKept.trans h k
theorem Ok.of_below {b : Nat} {w w' : World} (h : Below w.heap.size w w') : Ok b w w' := fun i o hi _ _ => by
  have hg : i < w.heap.size := (Array.getElem?_eq_some_iff.1 hi).1
  exact (h.block i hg).trans hi

theorem Bd.lt {B b : Nat} {l : List UInt8} {w : World} (h : Bd B b l w) : b < w.heap.size := by
  rcases h with ⟨_, v, hb, _⟩ | ⟨_, v, hb, _⟩
  · exact (Array.getElem?_eq_some_iff.1 hb).1
  · exact (Array.getElem?_eq_some_iff.1 hb).1
theorem Ok.iterAt {b k : Nat} {w w' : World} (h : Ok b w w') (hk : w.heap.size ≤ k) (s : ByteArray) (p : Nat) : Ok b w (w'.iterAt k s p) := fun i o hi hb ho => by
  have hg : i < w.heap.size := (Array.getElem?_eq_some_iff.1 hi).1
  rw [Lib.iterAt_other w' k i s p (by omega)]
  exact h i o hi hb ho

set_option maxHeartbeats 4000000 in
theorem writeName_any (B b : Nat) (l : List UInt8) (s : ByteArray) (w : World) (h : Bd B b l w) (hn : isNameL s = true) (hl : l.length ≤ 100000) (hB : B ≤ w.heap.size) :
    Calls Tryd.prog 50 #[.pointer (some ⟨b, 0, none⟩), .string s] w fun e w' => e = .returned (.tuple #[]) ∧ Bd B b (l ++ nameText s.data.toList) w' ∧ Below B w w' ∧ Ok b w w' := by
  obtain ⟨hs0, hs80⟩ := isNameL_size s hn
  have CP := hide (isPlain_any s w hs0 (by omega))
  have HV : Hid (Lib.validD s.data.toList = true) := by
    have := isNameL_eq s
    rw [hn] at this
    simp only [Bool.true_eq, Bool.and_eq_true] at this
    exact this.1.1
  have HH := hide h
  clear hn h
  cases hp : plainL s.data.toList
  · have HT := hide (show nameText s.data.toList = 39 :: (s.data.toList.flatMap escB ++ [39]) by simp [nameText, hp])
    rw [hp] at CP
    clear hp
    go_enter Tryd.func50, Tryd.ntmps50
    go_wp2_with (first
      | (go_at_call 72; refine (unhide CP).mono ?_; rintro e w1 ⟨rfl, hb1⟩; have hBs1 : B ≤ w1.heap.size := Nat.le_trans hB hb1.size; have CB := hide (wByte B b l 39 w1 (HH.out.below hb1) (by omega) hBs1); have HB1 := hide (hb1.mono hB); have HO1 := hide (Ok.of_below (b := b) hb1); clear hb1)
      | (go_at_call 30; refine (unhide CB).mono ?_; rintro e w2 ⟨rfl, hd2, hb2, ho2⟩; have HD2 := hide hd2; have HB2 := hide (HB1.out.trans hb2); have HO2 := hide (HO1.out.trans ho2); clear hd2 hb2 ho2))
    have hBs2 : B ≤ w2.heap.size := Nat.le_trans hB HB2.out.size
    go_loopw [] (fun wr => ∃ (pos : Nat), pos ≤ s.size ∧ wr.heap[w2.heap.size]? = some (.stringIter s pos) ∧ Bd B b (l ++ [39] ++ (s.data.toList.take pos).flatMap escB) wr ∧ Lib.validD (s.data.toList.drop pos) = true ∧ Below B w wr ∧ Ok b w wr ∧ w2.heap.size < wr.heap.size) (fun wr => s.size - wr.iterPos w2.heap.size)
    case atStart =>
      have hbi : Below w2.heap.size w2 (w2.iter s 0) := (Below.refl _ _).alloc (Nat.le_refl _) _
      refine ⟨0, by omega, World.iter_heap w2 s 0, ?_, HV.out, HB2.out.trans (hbi.mono hBs2), HO2.out.trans (Ok.of_below hbi), ?_⟩
      · have := HD2.out.below hbi
        simpa using this
      · show w2.heap.size < (w2.heap.push _).size
        simp
    case round =>
      obtain ⟨pos, hpos, hit, hd, hv, hb, ho, hsz⟩ := hrel
      have hkb := Bd.lt HH.out
      have hkw : w.heap.size ≤ w2.heap.size := HB2.out.size
      have hal : ((s.data.toList.take pos).flatMap escB).length ≤ 160 := by
        have h1 := escB_len (s.data.toList.take pos)
        have h2 : (s.data.toList.take pos).length ≤ pos := List.length_take_le _ _
        omega
      by_cases hp : pos < s.size
      · have hne : s.data.toList.drop pos ≠ [] := by
          intro hx
          have := congrArg List.length hx
          simp only [List.length_drop, ← size_data, List.length_nil] at this
          omega
        rw [Lib.validD_step _ hne, Lib.decodeL_drop, List.drop_drop] at hv
        have hgood : ¬ ((Utf8.decode s pos).1 = 65533 ∧ (Utf8.decode s pos).2 = 1) := by
          intro hx
          rw [if_pos hx] at hv
          simp at hv
        rw [if_neg hgood] at hv
        have hwd := Lib.decode_width_pos s pos hp
        have hch : charAt s pos = (Utf8.decode s pos).2 := by rw [char_decode s pos hp]; unfold chN; rw [if_neg hgood]
        have hle := charAt_le s pos hp
        rw [hch] at hle
        have hpc := esc_piece s pos hp hgood
        have hts := take_step s pos (Utf8.decode s pos).2
        have hrl := decode_le s pos
        have hnx : ∀ ty, (Instr.next (.pointer (some ⟨w2.heap.size, 0, none⟩)) true ty).run Tryd.prog wr = _ := fun ty => Lib.run_next_any_at wr w2.heap.size s pos ty hit hp
        have hit2 := Lib.iterAt_heap wr w2.heap.size s pos (pos + (Utf8.decode s pos).2) hit
        have hd2 : Bd B b _ (wr.iterAt w2.heap.size s (pos + (Utf8.decode s pos).2)) := Lib.IsBuilderF.iterAt hd hit _
        have hb2 := Lib.below_iterAt hb (k := w2.heap.size) hBs2 s (pos + (Utf8.decode s pos).2)
        have ho2 := ho.iterAt (k := w2.heap.size) hkw s (pos + (Utf8.decode s pos).2)
        have hz2 : B ≤ (wr.iterAt w2.heap.size s (pos + (Utf8.decode s pos).2)).heap.size := by rw [Lib.iterAt_size]; omega
        have hz3 : w2.heap.size < (wr.iterAt w2.heap.size s (pos + (Utf8.decode s pos).2)).heap.size := by rw [Lib.iterAt_size]; exact hsz
        have CE := hide (fun wx => isEscaped_any ((Utf8.decode s pos).1 : Int) wx)
        have HIT := hide hit
        have HIT2 := hide hit2
        have HB3 := hide hb2
        have HO3 := hide ho2
        have HV3 := hide hv
        have HD3 := hide hd2
        generalize hwq : wr.iterAt w2.heap.size s (pos + (Utf8.decode s pos).2) = wq at *
        clear hit hit2 hd hd2 hb hb2 ho ho2 hv hgood hne hch hwq
        cases hes : escI ((Utf8.decode s pos).1 : Int)
        · rw [hes] at CE
          have HP : Hid (l ++ [39] ++ (s.data.toList.take pos).flatMap escB ++ Lib.encodeRune ((Utf8.decode s pos).1 : Int) = l ++ [39] ++ (s.data.toList.take (pos + (Utf8.decode s pos).2)).flatMap escB) := hide (by
            rw [hts, List.flatMap_append, ← hpc, hes]; simp)
          have CR := hide (wRune B b _ (Utf8.decode s pos).1 wq HD3.out hrl (by simp only [List.length_append, List.length_cons, List.length_nil]; omega) hz2)
          clear hes hpc hts
          go_wp2_with (first
            | (go_at_call 73; refine (unhide CE _).mono ?_; rintro e w5 ⟨rfl, rfl⟩)
            | (go_at_call 74; refine (unhide CR).mono ?_; rintro e w6 ⟨qq, rfl, hd6, hb6, ho6⟩; have HD6 := hide hd6; have HB6 := hide hb6; have HO6 := hide ho6; clear hd6 hb6 ho6))
          go_roundw
          case rel => exact ⟨pos + (Utf8.decode s pos).2, by omega, Lib.OthersKept.iter HO6.out HIT2.out (by omega), by rw [← HP.out]; exact HD6.out, HV3.out, HB3.out.trans HB6.out, HO3.out.trans HO6.out, Nat.lt_of_lt_of_le hz3 HB6.out.size⟩
          case measure => simp only [World.iterPos, HIT.out, Lib.OthersKept.iter HO6.out HIT2.out (show w2.heap.size ≠ b by omega)]; omega
        · rw [hes] at CE
          have HP : Hid (l ++ [39] ++ (s.data.toList.take pos).flatMap escB ++ [92] ++ Lib.encodeRune ((Utf8.decode s pos).1 : Int) = l ++ [39] ++ (s.data.toList.take (pos + (Utf8.decode s pos).2)).flatMap escB) := hide (by
            rw [hts, List.flatMap_append, ← hpc, hes]; simp)
          have CB2 := hide (wByte B b _ 92 wq HD3.out (by simp only [List.length_append, List.length_cons, List.length_nil]; omega) hz2)
          clear hes hpc hts
          go_wp2_with (first
            | (go_at_call 73; refine (unhide CE _).mono ?_; rintro e w5 ⟨rfl, rfl⟩)
            | (go_at_call 30; refine (unhide CB2).mono ?_; rintro e w6 ⟨rfl, hd6, hb6, ho6⟩; have CR := hide (wRune B b _ (Utf8.decode s pos).1 w6 hd6 hrl (by simp only [List.length_append, List.length_cons, List.length_nil]; omega) (Nat.le_trans hz2 hb6.size)); have HB6 := hide hb6; have HO6 := hide ho6; clear hd6 hb6 ho6)
            | (go_at_call 74; refine (unhide CR).mono ?_; rintro e w7 ⟨qq, rfl, hd7, hb7, ho7⟩; have HD7 := hide hd7; have HB7 := hide hb7; have HO7 := hide ho7; clear hd7 hb7 ho7))
          go_roundw
          case rel => exact ⟨pos + (Utf8.decode s pos).2, by omega, Lib.OthersKept.iter (HO6.out.trans HO7.out) HIT2.out (by omega), by rw [← HP.out]; exact HD7.out, HV3.out, HB3.out.trans (HB6.out.trans HB7.out), HO3.out.trans (HO6.out.trans HO7.out), Nat.lt_of_lt_of_le hz3 (Nat.le_trans HB6.out.size HB7.out.size)⟩
          case measure => simp only [World.iterPos, HIT.out, Lib.OthersKept.iter (HO6.out.trans HO7.out) HIT2.out (show w2.heap.size ≠ b by omega)]; omega
      · have hnx : ∀ ty, (Instr.next (.pointer (some ⟨w2.heap.size, 0, none⟩)) true ty).run Tryd.prog wr = _ := fun ty => Lib.run_next_end_at wr w2.heap.size s pos ty hit hp
        have hk1 : s.data.toList.take pos = s.data.toList := List.take_of_length_le (by rw [← size_data]; omega)
        rw [hk1] at hd hal
        have CZ := hide (wByte B b _ 39 wr hd (by simp only [List.length_append, List.length_cons, List.length_nil]; omega) (by omega))
        have HBZ := hide hb
        have HOZ := hide ho
        have HF : Hid (l ++ [39] ++ s.data.toList.flatMap escB ++ [39] = l ++ nameText s.data.toList) := hide (by rw [HT.out]; simp)
        clear hit hd hb ho hv hk1
        go_wp2_with (first
          | (go_at_call 30; refine (unhide CZ).mono ?_; rintro e w6 ⟨rfl, hd6, hb6, ho6⟩; have HD6 := hide hd6; have HB6 := hide hb6; have HO6 := hide ho6; clear hd6 hb6 ho6))
        go_end0
        exact ⟨rfl, by rw [← HF.out]; exact HD6.out, HBZ.out.trans HB6.out, HOZ.out.trans HO6.out⟩
  · have HT := hide (show nameText s.data.toList = s.data.toList by simp [nameText, hp])
    rw [hp] at CP
    clear hp
    go_enter Tryd.func50, Tryd.ntmps50
    go_wp2_with (first
      | (go_at_call 72; refine (unhide CP).mono ?_; rintro e w1 ⟨rfl, hb1⟩; have hBs1 : B ≤ w1.heap.size := Nat.le_trans hB hb1.size; have CB := hide (wString B b l s w1 (HH.out.below hb1) (by omega) hBs1); have HB1 := hide (hb1.mono hB); have HO1 := hide (Ok.of_below (b := b) hb1); clear hb1)
      | (go_at_call 29; refine (unhide CB).mono ?_; rintro e w2 ⟨rfl, hd2, hb2, ho2⟩; have HD2 := hide hd2; have HB2 := hide (HB1.out.trans hb2); have HO2 := hide (HO1.out.trans ho2); clear hd2 hb2 ho2))
    refine bodyPost_ret (v := .tuple #[]) (by simp [results, Tryd.results50, go_sem]) rfl ?_
    exact ⟨rfl, by rw [HT.out]; exact HD2.out, HB2.out, HO2.out⟩

end Go.Proofs.YtjnddclkdofgdaaDoor
