/- The program: a name is written. -/
import Derived.Test.YtjnddclkdofgdaaDoorPName2
import Derived.Lib.MapLaws
namespace Go.Proofs.YtjnddclkdofgdaaDoor
open Go.RowKit Go.Shelf
set_option maxRecDepth 100000

/-- The builder in block b, from B on, holds these bytes. -/
def Bd (B b : Nat) (l : List UInt8) (w : World) : Prop := Lib.IsBuilderF 65 5 B b (Lib.byteCells l) w
/-- All but the builder and rows of bytes stands as it stood. -/
def Ok (b : Nat) (w w' : World) : Prop := Lib.OthersKept 5 (some b) w w'
theorem wByte (B b : Nat) (l : List UInt8) (c : UInt8) (w : World) (h : Bd B b l w) (hl : l.length ≤ 1000000) (hB : B ≤ w.heap.size) :
    Calls Tryd.prog 30 #[.pointer (some ⟨b, 0, none⟩), .int .u8 c.toNat] w fun e w' => e = .returned .nilIface ∧ Bd B b (l ++ [c]) w' ∧ Below B w w' ∧ Ok b w w' := by
  have c1 : Calls Tryd.prog 30 #[.pointer (some ⟨b, 0, none⟩), .int .u8 c.toNat] w _ := Any.Builder_WriteByte_k lays167 builderX B b (Lib.byteCells l) c.toNat w h (by rw [Lib.byteCells_length]; omega) hB
  refine c1.mono ?_
  rintro e w' ⟨rfl, h1, h2, h3⟩
  refine ⟨rfl, ?_, h2, h3⟩
  unfold Bd
  rw [Lib.byteCells_append]
  exact Or.inr h1
theorem wString (B b : Nat) (l : List UInt8) (s : ByteArray) (w : World) (h : Bd B b l w) (hl : l.length + s.size ≤ 1000000) (hB : B ≤ w.heap.size) :
    Calls Tryd.prog 29 #[.pointer (some ⟨b, 0, none⟩), .string s] w fun e w' => e = .returned (.tuple #[.int .i64 s.size, .nilIface]) ∧ Bd B b (l ++ s.data.toList) w' ∧ Below B w w' ∧ Ok b w w' := by
  have c1 : Calls Tryd.prog 29 #[.pointer (some ⟨b, 0, none⟩), .string s] w _ := Any.Builder_WriteString_k lays166 builderX B b (Lib.byteCells l) s w h (by rw [Lib.byteCells_length]; omega) hB
  refine c1.mono ?_
  rintro e w' ⟨rfl, h1, h2, h3⟩
  refine ⟨rfl, ?_, h2, h3⟩
  unfold Bd
  rw [Lib.byteCells_append]
  exact Or.inr h1
theorem wRune (B b : Nat) (l : List UInt8) (r : Nat) (w : World) (h : Bd B b l w) (hr : r ≤ 2147483647) (hl : l.length ≤ 1000000) (hB : B ≤ w.heap.size) :
    Calls Tryd.prog 74 #[.pointer (some ⟨b, 0, none⟩), .int .i32 r] w fun e w' => ∃ q, e = .returned (.tuple #[.int .i64 q, .nilIface]) ∧ Bd B b (l ++ Lib.encodeRune r) w' ∧ Below B w w' ∧ Ok b w w' := by
  have c1 : Calls Tryd.prog 74 #[.pointer (some ⟨b, 0, none⟩), .int .i32 r] w _ := Any.Builder_WriteRune_k lays168 builderX B b (Lib.byteCells l) r (by omega) (by omega) w h (by rw [Lib.byteCells_length]; omega) hB
  refine c1.mono ?_
  rintro e w' ⟨rfl, h1, h2, h3⟩
  refine ⟨_, rfl, ?_, h2, h3⟩
  unfold Bd
  rw [Lib.byteCells_append, Lib.byteCells_encodeRune]
  exact Or.inr h1

theorem esc_high (l : List UInt8) (h : ∀ b ∈ l, 128 ≤ b.toNat) : l.flatMap escB = l := by
  induction l with
  | nil => rfl
  | cons x r ih =>
    have hx := h x (by simp)
    rw [List.flatMap_cons, ih (fun b hb => h b (by simp [hb]))]
    have : escB x = [x] := by unfold escB; rw [if_neg (by omega)]
    rw [this]
    rfl
/-- What is written of one character. -/
theorem esc_piece (s : ByteArray) (p : Nat) (hp : p < s.size) (hv : ¬ ((Utf8.decode s p).1 = 65533 ∧ (Utf8.decode s p).2 = 1)) :
    (if escI ((Utf8.decode s p).1 : Int) then [92] else []) ++ Lib.encodeRune ((Utf8.decode s p).1 : Int) = ((s.data.toList.drop p).take (Utf8.decode s p).2).flatMap escB := by
  have hne : s.data.toList.drop p ≠ [] := by
    intro h
    have := congrArg List.length h
    simp only [List.length_drop, ← size_data, List.length_nil] at this
    omega
  have hen := Lib.encode_decode (s.data.toList.drop p) hne (by rw [Lib.decodeL_drop]; exact hv)
  rw [Lib.decodeL_drop] at hen
  rw [hen]
  by_cases ha : (s[p]'hp).toNat < 128
  · have hd := decode_ascii s p hp ha
    rw [hd]
    simp only
    have ht : (s.data.toList.drop p).take 1 = [s[p]] := by
      rw [List.drop_eq_getElem_cons (by rw [← size_data]; exact hp)]
      rfl
    rw [ht]
    simp only [List.flatMap_cons, List.flatMap_nil, List.append_nil, escB]
    by_cases h : (s[p]'hp).toNat = 39 ∨ (s[p]'hp).toNat = 92
    · rw [if_pos h, if_pos (by simp only [escI, Bool.or_eq_true, decide_eq_true_eq]; omega)]; rfl
    · rw [if_neg h, if_neg (by simp only [escI, Bool.or_eq_true, decide_eq_true_eq]; omega)]; rfl
  · have hhi := decode_high s p hp (by omega)
    rw [if_neg (by simp only [escI, Bool.or_eq_true, decide_eq_true_eq]; omega), List.nil_append]
    symm
    apply esc_high
    intro b hb
    obtain ⟨i, hi, rfl⟩ := List.mem_iff_getElem.1 hb
    simp only [List.length_take, List.length_drop, ← size_data] at hi
    have hc : charAt s p = (Utf8.decode s p).2 := by rw [char_decode s p hp]; unfold chN; rw [if_neg hv]
    have hbi : ((s.data.toList.drop p).take (Utf8.decode s p).2)[i].toNat = byteD s (p + i) := by
      rw [byteD_lt s (p + i) (by omega)]
      simp only [List.getElem_take, List.getElem_drop]
      rfl
    rw [hbi]
    by_cases hi0 : i = 0
    · subst hi0
      rw [byteD_lt s (p + 0) hp]
      have : s[p + 0]'hp = s[p]'hp := rfl
      rw [this]
      omega
    · exact char_tail s p i (by omega) (by omega) (by omega)
theorem take_step (s : ByteArray) (p k : Nat) : s.data.toList.take (p + k) = s.data.toList.take p ++ (s.data.toList.drop p).take k := by
  rw [List.take_add]

end Go.Proofs.YtjnddclkdofgdaaDoor
