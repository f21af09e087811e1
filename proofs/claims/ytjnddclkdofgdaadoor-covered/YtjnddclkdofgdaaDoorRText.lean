/- The document's own answer: a name as it is written. -/
import Derived.Test.YtjnddclkdofgdaaDoorRPrim
import Derived.Lib.Strings
namespace Go.Proofs.YtjnddclkdofgdaaDoor
open Go.RowKit
set_option maxRecDepth 100000

/-- Can a name stand without signs around it? -/
def plainL (l : List UInt8) : Bool := smallB (l.headD 0).toNat && l.all fun b => insideB b.toNat
/-- A character within signs. -/
def escB (b : UInt8) : List UInt8 := if b.toNat = 39 ∨ b.toNat = 92 then [92, b] else [b]
/-- A name as it is written. -/
def nameText (l : List UInt8) : List UInt8 := if plainL l then l else 39 :: (l.flatMap escB ++ [39])
theorem escB_len (l : List UInt8) : (l.flatMap escB).length ≤ 2 * l.length := by
  induction l with
  | nil => simp
  | cons x r ih =>
    have : (escB x).length ≤ 2 := by unfold escB; split <;> simp
    simp only [List.flatMap_cons, List.length_append, List.length_cons]
    omega
theorem nameText_len (l : List UInt8) : (nameText l).length ≤ 2 * l.length + 2 := by
  unfold nameText
  split
  · omega
  · have := escB_len l
    simp only [List.length_cons, List.length_append, List.length_nil]
    omega
theorem take_snocU (s : ByteArray) (k : Nat) (h : k < s.size) : s.data.toList.take (k + 1) = s.data.toList.take k ++ [s[k]] := by
  rw [List.take_succ_eq_append_getElem (by simpa using h)]; rfl
theorem size_data (x : ByteArray) : x.size = x.data.toList.length := rfl
theorem data_add (a b : ByteArray) : (a ++ b).data.toList = a.data.toList ++ b.data.toList := by simp
theorem data_one (s : ByteArray) (k : Nat) (h : k < s.size) : (s.extract k (k + 1)).data.toList = [s[k]] := by
  rw [Lib.extract_data, List.drop_eq_getElem_cons (by simpa using h)]
  simp
  rfl
theorem str_ext {x : ByteArray} {l : List UInt8} (h : x.data.toList = l) : x = ⟨l.toArray⟩ := by
  subst h; rfl

theorem esc_yes (s x : ByteArray) (n : Nat) (h : n < s.size) (hx : x.data.toList = 39 :: (s.data.toList.take n).flatMap escB) (hs : x.size ≤ 1 + 2 * n) (hb : s[n].toNat = 39 ∨ s[n].toNat = 92) :
    (x ++ ⟨#[92]⟩ ++ s.extract n (n + 1)).size ≤ 1 + 2 * (n + 1) ∧ (x ++ ⟨#[92]⟩ ++ s.extract n (n + 1)).data.toList = 39 :: (s.data.toList.take (n + 1)).flatMap escB := by
  have hd := data_one s n h
  refine ⟨?_, ?_⟩
  · rw [size_data] at hs ⊢
    rw [data_add, data_add, hd]
    simp only [List.length_append, List.length_cons, List.length_nil]
    omega
  · rw [data_add, data_add, hd, hx, take_snocU s n h]
    simp [escB, hb]
theorem esc_no (s x : ByteArray) (n : Nat) (h : n < s.size) (hx : x.data.toList = 39 :: (s.data.toList.take n).flatMap escB) (hs : x.size ≤ 1 + 2 * n) (hb : ¬ (s[n].toNat = 39 ∨ s[n].toNat = 92)) :
    (x ++ s.extract n (n + 1)).size ≤ 1 + 2 * (n + 1) ∧ (x ++ s.extract n (n + 1)).data.toList = 39 :: (s.data.toList.take (n + 1)).flatMap escB := by
  have hd := data_one s n h
  refine ⟨?_, ?_⟩
  · rw [size_data] at hs ⊢
    rw [data_add, hd]
    simp only [List.length_append, List.length_cons, List.length_nil]
    omega
  · rw [data_add, hd, hx, take_snocU s n h]
    simp [escB, hb]
theorem hd_data (s : ByteArray) (hp : 0 < s.size) : s.data.toList.headD 0 = s[0] := by
  obtain ⟨⟨l⟩⟩ := s
  cases l with
  | nil => simp [ByteArray.size] at hp
  | cons x r => rfl

set_option maxHeartbeats 1000000 in
theorem name_any (s : ByteArray) (w : World) (hp : 0 < s.size) (hs : s.size ≤ 1000) :
    Calls Tryd.prog 54 #[.string s] w fun e w' => e = .returned (.string ⟨(nameText s.data.toList).toArray⟩) ∧ w' = w := by
  have cS := fun wx => small_any (s[0].toNat : Int) wx
  have cI := fun (k : Nat) (h : k < s.size) wx => inside_any (s[k].toNat : Int) wx
  have hhd := hd_data s hp
  have HP : Hid (plainL s.data.toList = (smallB (s[0].toNat : Int) && s.data.toList.all fun b => insideB b.toNat)) := by unfold plainL; rw [hhd]; exact rfl
  generalize smallB (s[0].toNat : Int) = b0 at *
  clear hhd
  have CI := hide cI
  clear cI
  go_enter Tryd.func54, Tryd.ntmps54
  go_wp2_with (go_at_call 76; refine (cS _).mono ?_; rintro e w' ⟨rfl, rfl⟩)
  clear cS
  go_loop [3, 4] (fun t i => ∃ k : Nat, k ≤ s.size ∧ i = .int .i64 k ∧ t = .bool (b0 && (s.data.toList.take k).all fun b => insideB b.toNat)) (fun _ i => s.size - (intOf i).toNat)
  case atStart => exact ⟨0, Nat.zero_le _, rfl, by simp⟩
  case round =>
    obtain ⟨k, hk, rfl, rfl⟩ := hrel
    by_cases hlt : k < s.size
    · have HT : Hid ((b0 && (s.data.toList.take (k + 1)).all fun b => insideB b.toNat) = ((b0 && (s.data.toList.take k).all fun b => insideB b.toNat) && insideB (s[k].toNat : Int))) := hide (by
        rw [take_snocU s k hlt, List.all_append, Bool.and_assoc]; simp only [List.all_cons, List.all_nil, Bool.and_true])
      have cK := fun wx => CI.out k hlt wx
      generalize (b0 && (s.data.toList.take k).all fun b => insideB b.toNat) = bk at *
      generalize insideB (s[k].toNat : Int) = bi at *
      cases bk
      all_goals
        go_wp2_with (go_at_call 77; refine (cK _).mono ?_; rintro e w' ⟨rfl, rfl⟩)
        go_round
        case rel => exact ⟨k + 1, by omega, by go_num, by rw [HT.out]; simp⟩
        case measure => simp [intOf]; omega
    · have hk1 : s.data.toList.take k = s.data.toList := List.take_of_length_le (by rw [← size_data]; omega)
      rw [hk1, ← HP.out]
      clear hk1 HP CI
      cases hpl : plainL s.data.toList
      · have HN := hide (show nameText s.data.toList = 39 :: (s.data.toList.flatMap escB ++ [39]) by simp [nameText, hpl])
        clear hpl
        go_wp2
        go_loop [6, 7] (fun t i => ∃ (n : Nat) (x : ByteArray), n ≤ s.size ∧ i = .int .i64 n ∧ t = .string x ∧ x.size ≤ 1 + 2 * n ∧ x.data.toList = 39 :: (s.data.toList.take n).flatMap escB) (fun _ i => s.size - (intOf i).toNat)
        case atStart => exact ⟨0, _, Nat.zero_le _, rfl, rfl, by decide, rfl⟩
        case round =>
          obtain ⟨n, x, hn, rfl, rfl, hxs, hx⟩ := hrel
          have HX := hide hx
          clear hx
          by_cases hnl : n < s.size
          · by_cases hb : s[n].toNat = 39 ∨ s[n].toNat = 92
            · have HE := hide (esc_yes s x n hnl HX.out hxs hb)
              rcases hb with hb | hb
              · have hb1 : ((s[n].toNat : Int) == 39) = true := by rw [beq_iff_eq]; omega
                clear hb
                go_wp2
                go_round
                case rel => exact ⟨n + 1, _, by omega, by go_num, rfl, HE.out.1, HE.out.2⟩
                case measure => simp [intOf]; omega
              · have hb1 : ((s[n].toNat : Int) == 39) = false := by rw [beq_eq_false_iff_ne]; omega
                have hb2 : ((s[n].toNat : Int) == 92) = true := by rw [beq_iff_eq]; omega
                clear hb
                go_wp2
                go_round
                case rel => exact ⟨n + 1, _, by omega, by go_num, rfl, HE.out.1, HE.out.2⟩
                case measure => simp [intOf]; omega
            · have HE := hide (esc_no s x n hnl HX.out hxs hb)
              have hb1 : ((s[n].toNat : Int) == 39) = false := by rw [beq_eq_false_iff_ne]; omega
              have hb2 : ((s[n].toNat : Int) == 92) = false := by rw [beq_eq_false_iff_ne]; omega
              clear hb
              go_wp2
              go_round
              case rel => exact ⟨n + 1, _, by omega, by go_num, rfl, HE.out.1, HE.out.2⟩
              case measure => simp [intOf]; omega
          · have hn1 : s.data.toList.take n = s.data.toList := List.take_of_length_le (by rw [← size_data]; omega)
            have HE : Hid (x ++ ⟨#[39]⟩ = ⟨(nameText s.data.toList).toArray⟩) := str_ext (by rw [data_add, HX.out, HN.out, hn1]; rfl)
            clear hn1
            go_wp2
            go_ret
            exact ⟨by rw [← HE.out]; rfl, rfl⟩
      · have HN := hide (show nameText s.data.toList = s.data.toList by simp [nameText, hpl])
        clear hpl
        go_wp2
        go_ret
        exact ⟨by rw [HN.out]; rfl, rfl⟩

end Go.Proofs.YtjnddclkdofgdaaDoor
