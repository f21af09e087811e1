/- The document's own answer: letters, digits; a number as it is written; a name as it is written. The document's own answer: a name as it is written. A term as it is written, as a function of its nodes. -/
import Derived.Test.YtjnddclkdofgdaaDoorBase0
import Derived.Laws.BytesArg
import Derived.Lib.Strings
import Derived.Test.YtjnddclkdofgdaaDoorRTerm
namespace Go.Proofs.YtjnddclkdofgdaaDoor
open Go.RowKit
set_option maxRecDepth 100000

def smallB (c : Int) : Bool := decide (97 ≤ c) && decide (c ≤ 122)
def largeB (c : Int) : Bool := decide (65 ≤ c) && decide (c ≤ 90)
def digitB (c : Int) : Bool := decide (48 ≤ c) && decide (c ≤ 57)
/-- May a character stand within a name? -/
def insideB (c : Int) : Bool := smallB c || largeB c || digitB c || c == 95

theorem small_any (c : Int) (w : World) : Calls Tryd.prog 76 #[.int .u8 c] w fun e w' => e = .returned (.bool (smallB c)) ∧ w' = w := by
  unfold smallB
  by_cases h : 97 ≤ c
  · go_enter Tryd.func76, Tryd.ntmps76
    go_wp2
    go_ret
    exact ⟨ret_bool (by rw [Bool.eq_iff_iff]; simp; omega), rfl⟩
  · go_enter Tryd.func76, Tryd.ntmps76
    go_wp2
    go_ret
    exact ⟨ret_bool (by rw [Bool.eq_iff_iff]; simp; omega), rfl⟩
theorem large_any (c : Int) (w : World) : Calls Tryd.prog 97 #[.int .u8 c] w fun e w' => e = .returned (.bool (largeB c)) ∧ w' = w := by
  unfold largeB
  by_cases h : 65 ≤ c
  · go_enter Tryd.func97, Tryd.ntmps97
    go_wp2
    go_ret
    exact ⟨ret_bool (by rw [Bool.eq_iff_iff]; simp; omega), rfl⟩
  · go_enter Tryd.func97, Tryd.ntmps97
    go_wp2
    go_ret
    exact ⟨ret_bool (by rw [Bool.eq_iff_iff]; simp; omega), rfl⟩
theorem digit_any (c : Int) (w : World) : Calls Tryd.prog 98 #[.int .u8 c] w fun e w' => e = .returned (.bool (digitB c)) ∧ w' = w := by
  unfold digitB
  by_cases h : 48 ≤ c
  · go_enter Tryd.func98, Tryd.ntmps98
    go_wp2
    go_ret
    exact ⟨ret_bool (by rw [Bool.eq_iff_iff]; simp; omega), rfl⟩
  · go_enter Tryd.func98, Tryd.ntmps98
    go_wp2
    go_ret
    exact ⟨ret_bool (by rw [Bool.eq_iff_iff]; simp; omega), rfl⟩

theorem inside_any (c : Int) (w : World) : Calls Tryd.prog 77 #[.int .u8 c] w fun e w' => e = .returned (.bool (insideB c)) ∧ w' = w := by
  have c1 := small_any c w
  have c2 := large_any c w
  have c3 := digit_any c w
  have HI : Hid (insideB c = (smallB c || largeB c || digitB c || c == 95)) := rfl
  generalize smallB c = b1 at *
  generalize largeB c = b2 at *
  generalize digitB c = b3 at *
  go_enter Tryd.func77, Tryd.ntmps77
  cases b1 <;> cases b2 <;> cases b3
  all_goals
    go_wp2_with (first
      | (go_at_call 76; refine c1.mono ?_; rintro e w' ⟨rfl, rfl⟩)
      | (go_at_call 97; refine c2.mono ?_; rintro e w' ⟨rfl, rfl⟩)
      | (go_at_call 98; refine c3.mono ?_; rintro e w' ⟨rfl, rfl⟩))
    go_ret
    exact ⟨ret_bool (by rw [HI.out]; simp), rfl⟩

/-- A digit, as it is written. -/
def digU (n : Nat) : UInt8 := UInt8.ofNat (48 + n)
/-- A number from 0 to 99, as it is written. -/
def decB (n : Nat) : List UInt8 := if n < 10 then [digU n] else [digU (n / 10), digU (n % 10)]

theorem decB_len (n : Nat) : (decB n).length ≤ 2 := by
  unfold decB
  split <;> simp
theorem conv_one (w : World) (n : Int) : (convert 63 9 (.slice (some ⟨w.heap.size, 0, none⟩) 1 1)).run Tryd.prog (w.alloc (.cells #[.int .u8 n] 5)) = .ok (.string ⟨#[UInt8.ofNat n.toNat]⟩) (w.alloc (.cells #[.int .u8 n] 5)) := by
  rw [run_convert_bytes_string _ _ _ 5 _ _ _ Tryd.underlying63 Tryd.underlying5 Tryd.underlying9, run_bytesToString _ _ _ _ [n] ?_]
  · rfl
  · have := run_loadCells_list (P := Tryd.prog) (w.alloc (.cells #[.int .u8 n] 5)) ⟨w.heap.size, 0, none⟩ [.int .u8 n] (fun j v hj => by
      match j, hj with
      | 0, hj => simp at hj; subst hj; simp [Addr.add]
      | j + 1, hj => simp at hj)
    simpa using this

theorem conv_dig (w : World) (n : Nat) : (convert 63 9 (.slice (some ⟨w.heap.size, 0, none⟩) 1 1)).run Tryd.prog (w.alloc (.cells #[.int .u8 (48 + (n : Int) % 10)] 5)) = .ok (.string ⟨#[digU (n % 10)]⟩) (w.alloc (.cells #[.int .u8 (48 + (n : Int) % 10)] 5)) := by
  rw [conv_one]
  have : (48 + (n : Int) % 10).toNat = 48 + n % 10 := by omega
  rw [this]
  rfl

theorem decimal_one (n : Nat) (w : World) (h : n < 10) : Calls Tryd.prog 53 #[.int .i64 n] w fun e w' => e = .returned (.string ⟨(decB n).toArray⟩) ∧ Below w.heap.size w w' := by
  have hc := conv_dig w n
  have HR : Hid ((⟨#[digU (n % 10)]⟩ : ByteArray) = ⟨(decB n).toArray⟩) := by
    unfold decB
    rw [if_pos h]
    have : n % 10 = n := by omega
    rw [this]
    exact rfl
  go_enter Tryd.func53, Tryd.ntmps53
  go_wp2
  go_ret
  exact ⟨by rw [← HR.out]; rfl, (Below.refl _ _).alloc (Nat.le_refl _) _⟩

theorem decimal_any (n : Nat) (w : World) (h : n < 100) : Calls Tryd.prog 53 #[.int .i64 n] w fun e w' => e = .returned (.string ⟨(decB n).toArray⟩) ∧ Below w.heap.size w w' := by
  by_cases h10 : n < 10
  · exact decimal_one n w h10
  · have hc := conv_dig w n
    have HC := hide (fun wx => decimal_one (n / 10) wx (by omega))
    have HR : Hid ((⟨(decB (n / 10)).toArray⟩ : ByteArray) ++ ⟨#[digU (n % 10)]⟩ = ⟨(decB n).toArray⟩) := by
      unfold decB
      rw [if_neg h10, if_pos (by omega)]
      exact rfl
    have hdl := decB_len (n / 10)
    go_enter Tryd.func53, Tryd.ntmps53
    go_wp2_with (go_at_call 53; refine (unhide HC _).mono ?_; rintro e w' ⟨rfl, hb⟩; have HB := hide hb; clear hb)
    go_ret
    exact ⟨by rw [← HR.out]; rfl, ((Below.refl _ _).alloc (Nat.le_refl _) _).trans (HB.out.mono (by simp))⟩

end Go.Proofs.YtjnddclkdofgdaaDoor

namespace Go.Proofs.YtjnddclkdofgdaaDoor
open Go.RowKit
set_option maxRecDepth 100000

/-- Can a name stand without signs around it? -/
def plainL (l : List UInt8) : Bool := smallB (l.headD 0).toNat && l.all fun b => insideB b.toNat
/-- A character within signs. -/
def escB (b : UInt8) : List UInt8 := if b.toNat = 39 ∨ b.toNat = 92 then [92, b] else [b]
/-- A name as it is written. -/
def nameText (l : List UInt8) : List UInt8 := if plainL l then l else 39 :: (l.flatMap escB ++ [39])
theorem escB_len (l : List UInt8) : (l.flatMap escB).length ≤ 2 * l.length := by
  induction l with
  | nil => simp
  | cons x r ih =>
    have : (escB x).length ≤ 2 := by unfold escB; split <;> simp
    simp only [List.flatMap_cons, List.length_append, List.length_cons]
    omega
theorem nameText_len (l : List UInt8) : (nameText l).length ≤ 2 * l.length + 2 := by
  unfold nameText
  split
  · omega
  · have := escB_len l
    simp only [List.length_cons, List.length_append, List.length_nil]
    omega
theorem take_snocU (s : ByteArray) (k : Nat) (h : k < s.size) : s.data.toList.take (k + 1) = s.data.toList.take k ++ [s[k]] := by
  rw [List.take_succ_eq_append_getElem (by simpa using h)]; rfl
theorem size_data (x : ByteArray) : x.size = x.data.toList.length := rfl
theorem data_add (a b : ByteArray) : (a ++ b).data.toList = a.data.toList ++ b.data.toList := by simp
theorem data_one (s : ByteArray) (k : Nat) (h : k < s.size) : (s.extract k (k + 1)).data.toList = [s[k]] := by
  rw [Lib.extract_data, List.drop_eq_getElem_cons (by simpa using h)]
  simp
  rfl
theorem str_ext {x : ByteArray} {l : List UInt8} (h : x.data.toList = l) : x = ⟨l.toArray⟩ := by
  subst h; rfl

theorem esc_yes (s x : ByteArray) (n : Nat) (h : n < s.size) (hx : x.data.toList = 39 :: (s.data.toList.take n).flatMap escB) (hs : x.size ≤ 1 + 2 * n) (hb : s[n].toNat = 39 ∨ s[n].toNat = 92) :
    (x ++ ⟨#[92]⟩ ++ s.extract n (n + 1)).size ≤ 1 + 2 * (n + 1) ∧ (x ++ ⟨#[92]⟩ ++ s.extract n (n + 1)).data.toList = 39 :: (s.data.toList.take (n + 1)).flatMap escB := by
  have hd := data_one s n h
  refine ⟨?_, ?_⟩
  · rw [size_data] at hs ⊢
    rw [data_add, data_add, hd]
    simp only [List.length_append, List.length_cons, List.length_nil]
    omega
  · rw [data_add, data_add, hd, hx, take_snocU s n h]
    simp [escB, hb]
theorem esc_no (s x : ByteArray) (n : Nat) (h : n < s.size) (hx : x.data.toList = 39 :: (s.data.toList.take n).flatMap escB) (hs : x.size ≤ 1 + 2 * n) (hb : ¬ (s[n].toNat = 39 ∨ s[n].toNat = 92)) :
    (x ++ s.extract n (n + 1)).size ≤ 1 + 2 * (n + 1) ∧ (x ++ s.extract n (n + 1)).data.toList = 39 :: (s.data.toList.take (n + 1)).flatMap escB := by
  have hd := data_one s n h
  refine ⟨?_, ?_⟩
  · rw [size_data] at hs ⊢
    rw [data_add, hd]
    simp only [List.length_append, List.length_cons, List.length_nil]
    omega
  · rw [data_add, hd, hx, take_snocU s n h]
    simp [escB, hb]
theorem hd_data (s : ByteArray) (hp : 0 < s.size) : s.data.toList.headD 0 = s[0] := by
  obtain ⟨⟨l⟩⟩ := s
  cases l with
  | nil => simp [ByteArray.size] at hp
  | cons x r => rfl

set_option maxHeartbeats 1000000 in
theorem name_any (s : ByteArray) (w : World) (hp : 0 < s.size) (hs : s.size ≤ 1000) :
    Calls Tryd.prog 54 #[.string s] w fun e w' => e = .returned (.string ⟨(nameText s.data.toList).toArray⟩) ∧ w' = w := by
  have cS := fun wx => small_any (s[0].toNat : Int) wx
  have cI := fun (k : Nat) (h : k < s.size) wx => inside_any (s[k].toNat : Int) wx
  have hhd := hd_data s hp
  have HP : Hid (plainL s.data.toList = (smallB (s[0].toNat : Int) && s.data.toList.all fun b => insideB b.toNat)) := by unfold plainL; rw [hhd]; exact rfl
  generalize smallB (s[0].toNat : Int) = b0 at *
  clear hhd
  have CI := hide cI
  clear cI
  go_enter Tryd.func54, Tryd.ntmps54
  go_wp2_with (go_at_call 76; refine (cS _).mono ?_; rintro e w' ⟨rfl, rfl⟩)
  clear cS
  go_loop [3, 4] (fun t i => ∃ k : Nat, k ≤ s.size ∧ i = .int .i64 k ∧ t = .bool (b0 && (s.data.toList.take k).all fun b => insideB b.toNat)) (fun _ i => s.size - (intOf i).toNat)
  case atStart => exact ⟨0, Nat.zero_le _, rfl, by simp⟩
  case round =>
    obtain ⟨k, hk, rfl, rfl⟩ := hrel
    by_cases hlt : k < s.size
    · have HT : Hid ((b0 && (s.data.toList.take (k + 1)).all fun b => insideB b.toNat) = ((b0 && (s.data.toList.take k).all fun b => insideB b.toNat) && insideB (s[k].toNat : Int))) := hide (by
        rw [take_snocU s k hlt, List.all_append, Bool.and_assoc]; simp only [List.all_cons, List.all_nil, Bool.and_true])
      have cK := fun wx => CI.out k hlt wx
      generalize (b0 && (s.data.toList.take k).all fun b => insideB b.toNat) = bk at *
      generalize insideB (s[k].toNat : Int) = bi at *
      cases bk
      all_goals
        go_wp2_with (go_at_call 77; refine (cK _).mono ?_; rintro e w' ⟨rfl, rfl⟩)
        go_round
        case rel => exact ⟨k + 1, by omega, by go_num, by rw [HT.out]; simp⟩
        case measure => simp [intOf]; omega
    · have hk1 : s.data.toList.take k = s.data.toList := List.take_of_length_le (by rw [← size_data]; omega)
      rw [hk1, ← HP.out]
      clear hk1 HP CI
      cases hpl : plainL s.data.toList
      · have HN := hide (show nameText s.data.toList = 39 :: (s.data.toList.flatMap escB ++ [39]) by simp [nameText, hpl])
        clear hpl
        go_wp2
        go_loop [6, 7] (fun t i => ∃ (n : Nat) (x : ByteArray), n ≤ s.size ∧ i = .int .i64 n ∧ t = .string x ∧ x.size ≤ 1 + 2 * n ∧ x.data.toList = 39 :: (s.data.toList.take n).flatMap escB) (fun _ i => s.size - (intOf i).toNat)
        case atStart => exact ⟨0, _, Nat.zero_le _, rfl, rfl, by decide, rfl⟩
        case round =>
          obtain ⟨n, x, hn, rfl, rfl, hxs, hx⟩ := hrel
          have HX := hide hx
          clear hx
          by_cases hnl : n < s.size
          · by_cases hb : s[n].toNat = 39 ∨ s[n].toNat = 92
            · have HE := hide (esc_yes s x n hnl HX.out hxs hb)
              rcases hb with hb | hb
              · have hb1 : ((s[n].toNat : Int) == 39) = true := by rw [beq_iff_eq]; omega
                clear hb
                go_wp2
                go_round
                case rel => exact ⟨n + 1, _, by omega, by go_num, rfl, HE.out.1, HE.out.2⟩
                case measure => simp [intOf]; omega
              · have hb1 : ((s[n].toNat : Int) == 39) = false := by rw [beq_eq_false_iff_ne]; omega
                have hb2 : ((s[n].toNat : Int) == 92) = true := by rw [beq_iff_eq]; omega
                clear hb
                go_wp2
                go_round
                case rel => exact ⟨n + 1, _, by omega, by go_num, rfl, HE.out.1, HE.out.2⟩
                case measure => simp [intOf]; omega
            · have HE := hide (esc_no s x n hnl HX.out hxs hb)
              have hb1 : ((s[n].toNat : Int) == 39) = false := by rw [beq_eq_false_iff_ne]; omega
              have hb2 : ((s[n].toNat : Int) == 92) = false := by rw [beq_eq_false_iff_ne]; omega
              clear hb
              go_wp2
              go_round
              case rel => exact ⟨n + 1, _, by omega, by go_num, rfl, HE.out.1, HE.out.2⟩
              case measure => simp [intOf]; omega
          · have hn1 : s.data.toList.take n = s.data.toList := List.take_of_length_le (by rw [← size_data]; omega)
            have HE : Hid (x ++ ⟨#[39]⟩ = ⟨(nameText s.data.toList).toArray⟩) := str_ext (by rw [data_add, HX.out, HN.out, hn1]; rfl)
            clear hn1
            go_wp2
            go_ret
            exact ⟨by rw [← HE.out]; rfl, rfl⟩
      · have HN := hide (show nameText s.data.toList = s.data.toList by simp [nameText, hpl])
        clear hpl
        go_wp2
        go_ret
        exact ⟨by rw [HN.out]; rfl, rfl⟩

end Go.Proofs.YtjnddclkdofgdaaDoor

namespace Go.Proofs.YtjnddclkdofgdaaDoor
open Go.RowKit

theorem charAt_le4 (s : ByteArray) (p : Nat) : charAt s p ≤ 4 := by
  have hz : szN (byteD s p) ≤ 4 := by unfold szN; split <;> (try split) <;> (try split) <;> (try split) <;> (try split) <;> omega
  simp only [charAt]
  split
  · omega
  · split
    · omega
    · split <;> omega
theorem nameGo_size (s : ByteArray) : ∀ f p m, s.size - p ≤ f → m ≤ 20 → nameGo s f p m = true → s.size ≤ p + 4 * (20 - m) := by
  intro f
  induction f with
  | zero => intro p m hf hm h; omega
  | succ f ih =>
    intro p m hf hm h
    by_cases hp : p < s.size
    · by_cases hb : charAt s p = 0 ∨ byteD s p = 10
      · rw [nameGo_bad s (f + 1) p m hp hf hb] at h; simp at h
      · have hc := charAt_le4 s p
        simp only [nameGo, if_pos hp, if_neg hb] at h
        by_cases hm20 : m = 20
        · exfalso
          subst hm20
          have : ∀ f p m, 20 < m → nameGo s f p m = false := by
            intro f
            induction f with
            | zero => intro p m hm; simp [nameGo]; omega
            | succ f ih =>
              intro p m hm
              simp only [nameGo]
              split
              · split
                · rfl
                · exact ih _ _ (by omega)
              · simp; omega
          rw [this _ _ _ (by omega)] at h
          simp at h
        · have := ih (p + charAt s p) (m + 1) (by omega) (by omega) h
          omega
    · omega
theorem isNameL_size (s : ByteArray) (h : isNameL s = true) : 0 < s.size ∧ s.size ≤ 80 := by
  refine ⟨?_, ?_⟩
  · rcases Nat.eq_zero_or_pos s.size with h0 | h0
    · unfold isNameL at h; rw [h0] at h; simp [nameGo] at h
    · exact h0
  · have := nameGo_size s s.size 0 0 (by omega) (by omega) h
    omega

/-- So many parts, each with what stands ahead of it; and what is left. -/
def partsF (T : List Nd → List UInt8 × List Nd) : Nat → List Nd → List UInt8 × List Nd
  | 0, r => ([], r)
  | i + 1, r => ((partsF T i r).1 ++ ((if i = 0 then [40] else [44, 32]) ++ (T (partsF T i r).2).1), (T (partsF T i r).2).2)
/-- The term that begins nodes, as it is written; and the nodes behind it. -/
def termW : Nat → List Nd → List UInt8 × List Nd
  | 0, l => ([], l)
  | _ + 1, [] => ([], [])
  | f + 1, n :: r => if varB n then (88 :: decB n.2.toNat, r) else (nameText n.1.data.toList ++ ((partsF (termW f) n.2.toNat r).1 ++ if 0 < n.2.toNat then [41] else []), (partsF (termW f) n.2.toNat r).2)

theorem parts_step (f : Nat) (ih : ∀ l q, l.length ≤ f → termGo l (q + 1) = true → ∃ k, 1 ≤ k ∧ k ≤ l.length ∧ (termW f l).2 = l.drop k ∧ termGo (l.drop k) q = true ∧ (termW f l).1.length + 2 ≤ 200 * k) :
    ∀ i m q l, i ≤ m → l.length ≤ f → termGo l (m + q) = true → ∃ k, k ≤ l.length ∧ (partsF (termW f) i l).2 = l.drop k ∧ termGo (l.drop k) (m - i + q) = true ∧ (partsF (termW f) i l).1.length ≤ 200 * k := by
  intro i
  induction i with
  | zero => intro m q l _ _ h; exact ⟨0, by omega, rfl, by simpa using h, by simp [partsF]⟩
  | succ i ihi =>
    intro m q l him hl h
    obtain ⟨k, hk, h1, h2, h3⟩ := ihi m q l (by omega) hl h
    have e : m - i + q = (m - (i + 1) + q) + 1 := by omega
    rw [e] at h2
    obtain ⟨j, hj1, hj2, hj3, hj4, hj5⟩ := ih (l.drop k) (m - (i + 1) + q) (by simp; omega) h2
    simp only [List.length_drop] at hj2
    refine ⟨k + j, by omega, ?_, ?_, ?_⟩
    · simp only [partsF, h1, hj3, List.drop_drop]
    · rw [← List.drop_drop]; exact hj4
    · simp only [partsF, h1, List.length_append]
      have : (if i = 0 then ([40] : List UInt8) else [44, 32]).length ≤ 2 := by split <;> simp
      omega
theorem term_step (f : Nat) : ∀ l q, l.length ≤ f → termGo l (q + 1) = true → ∃ k, 1 ≤ k ∧ k ≤ l.length ∧ (termW f l).2 = l.drop k ∧ termGo (l.drop k) q = true ∧ (termW f l).1.length + 2 ≤ 200 * k := by
  induction f with
  | zero => intro l q hl h; have : l = [] := List.eq_nil_of_length_eq_zero (by omega); subst this; simp [termGo] at h
  | succ f ih =>
    intro l q hl h
    cases l with
    | nil => simp [termGo] at h
    | cons n r =>
      have hq : ¬ q + 1 = 0 := by omega
      simp only [termGo, if_neg hq] at h
      by_cases hok : nodeOk n = true
      · rw [if_pos hok] at h
        by_cases hv : varB n = true
        · refine ⟨1, by omega, by simp, by simp [termW, hv], ?_, ?_⟩
          · have : wants n = 0 := by simp [wants, hv]
            rw [this] at h
            simpa using h
          · have := decB_len n.2.toNat
            simp only [termW, if_pos hv, List.length_cons]
            omega
        · have hw : wants n = n.2.toNat := by simp [wants, hv]
          have hn : isNameL n.1 = true := by
            have : isNameL n.1 = true ∧ 0 ≤ n.2 ∧ n.2 ≤ 5 := by simpa [nodeOk, hv] using hok
            exact this.1
          have hsz := isNameL_size n.1 hn
          have hnt := nameText_len n.1.data.toList
          rw [hw] at h
          have e : q + 1 - 1 + n.2.toNat = n.2.toNat + q := by omega
          rw [e] at h
          obtain ⟨k, hk1, hk2, hk3, hk4⟩ := parts_step f ih n.2.toNat n.2.toNat q r (Nat.le_refl _) (by simpa using hl) h
          refine ⟨k + 1, by omega, by simp; omega, ?_, ?_, ?_⟩
          · simp only [termW, if_neg hv, hk2, List.drop_succ_cons]
          · simpa using hk3
          · simp only [termW, if_neg hv, List.length_append]
            have : (if 0 < n.2.toNat then ([41] : List UInt8) else []).length ≤ 1 := by split <;> simp
            rw [← size_data] at hnt
            omega
      · rw [if_neg hok] at h; simp at h

end Go.Proofs.YtjnddclkdofgdaaDoor
