/- Two ways to say that a clause is in order. -/
import Derived.Test.YtjnddclkdofgdaaDoorRClause
namespace Go.Proofs.YtjnddclkdofgdaaDoor
open Go.RowKit

/-- The next number, behind one node more; nothing: a number was left out. -/
def numStep (st : Option Int) (n : Nd) : Option Int :=
  match st with
  | none => none
  | some x => if varB n then (if x < n.2 then none else if n.2 = x then some (x + 1) else some x) else some x
def numL (l : List Nd) (st : Option Int) : Option Int := l.foldl numStep st
def numC (c : List Lt) : Option Int := c.foldl (fun st x => numL x.2 st) (some 0)
theorem numL_none (l : List Nd) : numL l none = none := by
  induction l with
  | nil => rfl
  | cons x r ih => simpa [numL, numStep] using ih
theorem numL_take (l : List Nd) (st : Option Int) (k : Nat) (h : k < l.length) : numL (l.take (k + 1)) st = numStep (numL (l.take k) st) l[k] := by
  rw [List.take_succ_eq_append_getElem h]; simp only [numL, List.foldl_append, List.foldl_cons, List.foldl_nil]
theorem numC_take (c : List Lt) (k : Nat) (h : k < c.length) : numC (c.take (k + 1)) = numL c[k].2 (numC (c.take k)) := by
  rw [List.take_succ_eq_append_getElem h]; simp only [numC, List.foldl_append, List.foldl_cons, List.foldl_nil]
theorem numL_split (l : List Nd) (st : Option Int) (k : Nat) : numL l st = numL (l.drop k) (numL (l.take k) st) := by
  conv => lhs; rw [← List.take_append_drop k l]
  simp only [numL, List.foldl_append]
theorem numC_split (c : List Lt) (k : Nat) : numC c = (c.drop k).foldl (fun st x => numL x.2 st) (numC (c.take k)) := by
  conv => lhs; rw [← List.take_append_drop k c]
  simp only [numC, List.foldl_append]
theorem numC_none_fold (c : List Lt) : c.foldl (fun st x => numL x.2 st) none = none := by
  induction c with
  | nil => rfl
  | cons x r ih => simp only [List.foldl_cons, numL_none, ih]

/-- The numbers from 0 on. -/
def upTo (m : Nat) : List Int := (List.range m).map Int.ofNat
theorem upTo_succ (m : Nat) : upTo (m + 1) = upTo m ++ [(m : Int)] := by simp [upTo, List.range_succ]
theorem upTo_len (m : Nat) : (upTo m).length = m := by simp [upTo]
theorem posT_upTo (m : Nat) (x : Int) : posT (upTo m) x = if 0 ≤ x ∧ x < m then x else -1 := by
  induction m with
  | zero => simp [upTo, posT_nil]; omega
  | succ m ih =>
    rw [upTo_succ, posT_snoc, upTo_len, ih]
    by_cases h : (m : Int) = x
    · subst h; rw [if_pos rfl, if_pos (by omega)]
    · rw [if_neg h]
      by_cases h2 : 0 ≤ x ∧ x < m
      · rw [if_pos h2, if_pos (by omega)]
      · rw [if_neg h2, if_neg (by omega)]
/-- The variables' numbers are none below 0. -/
def NonNeg (l : List Nd) : Prop := ∀ n ∈ l, varB n = true → 0 ≤ n.2
theorem renStep_new (out : List Nd) (m : Nat) (n : Nd) (hv : varB n = true) (h : ¬ (0 ≤ n.2 ∧ n.2 < m)) : renStep (out, upTo m) n = (out ++ [(n.1, (m : Int))], upTo m ++ [n.2]) := by
  have hp : posT (upTo m) n.2 = -1 := by rw [posT_upTo, if_neg h]
  unfold renStep
  rw [if_pos hv]
  show (if posT (upTo m) n.2 < 0 then (out ++ [(n.1, ((upTo m).length : Int))], upTo m ++ [n.2]) else (out ++ [(n.1, posT (upTo m) n.2)], upTo m)) = _
  rw [hp, if_pos (by omega), upTo_len]
theorem renStep_old (out : List Nd) (m : Nat) (n : Nd) (hv : varB n = true) (h : 0 ≤ n.2 ∧ n.2 < m) : renStep (out, upTo m) n = (out ++ [n], upTo m) := by
  have hp : posT (upTo m) n.2 = n.2 := by rw [posT_upTo, if_pos h]
  unfold renStep
  rw [if_pos hv]
  show (if posT (upTo m) n.2 < 0 then (out ++ [(n.1, ((upTo m).length : Int))], upTo m ++ [n.2]) else (out ++ [(n.1, posT (upTo m) n.2)], upTo m)) = _
  rw [hp, if_neg (by omega)]
theorem renStep_ok (out : List Nd) (m : Nat) (n : Nd) (hn : varB n = true → 0 ≤ n.2) (m' : Int) (h : numStep (some (m : Int)) n = some m') : ∃ k : Nat, m' = k ∧ renStep (out, upTo m) n = (out ++ [n], upTo k) := by
  simp only [numStep] at h
  by_cases hv : varB n = true
  · have h0 := hn hv
    rw [if_pos hv] at h
    by_cases h1 : (m : Int) < n.2
    · rw [if_pos h1] at h; simp at h
    · rw [if_neg h1] at h
      by_cases h2 : n.2 = (m : Int)
      · rw [if_pos h2] at h
        simp at h
        refine ⟨m + 1, by omega, ?_⟩
        rw [renStep_new out m n hv (by omega), upTo_succ, ← h2]
      · rw [if_neg h2] at h
        simp at h
        exact ⟨m, by omega, renStep_old out m n hv (by omega)⟩
  · rw [if_neg hv] at h
    simp at h
    refine ⟨m, by omega, ?_⟩
    unfold renStep
    rw [if_neg hv]
theorem ren_fold_ok (l : List Nd) : ∀ (out : List Nd) (m : Nat), NonNeg l → ∀ m', numL l (some (m : Int)) = some m' → ∃ k : Nat, m' = k ∧ l.foldl renStep (out, upTo m) = (out ++ l, upTo k) := by
  induction l with
  | nil => intro out m _ m' h; simp [numL] at h; exact ⟨m, by omega, by simp⟩
  | cons n r ih =>
    intro out m hn m' h
    simp only [numL, List.foldl_cons] at h ⊢
    cases hs : numStep (some (m : Int)) n with
    | none => rw [hs] at h; rw [show List.foldl numStep none r = none from numL_none r] at h; simp at h
    | some x =>
      rw [hs] at h
      obtain ⟨k, rfl, hk⟩ := renStep_ok out m n (hn n (by simp)) x hs
      rw [hk]
      obtain ⟨j, hj1, hj2⟩ := ih (out ++ [n]) k (fun y hy => hn y (by simp [hy])) m' h
      exact ⟨j, hj1, by rw [hj2]; simp⟩
theorem ren_fold_prefix (l : List Nd) : ∀ st : List Nd × List Int, ∃ t, (l.foldl renStep st).1 = st.1 ++ t ∧ t.length = l.length := by
  induction l with
  | nil => intro st; exact ⟨[], by simp, rfl⟩
  | cons n r ih =>
    intro st
    obtain ⟨t, h1, h2⟩ := ih (renStep st n)
    have : ∃ x, (renStep st n).1 = st.1 ++ [x] := by
      unfold renStep
      split
      · split <;> exact ⟨_, rfl⟩
      · exact ⟨_, rfl⟩
    obtain ⟨x, hx⟩ := this
    exact ⟨x :: t, by rw [List.foldl_cons, h1, hx]; simp, by simp [h2]⟩
theorem ren_fold_bad (l : List Nd) : ∀ (out : List Nd) (m : Nat), NonNeg l → numL l (some (m : Int)) = none → (l.foldl renStep (out, upTo m)).1 ≠ out ++ l := by
  induction l with
  | nil => intro out m _ h; simp [numL] at h
  | cons n r ih =>
    intro out m hn h
    simp only [numL, List.foldl_cons] at h ⊢
    cases hs : numStep (some (m : Int)) n with
    | none =>
      have hv : varB n = true := by
        cases hv : varB n
        · simp [numStep, hv] at hs
        · rfl
      have hlt : (m : Int) < n.2 := by
        by_cases hlt : (m : Int) < n.2
        · exact hlt
        · exfalso
          simp only [numStep, if_pos hv, if_neg hlt] at hs
          split at hs <;> simp at hs
      have h0 := hn n (by simp) hv
      have hr := renStep_new out m n hv (by omega)
      rw [hr]
      obtain ⟨t, ht, _⟩ := ren_fold_prefix r (out ++ [(n.1, (m : Int))], upTo m ++ [n.2])
      rw [ht]
      intro he
      simp only [List.append_assoc, List.cons_append, List.nil_append] at he
      have := List.append_cancel_left he
      simp only [List.cons.injEq] at this
      have h2 := congrArg Prod.snd this.1
      simp at h2
      omega
    | some x =>
      rw [hs] at h
      obtain ⟨k, rfl, hk⟩ := renStep_ok out m n (hn n (by simp)) x hs
      rw [hk]
      have := ih (out ++ [n]) k (fun y hy => hn y (by simp [hy])) h
      simpa using this
theorem renL_ok (l : List Nd) (m : Nat) (hn : NonNeg l) (m' : Int) (h : numL l (some (m : Int)) = some m') : ∃ k : Nat, m' = k ∧ renL l (upTo m) = (l, upTo k) := by
  have := ren_fold_ok l [] m hn m' h
  simpa [renL] using this
theorem renL_bad (l : List Nd) (m : Nat) (hn : NonNeg l) (h : numL l (some (m : Int)) = none) : (renL l (upTo m)).1 ≠ l := by
  have := ren_fold_bad l [] m hn h
  simpa [renL] using this

theorem lit_fold_ok (c : List Lt) : ∀ (out : List Lt) (m : Nat), (∀ x ∈ c, NonNeg x.2) → ∀ m', c.foldl (fun st x => numL x.2 st) (some (m : Int)) = some m' → ∃ k : Nat, c.foldl litStep (out, upTo m) = (out ++ c, upTo k) := by
  induction c with
  | nil => intro out m _ m' h; exact ⟨m, by simp⟩
  | cons x r ih =>
    intro out m hn m' h
    simp only [List.foldl_cons] at h ⊢
    cases hs : numL x.2 (some (m : Int)) with
    | none => rw [hs, numC_none_fold] at h; simp at h
    | some y =>
      rw [hs] at h
      obtain ⟨k, rfl, hk⟩ := renL_ok x.2 m (hn x (by simp)) y hs
      have : litStep (out, upTo m) x = (out ++ [x], upTo k) := by simp [litStep, hk]
      rw [this]
      obtain ⟨j, hj⟩ := ih (out ++ [x]) k (fun y hy => hn y (by simp [hy])) m' h
      exact ⟨j, by rw [hj]; simp⟩
theorem lit_fold_prefix (c : List Lt) : ∀ st : List Lt × List Int, ∃ t, (c.foldl litStep st).1 = st.1 ++ t := by
  induction c with
  | nil => intro st; exact ⟨[], by simp⟩
  | cons x r ih =>
    intro st
    obtain ⟨t, h1⟩ := ih (litStep st x)
    exact ⟨(x.1, (renL x.2 st.2).1) :: t, by rw [List.foldl_cons, h1]; simp [litStep]⟩
theorem lit_fold_bad (c : List Lt) : ∀ (out : List Lt) (m : Nat), (∀ x ∈ c, NonNeg x.2) → c.foldl (fun st x => numL x.2 st) (some (m : Int)) = none → (c.foldl litStep (out, upTo m)).1 ≠ out ++ c := by
  induction c with
  | nil => intro out m _ h; simp at h
  | cons x r ih =>
    intro out m hn h
    simp only [List.foldl_cons] at h ⊢
    cases hs : numL x.2 (some (m : Int)) with
    | none =>
      have hb := renL_bad x.2 m (hn x (by simp)) hs
      obtain ⟨t, ht⟩ := lit_fold_prefix r (litStep (out, upTo m) x)
      rw [ht]
      intro he
      simp only [litStep, List.append_assoc, List.cons_append, List.nil_append] at he
      have := List.append_cancel_left he
      simp only [List.cons.injEq] at this
      have h2 := congrArg Prod.snd this.1
      exact hb h2
    | some y =>
      rw [hs] at h
      obtain ⟨k, rfl, hk⟩ := renL_ok x.2 m (hn x (by simp)) y hs
      have : litStep (out, upTo m) x = (out ++ [x], upTo k) := by simp [litStep, hk]
      rw [this]
      have := ih (out ++ [x]) k (fun y hy => hn y (by simp [hy])) h
      simpa using this
theorem ded_fold_len (c : List Lt) : ∀ acc : List Lt, (c.foldl dedStep acc).length = acc.length + c.length → c.foldl dedStep acc = acc ++ c := by
  induction c with
  | nil => intro acc _; simp
  | cons x r ih =>
    intro acc h
    simp only [List.foldl_cons, List.length_cons] at h ⊢
    have hle : ∀ (r acc : List Lt), (r.foldl dedStep acc).length ≤ acc.length + r.length := by
      intro r
      induction r with
      | nil => intro acc; simp
      | cons y r ih =>
        intro acc
        have := ih (dedStep acc y)
        have h1 : (dedStep acc y).length ≤ acc.length + 1 := by unfold dedStep; split <;> simp
        simp only [List.foldl_cons, List.length_cons]
        omega
    by_cases hm : memB acc x = true
    · have h1 : dedStep acc x = acc := by simp [dedStep, hm]
      rw [h1] at h
      have := hle r acc
      omega
    · have h1 : dedStep acc x = acc ++ [x] := by simp [dedStep, hm]
      rw [h1] at h ⊢
      have := ih (acc ++ [x]) (by simp; omega)
      rw [this]
      simp
/-- The two ways are one. -/
theorem inOrder_eq (c : List Lt) (hn : ∀ x ∈ c, NonNeg x.2) : decide (c = ordL c) = (decide ((dedL c).length = c.length) && (numC c).isSome) := by
  rw [Bool.eq_iff_iff]
  simp only [decide_eq_true_eq, Bool.and_eq_true]
  have hz : upTo 0 = [] := rfl
  constructor
  · intro h
    have hl : (dedL c).length = c.length := by
      have h1 := (litSt_bounds (dedL c)).1
      have h2 : (ordL c).length = (dedL c).length := h1
      rw [← h] at h2
      exact h2.symm
    have hd : dedL c = c := by
      have := ded_fold_len c [] (by simpa [dedL] using hl)
      simpa [dedL] using this
    refine ⟨hl, ?_⟩
    cases hc : numC c with
    | none =>
      exfalso
      have := lit_fold_bad c [] 0 hn hc
      rw [hz] at this
      apply this
      rw [List.nil_append]
      conv => rhs; rw [h]
      unfold ordL litSt
      rw [hd]
    | some y => rfl
  · rintro ⟨hl, hs⟩
    have hd : dedL c = c := by
      have := ded_fold_len c [] (by simpa [dedL] using hl)
      simpa [dedL] using this
    obtain ⟨y, hy⟩ := Option.isSome_iff_exists.1 hs
    obtain ⟨k, hk⟩ := lit_fold_ok c [] 0 hn y hy
    rw [hz] at hk
    unfold ordL litSt
    rw [hd, hk]
    simp
theorem atom_nonneg {l : List Nd} (h : atomB l = true) : NonNeg l := by
  have ht : termGo l 1 = true := by
    have : isTermL l = true := by simp [atomB] at h; exact h.1
    have : termGo l 1 = true ∧ l.length ≤ 60 := by simpa [isTermL] using this
    exact this.1
  clear h
  generalize 1 = q at ht
  intro n hn hv
  induction l generalizing q with
  | nil => simp at hn
  | cons x r ih =>
    simp only [termGo] at ht
    split at ht
    · simp at ht
    · split at ht
      · next hok =>
        rcases List.mem_cons.1 hn with rfl | hn
        · have : 0 ≤ n.2 ∧ n.2 < 60 := by simpa [nodeOk, hv] using hok
          exact this.1
        · exact ih _ ht hn
      · simp at ht

end Go.Proofs.YtjnddclkdofgdaaDoor
