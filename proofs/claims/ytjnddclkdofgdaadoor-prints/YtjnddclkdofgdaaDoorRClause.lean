/- The document's own answer: are literals a clause in order, of a size that may be. -/
import Derived.Test.YtjnddclkdofgdaaDoorROrd
namespace Go.Proofs.YtjnddclkdofgdaaDoor
open Go.RowKit
set_option maxRecDepth 100000

/-- Is a list of nodes an atom? -/
def atomB (l : List Nd) : Bool := isTermL l && !varB (l.headD (⟨#[]⟩, 0))
/-- Are literals a clause in order, of a size that may be? -/
def isClauseL (c : List Lt) : Bool := fitsL c && (c.all fun l => atomB l.2) && decide (c = ordL c)

theorem renL_names (l : List Nd) (seen : List Int) : (renL l seen).1.map Prod.fst = l.map Prod.fst := by
  suffices ∀ (l : List Nd) (st : List Nd × List Int), (l.foldl renStep st).1.map Prod.fst = st.1.map Prod.fst ++ l.map Prod.fst by
    have h := this l ([], seen); simpa [renL] using h
  intro l
  induction l with
  | nil => intro st; simp
  | cons x r ih =>
    intro st
    rw [List.foldl_cons, ih]
    have : (renStep st x).1.map Prod.fst = st.1.map Prod.fst ++ [x.1] := by
      unfold renStep
      split
      · split <;> simp
      · simp
    rw [this]
    simp
theorem litSt_names (c : List Lt) : ∀ x ∈ (litSt c).1, ∃ y ∈ c, x.2.map Prod.fst = y.2.map Prod.fst := by
  suffices ∀ (c : List Lt) (st : List Lt × List Int), ∀ x ∈ (c.foldl litStep st).1, x ∈ st.1 ∨ ∃ y ∈ c, x.2.map Prod.fst = y.2.map Prod.fst by
    intro x hx
    rcases this c ([], []) x hx with h | h
    · simp at h
    · exact h
  intro c
  induction c with
  | nil => intro st x hx; exact Or.inl hx
  | cons y r ih =>
    intro st x hx
    rcases ih (litStep st y) x hx with h | ⟨z, hz, hz'⟩
    · rcases List.mem_append.1 (show x ∈ st.1 ++ [(y.1, (renL y.2 st.2).1)] from h) with h | h
      · exact Or.inl h
      · simp at h
        subst h
        exact Or.inr ⟨y, by simp, renL_names _ _⟩
    · exact Or.inr ⟨z, by simp [hz], hz'⟩
theorem ordL_names (c : List Lt) : ∀ x ∈ ordL c, ∃ y ∈ c, x.2.map Prod.fst = y.2.map Prod.fst := by
  intro x hx
  obtain ⟨y, hy, h⟩ := litSt_names _ x hx
  exact ⟨y, (dedL_bounds c).2.2 y hy, h⟩
/-- The names of literals are short. -/
def Short (c : List Lt) : Prop := ∀ x ∈ c, x.2.length ≤ 5864062014805 ∧ ∀ n ∈ x.2, n.1.size ≤ 140737488355328
theorem LitsIn.shorts {w : World} {a : Option Addr} {c : List Lt} (h : LitsIn w a c) : Short c := by
  intro x hx
  obtain ⟨k, hk, rfl⟩ := List.mem_iff_getElem.1 hx
  obtain ⟨_, _, _, _, _, _, _, g⟩ := h.cell k hk
  refine ⟨g.few, fun n hn => ?_⟩
  obtain ⟨j, hj, rfl⟩ := List.mem_iff_getElem.1 hn
  exact g.short j hj
theorem Short.ord {c : List Lt} (h : Short c) : Short (ordL c) := by
  intro x hx
  obtain ⟨y, hy, hxy⟩ := ordL_names c x hx
  have hl : x.2.length = y.2.length := by have := congrArg List.length hxy; simpa using this
  refine ⟨by rw [hl]; exact (h y hy).1, fun n hn => ?_⟩
  have : n.1 ∈ y.2.map Prod.fst := by rw [← hxy]; exact List.mem_map.2 ⟨n, hn, rfl⟩
  obtain ⟨m, hm, hmn⟩ := List.mem_map.1 this
  rw [← hmn]
  exact (h y hy).2 m hm
/-- Rows of the call's own, as the walks read them. -/
theorem own_clause {w : World} {B : Nat} {v : Value} {Q : List (Lt × Value)} {d : List Lt} (hd : Q.map Prod.fst = d) (ho : w.ownsRow B 30 2 v Q.length (litCells Q)) (hQ : ∀ q ∈ Q, w.ownsRow B 27 2 q.2 q.1.2.length (nodeCells q.1.2)) (hf : d.length ≤ 4398046511104) (hs : Short d) :
    ∃ a cap, v = .slice a d.length cap ∧ LitsIn w a d := by
  subst hd
  obtain ⟨a, cap, rfl, hc⟩ := own_lits ho
  refine ⟨a, cap, by simp, hf, fun k hk => ?_⟩
  have hk' : k < Q.length := by simpa using hk
  obtain ⟨g, rfl, h1, h2⟩ := hc k hk'
  have hq := hQ Q[k] (List.getElem_mem _)
  have hm : Q[k].1 ∈ Q.map Prod.fst := List.mem_map.2 ⟨Q[k], List.getElem_mem _, rfl⟩
  obtain ⟨aa, acp, hv, hn⟩ := own_nodes hq (hs _ hm).1 (fun j hj => (hs _ hm).2 _ (List.getElem_mem _))
  rw [hv] at h2
  refine ⟨g, 0, aa, acp, rfl, ?_, ?_, ?_⟩
  · rw [Nat.zero_add, h1]; simp
  · rw [Nat.zero_add, h2]; simp
  · simpa using hn

theorem isTermL_nil : isTermL [] = false := by decide

set_option maxHeartbeats 1000000 in
theorem rIsClause_any (a : Option Addr) (cp : Nat) (c : List Lt) (w : World) (h : LitsIn w a c) :
    Calls Tryd.prog 33 #[.slice a c.length cp] w fun e w' => e = .returned (.bool (isClauseL c)) ∧ Below w.heap.size w w' := by
  have hf := h.few
  have cF := rFits_any a cp c w h
  by_cases hfit : fitsL c = true
  · have hcount : c.length ≤ 8 ∧ countL c ≤ 60 := by simpa [fitsL] using hfit
    rw [hfit] at cF
    have HF := hide cF
    have HH := hide h
    have HE : Hid (isClauseL c = ((c.all fun l => atomB l.2) && decide (c = ordL c))) := by unfold isClauseL; rw [hfit]; exact Bool.true_and _ ▸ rfl
    obtain ⟨h8, h60⟩ := hcount
    clear cF hfit h
    go_enter Tryd.func33, Tryd.ntmps33
    go_wp2_with (go_at_call 51; refine (unhide HF).mono ?_; rintro e w' ⟨rfl, rfl⟩)
    go_loopw [4] (fun i wr => ∃ k : Nat, k ≤ c.length ∧ i = .int .i64 k ∧ Below w'.heap.size w' wr ∧ ((c.take k).all fun l => atomB l.2) = true) (fun i _ => c.length - (intOf i).toNat)
    case atStart => exact ⟨0, Nat.zero_le _, rfl, Below.refl _ _, rfl⟩
    case round =>
      obtain ⟨k, hk, rfl, hb, hall⟩ := hrel
      by_cases hlt : k < c.length
      · obtain ⟨b, q, aa, acp, rfl, e1, f1, g1⟩ := HH.out.cell k hlt
        have e2 := Below.at' hb (Nat.le_refl _) e1
        have f2 := Below.at' hb (Nat.le_refl _) f1
        have cT := rIsTerm_any aa acp c[k].2 wr (g1.below hb (Nat.le_refl _))
        have HSN : Hid (((c.take (k + 1)).all fun l => atomB l.2) = atomB c[k].2) := by
          rw [List.take_succ_eq_append_getElem hlt, List.all_append, hall]; exact Bool.and_true _ ▸ rfl
        have HN : Hid (atomB c[k].2 = false → isClauseL c = false) := fun hx => by
          rw [HE.out, Bool.and_eq_false_iff]
          left
          rw [List.all_eq_false]
          exact ⟨c[k], List.getElem_mem _, by simp [hx]⟩
        have HB := hide hb
        have hbs := hb.size
        clear e1 f1 hall hb
        generalize c[k] = x at *
        obtain ⟨xb, xl⟩ := x
        simp only at e2 f2 g1 cT
        by_cases ht : isTermL xl = true
        · cases xl with
          | nil => rw [isTermL_nil] at ht; exact absurd ht (by simp)
          | cons n0 r =>
            rw [ht] at cT
            obtain ⟨b0, o0, rfl, e0, f0⟩ := g1.cell 0 (by simp)
            simp only [List.getElem_cons_zero, Nat.zero_mul, Nat.add_zero] at e0 f0
            obtain ⟨s0, x0⟩ := n0
            simp only at e0
            have HT := hide cT
            have hfl := g1.few
            simp only [List.length_cons] at hfl e2 f2
            have e0r := Below.at' HB.out (Nat.le_refl _) e0
            have hv0 : atomB ((s0, x0) :: r) = !s0.toList.isEmpty := by simp [atomB, ht, varB]
            clear cT g1 e0 f0 ht
            cases hv : s0.toList.isEmpty
            · have HV := hide (show atomB ((s0, x0) :: r) = true by rw [hv0]; first | rfl | simp [hv])
              clear hv0
              go_wp2_with (first
                | (go_at_call 37; refine (unhide HT).mono ?_; rintro e w2 ⟨rfl, hb2⟩; have q1 := Below.at' hb2 (Nat.le_refl _) e2; have q2 := Below.at' hb2 (Nat.le_refl _) f2; have q3 := Below.at' hb2 (Nat.le_refl _) e0r; have HB2 := hide (HB.out.trans (hb2.mono hbs)); clear hb2)
                | go_in)
              go_roundw
              case rel => exact ⟨k + 1, by omega, by go_num, HB2.out, by rw [HSN.out, HV.out]⟩
              case measure => simp [intOf]; omega
            · have HV := hide (show atomB ((s0, x0) :: r) = false by rw [hv0]; first | rfl | simp [hv])
              clear hv0
              go_wp2_with (first
                | (go_at_call 37; refine (unhide HT).mono ?_; rintro e w2 ⟨rfl, hb2⟩; have q1 := Below.at' hb2 (Nat.le_refl _) e2; have q2 := Below.at' hb2 (Nat.le_refl _) f2; have q3 := Below.at' hb2 (Nat.le_refl _) e0r; have HB2 := hide (HB.out.trans (hb2.mono hbs)); clear hb2)
                | go_in)
              go_ret
              exact ⟨ret_bool (HN.out HV.out).symm, HB2.out⟩
        · have ht' : isTermL xl = false := by simpa using ht
          rw [ht'] at cT
          have HT := hide cT
          have HV := hide (HN.out (by unfold atomB; rw [ht']; rfl))
          clear cT ht ht' g1
          go_wp2_with (first
            | (go_at_call 37; refine (unhide HT).mono ?_; rintro e w2 ⟨rfl, hb2⟩; have HB2 := hide (HB.out.trans (hb2.mono hbs)); clear hb2)
            | go_in)
          go_ret
          exact ⟨ret_bool HV.out.symm, HB2.out⟩
      · have hk1 : c.take k = c := List.take_of_length_le (by omega)
        rw [hk1] at hall
        have HA : Hid (isClauseL c = decide (c = ordL c)) := by rw [HE.out, hall]; exact Bool.true_and _ ▸ rfl
        have HB := hide hb
        have hbs := hb.size
        have hw := HH.out.below hb (Nat.le_refl _)
        have cO := ordered_any a cp c wr hw (by omega)
        have hlen : (ordL c).length ≤ 8 := by
          have h1 := (litSt_bounds (dedL c)).1
          have h2 := (dedL_bounds c).1
          have h3 : (ordL c).length = (dedL c).length := h1
          omega
        have HL := hide hlen
        have HO := hide cO
        have HW := hide hw
        clear hk1 hall hb hw cO hlen
        go_wp2_with (first
          | (go_at_call 52; refine (unhide HO).mono ?_; rintro e w2 ⟨v, Q, rfl, hQ, ho, hQa, hb2⟩; obtain ⟨oa, ocp, rfl, hlits⟩ := own_clause hQ ho hQa (by have := HL.out; omega) HH.out.shorts.ord; have HS := hide (sameClause_any a oa cp ocp c (ordL c) w2 (HW.out.below hb2 (Nat.le_refl _)) hlits); have HB2 := hide (HB.out.trans (hb2.mono hbs)); clear hQ ho hQa hb2 hlits)
          | (go_at_call 15; refine (unhide HS).mono ?_; rintro e w3 ⟨rfl, hd⟩; have HB3 := hide (HB2.out.trans ((below_drawn hd).mono HB2.out.size)); clear hd)
          | go_in)
        go_ret
        exact ⟨ret_bool HA.out.symm, HB3.out⟩
  · have hfit' : fitsL c = false := by simpa using hfit
    rw [hfit'] at cF
    have HE : Hid (isClauseL c = false) := by unfold isClauseL; rw [hfit']; rfl
    have HF := hide cF
    clear cF hfit hfit' h
    go_enter Tryd.func33, Tryd.ntmps33
    go_wp2_with (go_at_call 51; refine (unhide HF).mono ?_; rintro e w' ⟨rfl, rfl⟩)
    go_ret
    exact ⟨ret_bool HE.out.symm, Below.refl _ _⟩

end Go.Proofs.YtjnddclkdofgdaaDoor
