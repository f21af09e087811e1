/- The document's own answer: the first name that is another thing than where it stood first, or has too many parts. -/
import Derived.Test.YtjnddclkdofgdaaDoorBase
namespace Go.Proofs.YtjnddclkdofgdaaDoor
open Go.RowKit
set_option maxRecDepth 100000

/-- The place of a name: the name, is it an atom's, how many parts, where. -/
abbrev Pl := ByteArray × Bool × Int × Int
/-- The cells of places, four a place. -/
structure PlacesIn (w : World) (a : Option Addr) (l : List Pl) : Prop where
  few : l.length ≤ 1000000
  cell : ∀ k (h : k < l.length), ∃ b o, a = some ⟨b, o, none⟩ ∧ w.cell? ⟨b, o + k * 4, none⟩ = some (.string l[k].1) ∧ w.cell? ⟨b, o + k * 4 + 1, none⟩ = some (.bool l[k].2.1) ∧ w.cell? ⟨b, o + k * 4 + 2, none⟩ = some (.int .i64 l[k].2.2.1) ∧ w.cell? ⟨b, o + k * 4 + 3, none⟩ = some (.int .i64 l[k].2.2.2)
theorem PlacesIn.below {w w1 : World} {a : Option Addr} {l : List Pl} (h : PlacesIn w a l) {B : Nat} (k : Below B w w1) (hB : w.heap.size ≤ B) : PlacesIn w1 a l :=
  ⟨h.few, fun j hj => by obtain ⟨b, o, h1, h2, h3, h4, h5⟩ := h.cell j hj; exact ⟨b, o, h1, Below.at' k hB h2, Below.at' k hB h3, Below.at' k hB h4, Below.at' k hB h5⟩⟩
/-- A name is one thing here, and another there. -/
def clashes (x y : Pl) : Prop := x.1 = y.1 ∧ (x.2.1 ≠ y.2.1 ∨ x.2.2.1 ≠ y.2.2.1)
/-- A name has too many parts, or is another thing than earlier. -/
def badPl (l : List Pl) (i : Nat) (h : i < l.length) : Prop := 5 < l[i].2.2.1 ∨ ∃ k, ∃ hk : k < i, clashes (l[k]'(by omega)) l[i]
/-- Where the first such is; -1: nowhere. -/
def NamedR (l : List Pl) (r : Int) : Prop := (r = -1 ∧ ∀ i h, ¬ badPl l i h) ∨ ∃ i h, badPl l i h ∧ (∀ j hj, j < i → ¬ badPl l j hj) ∧ r = l[i].2.2.2

set_option maxHeartbeats 2000000 in
theorem named_any (a : Option Addr) (cp : Nat) (l : List Pl) (w : World) (h : PlacesIn w a l) :
    Calls Tryd.prog 34 #[.slice a l.length cp] w fun e w' => ∃ r, e = .returned (.int .i64 r) ∧ NamedR l r ∧ ∃ n, w' = w.drewN n := by
  have hf := h.few
  go_enter Tryd.func34, Tryd.ntmps34
  go_wp2
  go_loopw [3] (fun i wr => ∃ k : Nat, k ≤ l.length ∧ i = .int .i64 k ∧ (∀ j hj, j < k → ¬ badPl l j hj) ∧ ∃ n, wr = w.drewN n) (fun i _ => l.length - (intOf i).toNat)
  case atStart => exact ⟨0, Nat.zero_le _, rfl, fun j _ hj => by omega, 0, rfl⟩
  case round =>
    obtain ⟨k, hk, rfl, hg, hd⟩ := hrel
    have HD := hide hd
    have HG := hide hg
    by_cases hlt : k < l.length
    · obtain ⟨b, o, rfl, e1, e2, e3, e4⟩ := h.cell k hlt
      have q1 := Below.at' (below_drawn hd) (Nat.le_refl _) e1
      have q2 := Below.at' (below_drawn hd) (Nat.le_refl _) e2
      have q3 := Below.at' (below_drawn hd) (Nat.le_refl _) e3
      have q4 := Below.at' (below_drawn hd) (Nat.le_refl _) e4
      have HH := hide h
      clear e1 e2 e3 e4 h hg hd
      by_cases h5 : 5 < l[k].2.2.1
      · have HR : Hid (NamedR l l[k].2.2.2) := Or.inr ⟨k, hlt, Or.inl h5, HG.out, rfl⟩
        generalize l[k] = x at *
        obtain ⟨s, t, m, u⟩ := x
        simp only at q1 q2 q3 q4 h5 HR
        go_wp2
        go_ret
        exact ⟨_, rfl, HR.out, HD.out⟩
      · go_wp2
        go_loopw [4] (fun j wi => ∃ n : Nat, n ≤ k ∧ j = .int .i64 n ∧ (∀ i, ∀ hi : i < n, ∀ hk : i < l.length, ¬ clashes l[i] l[k]) ∧ ∃ d, wi = wr.drewN d) (fun j _ => k - (intOf j).toNat)
        case atStart => exact ⟨0, Nat.zero_le _, rfl, fun i hi _ => by omega, 0, rfl⟩
        case round =>
          obtain ⟨n, hn, rfl, hc, hd⟩ := hrel
          have HC := hide hc
          have HD2 := hide hd
          by_cases hnk : n < k
          · have hnl : n < l.length := by omega
            obtain ⟨b2, o2, hbo, e1, e2, e3, e4⟩ := HH.out.cell n hnl
            obtain ⟨rfl, rfl⟩ : b2 = b ∧ o2 = o := by simpa using hbo.symm
            have r1 := Below.at' (below_drawn (drawn_trans HD.out hd)) (Nat.le_refl _) e1
            have r2 := Below.at' (below_drawn (drawn_trans HD.out hd)) (Nat.le_refl _) e2
            have r3 := Below.at' (below_drawn (drawn_trans HD.out hd)) (Nat.le_refl _) e3
            have s1 := Below.at' (below_drawn hd) (Nat.le_refl _) q1
            have s2 := Below.at' (below_drawn hd) (Nat.le_refl _) q2
            have s3 := Below.at' (below_drawn hd) (Nat.le_refl _) q3
            have s4 := Below.at' (below_drawn hd) (Nat.le_refl _) q4
            have HR : Hid (clashes l[n] l[k] → NamedR l l[k].2.2.2) := fun hx => Or.inr ⟨k, hlt, Or.inr ⟨n, hnk, hx⟩, HG.out, rfl⟩
            have HO : Hid (¬ clashes l[n] l[k] → ∀ i, ∀ hi : i < n + 1, ∀ hk : i < l.length, ¬ clashes l[i] l[k]) := fun hx i hi hk => by
              by_cases hin : i = n
              · subst hin; exact hx
              · exact HC.out i (by omega) hk
            have hkz : (k : Int) < (l.length : Int) := by omega
            have hnz : (n : Int) < (l.length : Int) := by omega
            clear e1 e2 e3 e4 hbo hc hd q1 q2 q3 q4
            generalize l[k] = x at *
            generalize l[n] = y at *
            obtain ⟨s, t, m, u⟩ := x
            obtain ⟨s', t', m', u'⟩ := y
            simp only at r1 r2 r3 s1 s2 s3 s4 h5 HR HO
            by_cases hs : s' = s
            · by_cases ht : t' = t
              · by_cases hm : m' = m
                · have HOO := hide (HO.out (by simp [clashes, hs, ht, hm]))
                  clear HR HO
                  subst hs ht hm
                  go_wp2
                  go_quiet (fail)
                  go_wp2
                  go_roundw
                  case rel => exact ⟨n + 1, by omega, by go_num, HOO.out, drawn_trans HD2.out (by first | exact draw2 _ _ _ | exact ⟨_, rfl⟩)⟩
                  case measure => simp [intOf]; omega
                · have hme : (m' != m) = true := by rw [bne_iff_ne]; exact hm
                  have HRR := hide (HR.out (by simp [clashes, hs, hm]))
                  clear HR HO hm
                  subst hs ht
                  go_wp2
                  go_quiet (fail)
                  go_wp2
                  go_ret
                  exact ⟨_, rfl, HRR.out, drawn_trans HD.out (drawn_trans HD2.out (by first | exact draw2 _ _ _ | exact ⟨_, rfl⟩))⟩
              · have HRR := hide (HR.out (by simp [clashes, hs, ht]))
                clear HR HO
                subst hs
                cases t <;> cases t'
                · exact absurd rfl ht
                · clear ht
                  go_wp2
                  go_quiet (fail)
                  go_wp2
                  go_ret
                  exact ⟨_, rfl, HRR.out, drawn_trans HD.out (drawn_trans HD2.out (by first | exact draw2 _ _ _ | exact ⟨_, rfl⟩))⟩
                · clear ht
                  go_wp2
                  go_quiet (fail)
                  go_wp2
                  go_ret
                  exact ⟨_, rfl, HRR.out, drawn_trans HD.out (drawn_trans HD2.out (by first | exact draw2 _ _ _ | exact ⟨_, rfl⟩))⟩
                · exact absurd rfl ht
            · have hse : (s'.toList == s.toList) = false := by
                rw [beq_eq_false_iff_ne]
                exact fun hx => hs (toList_inj.1 hx)
              have HOO := hide (HO.out (by simp [clashes, hs]))
              clear HR HO hs
              go_wp2
              go_quiet (fail)
              go_wp2
              go_roundw
              case rel => exact ⟨n + 1, by omega, by go_num, HOO.out, drawn_trans HD2.out (by first | exact draw2 _ _ _ | exact ⟨_, rfl⟩)⟩
              case measure => simp [intOf]; omega
          · have HK : Hid (∀ j hj, j < k + 1 → ¬ badPl l j hj) := fun j hj hjk hbad => by
              by_cases hjk' : j = k
              · subst hjk'
                rcases hbad with hbad | ⟨i, hi, hbad⟩
                · omega
                · exact HC.out i (by omega) (by omega) hbad
              · exact HG.out j hj (by omega) hbad
            clear hc hd
            go_wp2
            go_roundw
            case rel => exact ⟨k + 1, by omega, by go_num, HK.out, drawn_trans HD.out HD2.out⟩
            case measure => simp [intOf]; omega
    · have HR : Hid (NamedR l (-1)) := Or.inl ⟨rfl, fun i hi => HG.out i hi (by omega)⟩
      clear hg hd
      go_wp2
      go_ret
      exact ⟨_, rfl, HR.out, HD.out⟩

end Go.Proofs.YtjnddclkdofgdaaDoor
