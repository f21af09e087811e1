/- The program's parser: the token at hand, and how it goes past one. The program's parser: its state, take, and how it is made. A map that has no such key. The program: the number of a variable, by its name. Pure: what the parser puts behind nodes hangs not on them. -/
import Derived.Test.YtcpdadppblbndaaGNext
import Derived.Test.YtcpdadppblbndaaSCl0M
import Derived.Test.YtcpdadppblbndaaBase0M
import Derived.Maps.OwnSet
import Derived.Maps.Keyed
import Derived.Test.YtcpdadppblbndaaSTok0M
import Derived.StringKeys
import Derived.Test.YtcpdadppblbndaaSNam0M
namespace Go.Proofs.Ytcpdadppblbndaa
open Go.RowKit
set_option maxRecDepth 100000

theorem tokAt_bad {s : ByteArray} {k p : Nat} (h : tokAt s k = .bad p) : p = k := by
  unfold tokAt at h
  repeat' split at h
  all_goals first | (cases h; done) | (simp only [Nx.bad.injEq] at h; exact h.symm)
theorem tokAt_stop {s : ByteArray} {k p : Nat} : tokAt s k ≠ .stop p := by
  intro h
  unfold tokAt at h
  repeat' split at h
  all_goals cases h
theorem tokAt_on {s : ByteArray} {k e : Nat} {t : Tk} (hp : k < s.size) (h : tokAt s k = .tok t e) : k < e ∧ e ≤ s.size := by
  unfold tokAt at h
  split at h
  · rename_i hl
    split at h
    · cases h
    · simp only [Nx.tok.injEq] at h
      rw [← h.2]
      exact ⟨runP_gt hp hl, runP_le (by omega)⟩
  · split at h
    · split at h
      · rename_i n e' hq
        simp only [Nx.tok.injEq] at h
        rw [← h.2]
        have := quoP_bounds hq
        omega
      · cases h
    · split at h
      · split at h
        · rename_i hc
          simp only [Nx.tok.injEq] at h
          rw [← h.2]
          omega
        · cases h
      · split at h
        · simp only [Nx.tok.injEq] at h
          rw [← h.2]
          omega
        · cases h
theorem toksGo_fuel (s : ByteArray) : ∀ n f g q, s.size + 1 - q ≤ n → q ≤ s.size → s.size < q + f → s.size < q + g → toksGo s f q = toksGo s g q := by
  intro n
  induction n with
  | zero => intro f g q h hq; omega
  | succ n ih =>
    intro f g q h hq hf hg
    obtain ⟨f', rfl⟩ : ∃ f', f = f' + 1 := ⟨f - 1, by omega⟩
    obtain ⟨g', rfl⟩ : ∃ g', g = g' + 1 := ⟨g - 1, by omega⟩
    rw [toksGo, toksGo]
    by_cases hp : q < s.size
    · rw [if_pos hp, if_pos hp]
      by_cases hgp : gapN (byteD s q) = true
      · rw [if_pos hgp, if_pos hgp]
        exact ih _ _ _ (by omega) (by omega) (by omega) (by omega)
      · rw [if_neg hgp, if_neg hgp]
        by_cases h37 : byteD s q = 37
        · rw [if_pos h37, if_pos h37]
          have h1 := lineP_gt hp h37
          have h2 := lineP_le (s := s) (p := q) hq
          exact ih _ _ _ (by omega) h2 (by omega) (by omega)
        · rw [if_neg h37, if_neg h37]
          cases ht : tokAt s q with
          | tok t e =>
            obtain ⟨h1, h2⟩ := tokAt_on hp ht
            simp only
            rw [ih f' g' e (by omega) h2 (by omega) (by omega)]
          | bad p => rfl
          | stop p => rfl
    · rw [if_neg hp, if_neg hp]
/-- The tokens from a place on, with the broken one. -/
def toksAt (s : ByteArray) (q : Nat) : List Tk := tokT (toksGo s (s.size + 1 - q) q)
theorem toksAt_fuel {s : ByteArray} {q f : Nat} (hq : q ≤ s.size) (hf : s.size < q + f) : tokT (toksGo s f q) = toksAt s q := by
  unfold toksAt
  rw [toksGo_fuel s _ f (s.size + 1 - q) q (Nat.le_refl _) hq hf (by omega)]
/-- The next token, and those behind it. -/
theorem toks_next (s : ByteArray) : ∀ n f q, s.size + 1 - q ≤ n → q ≤ s.size → s.size < q + f →
    match nextGo s f q with
    | .tok t e => toksAt s q = t :: toksAt s e ∧ e ≤ s.size ∧ t.kind ≠ 101 ∧ t.kind ≠ 63
    | .bad p => toksAt s q = [⟨63, ⟨#[]⟩, p⟩] ∧ p ≤ s.size
    | .stop p => toksAt s q = [⟨101, ⟨#[]⟩, p⟩] ∧ p ≤ s.size := by
  intro n
  induction n with
  | zero => intro f q h hq; omega
  | succ n ih =>
    intro f q h hq hf
    obtain ⟨f', rfl⟩ : ∃ f', f = f' + 1 := ⟨f - 1, by omega⟩
    rw [nextGo, ← toksAt_fuel hq hf, toksGo]
    by_cases hp : q < s.size
    · rw [if_pos hp, if_pos hp]
      by_cases hgp : gapN (byteD s q) = true
      · rw [if_pos hgp, if_pos hgp, toksAt_fuel (q := q + 1) (by omega) (by omega)]
        exact ih _ _ (by omega) (by omega) (by omega)
      · rw [if_neg hgp, if_neg hgp]
        by_cases h37 : byteD s q = 37
        · rw [if_pos h37, if_pos h37]
          have h1 := lineP_gt hp h37
          have h2 := lineP_le (s := s) (p := q) hq
          rw [toksAt_fuel h2 (by omega)]
          exact ih _ _ (by omega) h2 (by omega)
        · rw [if_neg h37, if_neg h37]
          cases ht : tokAt s q with
          | tok t e =>
            obtain ⟨h1, h2⟩ := tokAt_on hp ht
            simp only
            refine ⟨?_, h2, tokAt_kind ht⟩
            rw [← toksAt_fuel h2 (show s.size < e + f' by omega)]
            rfl
          | bad p =>
            have hpq : p = q := tokAt_bad ht
            subst hpq
            exact ⟨rfl, hq⟩
          | stop p => exact absurd ht tokAt_stop
    · rw [if_neg hp, if_neg hp]
      exact ⟨rfl, hq⟩

end Go.Proofs.Ytcpdadppblbndaa

namespace Go.Proofs.Ytcpdadppblbndaa
open Go.RowKit
set_option maxRecDepth 100000

/-- The kinds that there are. -/
def kdL : List Nat := [110, 118, 102, 101, 63, 124, 126, 40, 41, 44, 46]
theorem kindP_inj : ∀ a ∈ kdL, ∀ b ∈ kdL, kindP a = kindP b → a = b := by decide
theorem tokAt_kd {s : ByteArray} {k e : Nat} {t : Tk} (h : tokAt s k = .tok t e) : t.kind ∈ kdL := by
  unfold tokAt at h
  split at h
  · split at h
    · cases h
    · simp only [Nx.tok.injEq] at h
      rw [← h.1]
      simp only
      split <;> decide
  · split at h
    · split at h
      · simp only [Nx.tok.injEq] at h
        rw [← h.1]
        show (110 : Nat) ∈ kdL
        decide
      · cases h
    · split at h
      · split at h
        · simp only [Nx.tok.injEq] at h
          rw [← h.1]
          show (102 : Nat) ∈ kdL
          decide
        · cases h
      · split at h
        · rename_i hm
          simp only [Nx.tok.injEq] at h
          rw [← h.1]
          simp only
          generalize byteD s k = b at hm ⊢
          have hor : b = 124 ∨ b = 126 ∨ b = 40 ∨ b = 41 ∨ b = 44 ∨ b = 46 := by unfold markN at hm; simp at hm; omega
          rcases hor with rfl | rfl | rfl | rfl | rfl | rfl <;> decide
        · cases h
theorem toksGo_kd (s : ByteArray) : ∀ f k, ∀ t ∈ (toksGo s f k).1, t.kind ∈ kdL := by
  intro f
  induction f with
  | zero => intro k; simp [toksGo]
  | succ f ih =>
    intro k
    rw [toksGo]
    split
    · split
      · exact ih _
      · split
        · exact ih _
        · split
          · rename_i t e ht
            intro u hu
            rcases List.mem_cons.1 hu with rfl | hu
            · exact tokAt_kd ht
            · exact ih _ u hu
          · simp
    · intro t ht
      simp at ht
      rw [ht]
      show (101 : Nat) ∈ kdL
      decide
theorem tokT_kd {r : List Tk × Option Nat} (h : ∀ t ∈ r.1, t.kind ∈ kdL) : ∀ t ∈ tokT r, t.kind ∈ kdL := by
  obtain ⟨L, b⟩ := r
  intro t ht
  unfold tokT at ht
  rcases List.mem_append.1 ht with ht | ht
  · exact h t ht
  · cases b with
    | none => simp at ht
    | some p =>
      simp at ht
      rw [ht]
      show (63 : Nat) ∈ kdL
      decide
theorem toksAt_kd (s : ByteArray) (q i : Nat) : (tkA (toksAt s q) i).kind ∈ kdL := by
  unfold tkA
  by_cases h : i < (toksAt s q).length
  · rw [List.getD_eq_getElem?_getD, List.getElem?_eq_getElem h, Option.getD_some]
    exact tokT_kd (toksGo_kd s _ _) _ (List.getElem_mem _)
  · rw [List.getD_eq_getElem?_getD, List.getElem?_eq_none (by omega)]
    decide
theorem drop_head {T r : List Tk} {i : Nat} {t : Tk} (h : T.drop i = t :: r) : i < T.length ∧ tkA T i = t ∧ T.drop (i + 1) = r := by
  have hl : i < T.length := Classical.byContradiction fun hn => by rw [List.drop_of_length_le (by omega)] at h; cases h
  rw [List.drop_eq_getElem_cons hl] at h
  simp only [List.cons.injEq] at h
  exact ⟨hl, by unfold tkA; rw [List.getD_eq_getElem?_getD, List.getElem?_eq_getElem hl]; exact h.1, h.2⟩
section
variable {w : World} {pb : Nat} {left : Value} {k a : Int} {wd : ByteArray} {vC vP vM : Value}
theorem ParBox.setTok (h : ParBox w pb left k a wd vC vP vM) (k' a' : Int) (wd' : ByteArray) : ParBox (((w.setCell ⟨pb, 1, none⟩ (.int .i32 k')).setCell ⟨pb, 2, none⟩ (.int .i64 a')).setCell ⟨pb, 3, none⟩ (.string wd')) pb left k' a' wd' vC vP vM := by
  have h1 : ParBox (w.setCell ⟨pb, 1, none⟩ (.int .i32 k')) pb left k' a wd vC vP vM := heap_setCell_same w pb 1 _ _ _ h
  have h2 : ParBox ((w.setCell ⟨pb, 1, none⟩ (.int .i32 k')).setCell ⟨pb, 2, none⟩ (.int .i64 a')) pb left k' a' wd vC vP vM := heap_setCell_same _ pb 2 _ _ _ h1
  exact heap_setCell_same _ pb 3 _ _ _ h2
theorem ParBox.rows (h : ParBox w pb left k a wd vC vP vM) (k' a' : Int) (wd' : ByteArray) {B : Nat} {e : TypeId} {size : Nat} {v : Value} {n : Nat} {xs : List Value} (ho : w.ownsRow B e size v n xs) (he : e ≠ 78) : (((w.setCell ⟨pb, 1, none⟩ (.int .i32 k')).setCell ⟨pb, 2, none⟩ (.int .i64 a')).setCell ⟨pb, 3, none⟩ (.string wd')).ownsRow B e size v n xs := by
  have h1 : ParBox (w.setCell ⟨pb, 1, none⟩ (.int .i32 k')) pb left k' a wd vC vP vM := heap_setCell_same w pb 1 _ _ _ h
  have h2 : ParBox ((w.setCell ⟨pb, 1, none⟩ (.int .i32 k')).setCell ⟨pb, 2, none⟩ (.int .i64 a')) pb left k' a' wd vC vP vM := heap_setCell_same _ pb 2 _ _ _ h1
  exact h2.row (h1.row (h.row ho he 1 _) he 2 _) he 3 _
end
/-- The parser at a token. -/
structure PP (B : Nat) (w : World) (pb : Nat) (s : ByteArray) (T : List Tk) (i g q j m c : Nat) (vC vP vM : Value) : Prop where
  sc : ScIn B w pb s q g j m c (kindP (tkA T i).kind) (tkA T i).pos (tkA T i).txt vC vP vM
  lt : i < T.length
  on : (tkA T i).kind ≠ 101 → (tkA T i).kind ≠ 63 → toksAt s q = T.drop (i + 1)
def PPx (B : Nat) (w : World) (pb : Nat) (s : ByteArray) (T : List Tk) (i g : Nat) (vC vP vM : Value) : Prop := ∃ q j m c, PP B w pb s T i g q j m c vC vP vM
/-- The next token comes to hand. -/
theorem next_put {B : Nat} {w w1 : World} {pb : Nat} {s : ByteArray} {T : List Tk} {i g q : Nat} {k a : Int} {wd : ByteArray} {vC vP vM : Value} {e : Ending} {f : Nat} (hq : q ≤ s.size) (hf : s.size < q + f) (hT : toksAt s q = T.drop i) (hr : NextR B pb s q f g k a wd vC vP vM w e w1) :
    e = .returned (.agg #[.int .i32 (kindP (tkA T i).kind), .int .i64 (tkA T i).pos, .string (tkA T i).txt]) ∧ w.grownBy w1 (some pb) ∧ (∃ left, ParBox w1 pb left k a wd vC vP vM) ∧
    PPx B (((w1.setCell ⟨pb, 1, none⟩ (.int .i32 (kindP (tkA T i).kind))).setCell ⟨pb, 2, none⟩ (.int .i64 (tkA T i).pos)).setCell ⟨pb, 3, none⟩ (.string (tkA T i).txt)) pb s T i g vC vP vM := by
  obtain ⟨hg, hr⟩ := hr
  have hn := toks_next s _ f q (Nat.le_refl _) hq hf
  have fin : ∀ (t : Tk) (q' : Nat) (r : List Tk), T.drop i = t :: r → (t.kind ≠ 101 → t.kind ≠ 63 → toksAt s q' = r) → e = .returned (tokenV (kindP t.kind) t.pos t.txt) → (∃ j m c, ScIn B w1 pb s q' g j m c k a wd vC vP vM) → e = .returned (.agg #[.int .i32 (kindP (tkA T i).kind), .int .i64 (tkA T i).pos, .string (tkA T i).txt]) ∧ w.grownBy w1 (some pb) ∧ (∃ left, ParBox w1 pb left k a wd vC vP vM) ∧ PPx B (((w1.setCell ⟨pb, 1, none⟩ (.int .i32 (kindP (tkA T i).kind))).setCell ⟨pb, 2, none⟩ (.int .i64 (tkA T i).pos)).setCell ⟨pb, 3, none⟩ (.string (tkA T i).txt)) pb s T i g vC vP vM := by
    intro t q' r hd hon he hS
    obtain ⟨hl, htk, hdr⟩ := drop_head hd
    obtain ⟨j, m, c, hS⟩ := hS
    rw [htk]
    refine ⟨he, hg, ⟨_, hS.box⟩, q', j, m, c, ⟨?_, hl, ?_⟩⟩
    · rw [htk]
      exact ⟨hS.box.setTok _ _ _, hS.high, hS.box.rows _ _ _ hS.row (by decide), hS.len, hS.drop, hS.le⟩
    · rw [htk, hdr]; exact hon
  cases hx : nextGo s f q with
  | tok t e' =>
    rw [hx] at hr hn
    obtain ⟨n1, _, _, _⟩ := hn
    exact fin t e' _ (by rw [← hT, n1]) (fun _ _ => rfl) hr.1 hr.2
  | bad p =>
    rw [hx] at hr hn
    exact fin ⟨63, ⟨#[]⟩, p⟩ p [] (by rw [← hT, hn.1]) (fun _ h => absurd rfl h) hr.1 hr.2
  | stop p =>
    rw [hx] at hr hn
    exact fin ⟨101, ⟨#[]⟩, p⟩ p [] (by rw [← hT, hn.1]) (fun h _ => absurd rfl h) hr.1 hr.2

set_option maxHeartbeats 2000000 in
theorem pTake_any {B : Nat} {w : World} {pb : Nat} {s : ByteArray} {T : List Tk} {i g : Nat} {vC vP vM : Value} (kd : Nat) (hkd : kd ∈ kdL) (h101 : kd ≠ 101) (h63 : kd ≠ 63) (hT : ∀ i, (tkA T i).kind ∈ kdL) (hs : s.size ≤ 3000) (h : PPx B w pb s T i g vC vP vM) :
    Calls Try.prog 54 #[.pointer (some ⟨pb, 0, none⟩), .int .i32 (kindP kd)] w fun e w' => e = .returned (.bool (decide ((tkA T i).kind = kd))) ∧ w.grownBy w' (some pb) ∧ PPx B w' pb s T (if (tkA T i).kind = kd then i + 1 else i) g vC vP vM := by
  obtain ⟨q, j, m, c, hP⟩ := h
  have d1 := hP.sc.box.c1
  by_cases hk : (tkA T i).kind = kd
  · rw [if_pos hk, decide_eq_true hk]
    have CN := hide ((sNext_any (s.size + 1) hP.sc hs (by omega)).mono fun e w1 hr => next_put hP.sc.le (by omega) (hP.on (by rw [hk]; exact h101) (by rw [hk]; exact h63)) hr)
    rw [hk] at d1 CN
    clear hk hP
    generalize kindP kd = K at *
    generalize tkA T (i + 1) = t at CN
    obtain ⟨tk, tx, tp⟩ := t
    simp only at CN
    go_enter Try.func54, Try.ntmps54
    go_wp2_with (first
      | (go_at_call 36; refine (unhide CN).mono ?_; rintro e w1 ⟨rfl, hg1, ⟨left, hb1⟩, hP1⟩; have e1 := hb1.c1; have e2 := hb1.c2; have e3 := hb1.c3; have ef := hb1.soft; have HG1 := hide hg1; have HP1 := hide hP1; clear hg1 hP1 hb1)
      | go_in)
    go_ret
    exact ⟨rfl, grown_set (grown_set (grown_set HG1.out _) _) _, HP1.out⟩
  · rw [if_neg hk, decide_eq_false hk]
    have hne : (kindP (tkA T i).kind != kindP kd) = true := by simp; exact fun e => hk (kindP_inj _ (hT i) _ hkd e)
    have HP := hide hP
    clear hP
    go_enter Try.func54, Try.ntmps54
    go_wp2
    go_ret
    exact ⟨rfl, World.grownBy.refl _ _, q, j, m, c, HP.out⟩

end Go.Proofs.Ytcpdadppblbndaa

namespace Go.Proofs.Ytcpdadppblbndaa
open Go.RowKit Go.WideMaps

theorem atKey_none {D : DataW Unit} (hD : Maps.IsMap D) {k : Lit} (h : Maps.has D k = false) (z : DataW Unit) : D.atKey k z = z := by
  obtain ⟨es, rfl⟩ := hD
  rw [Maps.has_eq] at h
  have : es.find? (fun p => p.1.sameKey k) = none := by
    rw [List.find?_eq_none]
    intro p hp
    rw [List.any_eq_false] at h
    exact h p hp
  simp [DataW.atKey, this]

end Go.Proofs.Ytcpdadppblbndaa

namespace Go.Proofs.Ytcpdadppblbndaa
open Go.RowKit Go.WideMaps
set_option maxRecDepth 100000

/-- How a number in the map reads. -/
def sElem (v : Value) : Option (DataW Unit × List MemPlace) :=
  match v with
  | .int .i64 x => some (.lit (.int .i64 x), [])
  | _ => none
theorem sElem_inv {v : Value} {x : Int} {ps : List MemPlace} (h : sElem v = some (.lit (.int .i64 x), ps)) : v = .int .i64 x := by
  unfold sElem at h
  split at h
  · simp at h; rw [h.1]
  · simp at h
theorem bytes_inj {s t : ByteArray} (h : s.data.toList = t.data.toList) : s = t := by
  obtain ⟨⟨x⟩⟩ := s
  obtain ⟨⟨y⟩⟩ := t
  simp at h
  rw [h]
/-- What the map holds: each variable that stood there, and its number. -/
structure SNumIs (D : DataW Unit) (sn : List ByteArray) : Prop where
  tidy : Maps.Tidy D
  size : Maps.size D = sn.length
  old : ∀ x, 0 ≤ posS sn x → Maps.has D (.string x.data.toList) = true ∧ ∀ z, D.atKey (.string x.data.toList) z = .lit (.int .i64 (posS sn x))
  new : ∀ x, posS sn x < 0 → Maps.has D (.string x.data.toList) = false
theorem SNumIs.start : SNumIs (.map []) [] := ⟨⟨[], rfl, by simp⟩, rfl, fun x h => by rw [posS_nil] at h; omega, fun x _ => rfl⟩
theorem SNumIs.put {D : DataW Unit} {sn : List ByteArray} {x : ByteArray} (h : SNumIs D sn) (hx : posS sn x < 0) : SNumIs (D.put (.string x.data.toList) (.lit (.int .i64 sn.length))) (sn ++ [x]) := by
  have hkey : WideAt.IsKeyLit (.string x.data.toList) := trivial
  refine ⟨h.tidy.put hkey _, ?_, fun y hy => ?_, fun y hy => ?_⟩
  · rw [Maps.size_put h.tidy, h.new x hx, h.size]; simp
  · rw [posS_snoc] at hy ⊢
    by_cases he : x = y
    · subst he
      rw [if_pos rfl]
      exact ⟨Maps.has_put_same h.tidy.isMap hkey _, fun z => Maps.atKey_put_same h.tidy.isMap hkey _ _⟩
    · rw [if_neg he] at hy ⊢
      have hne : (Lit.string y.data.toList) ≠ .string x.data.toList := fun e => he (bytes_inj (by simpa using e.symm))
      have ho := h.old y hy
      exact ⟨by rw [Maps.has_put_other hne]; exact ho.1, fun z => by rw [Maps.atKey_put_other hne]; exact ho.2 z⟩
  · rw [posS_snoc] at hy
    by_cases he : x = y
    · rw [if_pos he] at hy; omega
    · rw [if_neg he] at hy
      have hne : (Lit.string y.data.toList) ≠ .string x.data.toList := fun e => he (bytes_inj (by simpa using e.symm))
      rw [Maps.has_put_other hne]
      exact h.new y hy

set_option maxHeartbeats 1000000 in
theorem numberOfS_any (g : Nat) (D : DataW Unit) (sn : List ByteArray) (x : ByteArray) (w : World) (hown : w.ownsMap Try.prog 9 sElem g sn.length D) (hN : SNumIs D sn) (hf : sn.length ≤ 1000000) (hx : x.size ≤ 1000000) :
    Calls Try.prog 81 #[.map (some g), .string x] w fun e w' => ∃ D' : DataW Unit, e = .returned (.int .i64 (numV sn x)) ∧ w'.ownsMap Try.prog 9 sElem g (addV sn x).length D' ∧ SNumIs D' (addV sn x) ∧ w.grownBy w' (some g) := by
  have hkey : keyOf Try.prog 9 (.string x) = some (.string x.data.toList) := keyOf_string_mk Try.underlying9 (by unfold maxLen; omega)
  obtain ⟨v, ps, hrun, hv⟩ := hown.look_ok (Maps.string_keyed Try.underlying9) Try.underlying76 (Try.zeroValue3 _) (zd := .lit (.int .i64 0)) (zp := []) rfl hkey
  by_cases hp : posS sn x < 0
  · have HST : Hid (addV sn x = sn ++ [x] ∧ numV sn x = (sn.length : Int)) := hide (by unfold addV numV; rw [if_pos hp, if_pos hp]; exact ⟨rfl, rfl⟩)
    have hhas := hN.new x hp
    rw [hhas] at hrun
    rw [atKey_none hN.tidy.isMap hhas] at hv
    have hvv := sElem_inv hv
    subst hvv
    have HN := hide (hN.put hp)
    have HKEY := hide hkey
    have hlen := hN.size
    clear hv hhas hN hkey hp
    go_enter Try.func81, Try.ntmps81
    go_wp2_with (first
      | (at_len; refine wpList_len_own _ rfl _ 76 rfl 9 3 Try.underlying76 _ g sn.length D rfl hown ?_)
      | (at_mapUpdate; refine wpList_mapUpdate_own _ rfl _ _ _ 76 rfl 9 3 (Maps.string_keyed Try.underlying9) Try.underlying76 sElem g sn.length D rfl hown (by unfold maxLen; omega) _ _ (.string x.data.toList) rfl rfl (unhide HKEY) (.lit (.int .i64 sn.length)) [] ?_ ?_)
      | go_in)
    case refine_1 => rfl
    intro w1 hown1 hg1
    have HO := hide hown1
    have HG := hide hg1
    clear hown1 hg1
    go_wp2
    go_ret
    rw [HST.out.1, HST.out.2]
    exact ⟨_, rfl, by rw [List.length_append]; exact HO.out, HN.out, HG.out⟩
  · have HST : Hid (addV sn x = sn ∧ numV sn x = posS sn x) := hide (by unfold addV numV; rw [if_neg hp, if_neg hp]; exact ⟨rfl, rfl⟩)
    have ho := hN.old x (by omega)
    rw [ho.1] at hrun
    rw [ho.2] at hv
    have hvv := sElem_inv hv
    subst hvv
    have HN := hide hN
    have HOW := hide hown
    clear hv ho hN hkey hp hown
    go_enter Try.func81, Try.ntmps81
    go_wp2
    go_ret
    rw [HST.out.1, HST.out.2]
    exact ⟨D, rfl, HOW.out, HN.out, ⟨rfl, rfl, rfl, Nat.le_refl _, fun _ _ _ => rfl⟩⟩

end Go.Proofs.Ytcpdadppblbndaa

namespace Go.Proofs.Ytcpdadppblbndaa
open Go.RowKit
set_option maxRecDepth 100000

theorem setN_app (l r : List Nd) (k n : Nat) (h : k < l.length) : setN (l ++ r) k n = setN l k n ++ r := by
  induction l generalizing k with
  | nil => simp at h
  | cons x t ih =>
    cases k with
    | zero => rfl
    | succ k =>
      have := ih k (by simpa using h)
      unfold setN at this ⊢
      simpa using this
theorem setN_behind (l r : List Nd) (k n : Nat) : setN (l ++ r) (l.length + k) n = l ++ setN r k n := by
  induction l with
  | nil => simp
  | cons x t ih =>
    unfold setN at ih ⊢
    simp only [List.length_cons, List.cons_append]
    rw [show t.length + 1 + k = t.length + k + 1 by omega]
    simpa using ih
theorem setN_len (l : List Nd) (k n : Nat) : (setN l k n).length = l.length := by simp [setN]
theorem setN_twice (l : List Nd) (k n m : Nat) : setN (setN l k n) k m = setN l k m := by
  induction l generalizing k with
  | nil => simp [setN]
  | cons x t ih =>
    cases k with
    | zero => rfl
    | succ k =>
      have := ih k
      unfold setN at this ⊢
      simpa using this
/-- Behind what nodes ever. -/
theorem pTermG_pre (T : List Tk) : ∀ f, (∀ atom st l, pTermG T f atom st l = match pTermG T f atom st [] with | .error p => .error p | .ok (s, r) => .ok (s, l ++ r)) ∧ (∀ st l n, pPartsG T f st l n = match pPartsG T f st [] n with | .error p => .error p | .ok (s, r, k) => .ok (s, l ++ r, k)) := by
  intro f
  induction f with
  | zero => exact ⟨fun atom st l => by simp [pTermG], fun st l n => by simp [pPartsG]⟩
  | succ f ih =>
    obtain ⟨ih1, ih2⟩ := ih
    constructor
    · intro atom st l
      rw [pTermG, pTermG]
      split
      · simp
      · split
        · simp
        · split
          · rw [ih2 _ (l ++ [((tkA T st.i).txt, 0)]) 0, ih2 _ ([] ++ [((tkA T st.i).txt, 0)]) 0]
            cases pPartsG T f ⟨st.i + 1, st.vars, st.places ++ [((tkA T st.i).txt, atom, 0, ((tkA T st.i).pos : Int))]⟩ [] 0 with
            | error p => rfl
            | ok r =>
              obtain ⟨s1, r1, n1⟩ := r
              simp only [List.nil_append, List.length_nil]
              have := setN_behind l ([((tkA T st.i).txt, 0)] ++ r1) 0 n1
              rw [List.append_assoc, show l.length = l.length + 0 from rfl, this]
          · simp
    · intro st l n
      rw [pPartsG, pPartsG, ih1 false _ l]
      cases hq : pTermG T f false ⟨st.i + 1, st.vars, st.places⟩ [] with
      | error p => rfl
      | ok r =>
        obtain ⟨s1, r1⟩ := r
        simp only
        split
        · rw [ih2 s1 (l ++ r1) (n + 1), ih2 s1 r1 (n + 1)]
          cases pPartsG T f s1 [] (n + 1) with
          | error p => rfl
          | ok r => simp
        · split
          · rfl
          · rfl
/-- Places: only what stands there counts for the program. -/
def atsP (l : List Pl) : List Value := l.map fun p => .int .i64 p.2.2.2
theorem atsP_snoc (l : List Pl) (p : Pl) : atsP (l ++ [p]) = atsP l ++ [.int .i64 p.2.2.2] := by simp [atsP]
theorem atsP_set (l : List Pl) (k n : Nat) : atsP (setParts l k n) = atsP l := by
  induction l generalizing k with
  | nil => simp [setParts]
  | cons x t ih =>
    cases k with
    | zero => rfl
    | succ k =>
      have := ih k
      unfold setParts atsP at this ⊢
      simpa using this
theorem setParts_len (l : List Pl) (k n : Nat) : (setParts l k n).length = l.length := by simp [setParts]

end Go.Proofs.Ytcpdadppblbndaa
