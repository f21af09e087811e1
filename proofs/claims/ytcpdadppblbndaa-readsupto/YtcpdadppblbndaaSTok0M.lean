/- Pure: bounds of the places behind tokens; the cells of tokens. The document's own answer: the first name that is another thing than where it stood first, or has too many parts. Pure: the clauses of tokens. -/
import Derived.Test.YtcpdadppblbndaaText0M
import Derived.Test.YtcpdadppblbndaaBase0M
namespace Go.Proofs.Ytcpdadppblbndaa
open Go.RowKit
set_option maxRecDepth 100000

theorem lineP_gt {s : ByteArray} {p : Nat} (h : p < s.size) (h37 : byteD s p = 37) : p < lineP s p := by
  rw [lineP_on h (by omega)]
  have := (lineGo_bounds s (s.size - (p + 1)) (p + 1)).1
  unfold lineP
  omega
theorem lineP_le {s : ByteArray} {p : Nat} (h : p ≤ s.size) : lineP s p ≤ s.size := (lineGo_bounds s _ p).2 h
theorem quoGo_bounds (s : ByteArray) : ∀ f nm p n e, quoGo s f nm p = some (n, e) → p < e ∧ e ≤ s.size ∧ isNameL n = true := by
  intro f
  induction f with
  | zero => intro nm p n e h; simp [quoGo] at h
  | succ f ih =>
    intro nm p n e h
    simp only [quoGo] at h
    split at h
    · rename_i hp
      split at h
      · split at h
        · rename_i hn
          simp at h
          obtain ⟨rfl, rfl⟩ := h
          exact ⟨by omega, by omega, hn⟩
        · simp at h
      · split at h
        · split at h
          · obtain ⟨i1, i2, i3⟩ := ih _ _ _ _ h; exact ⟨by omega, i2, i3⟩
          · simp at h
        · split at h
          · simp at h
          · obtain ⟨i1, i2, i3⟩ := ih _ _ _ _ h; exact ⟨by omega, i2, i3⟩
    · simp at h
theorem quoP_bounds {s : ByteArray} {p : Nat} {n : ByteArray} {e : Nat} (h : quoP s p = some (n, e)) : p + 1 < e ∧ e ≤ s.size ∧ isNameL n = true := quoGo_bounds s _ _ _ _ _ h
/-- A letter is inside a name. -/
theorem runP_gt {s : ByteArray} {p : Nat} (h : p < s.size) (hl : (smallB (byteD s p) || largeB (byteD s p)) = true) : p < runP s p := by
  rw [runP_on h (by unfold insideB; simp at hl ⊢; rcases hl with h | h <;> simp [h])]
  have := runP_ge s (p + 1)
  omega
/-- The cells of tokens. -/
def tokCells (l : List Tk) : List Value := l.flatMap fun t => [.int .u8 t.kind, .string t.txt, .int .i64 t.pos]
theorem tokCells_length (l : List Tk) : (tokCells l).length = l.length * 3 := by
  induction l with
  | nil => rfl
  | cons x r ih => simp [tokCells] at ih ⊢; omega
theorem tokCells_snoc (l : List Tk) (t : Tk) : tokCells (l ++ [t]) = tokCells l ++ [.int .u8 t.kind, .string t.txt, .int .i64 t.pos] := by simp [tokCells]
theorem tokCells_at (l : List Tk) : ∀ k (h : k < l.length), (tokCells l)[k * 3]? = some (.int .u8 l[k].kind) ∧ (tokCells l)[k * 3 + 1]? = some (.string l[k].txt) ∧ (tokCells l)[k * 3 + 2]? = some (.int .i64 l[k].pos) := by
  induction l with
  | nil => intro k h; simp at h
  | cons x r ih =>
    intro k h
    cases k with
    | zero => simp [tokCells]
    | succ k =>
      have := ih k (by simpa using h)
      have e1 : (k + 1) * 3 = k * 3 + 3 := by omega
      have e2 : (k + 1) * 3 + 1 = k * 3 + 1 + 3 := by omega
      have e3 : (k + 1) * 3 + 2 = k * 3 + 2 + 3 := by omega
      rw [e2, e3, e1]
      simp only [tokCells, List.flatMap_cons, List.cons_append, List.nil_append, List.getElem?_cons_succ, List.getElem_cons_succ] at this ⊢
      exact this
theorem infoTok : (Try.prog.info? 58).map (fun i => (i.zero, i.size, i.bytes)) = some (some (.agg #[.int .u8 0, .string ⟨#[]⟩, .int .i64 0]), 3, 32) := by kernel_rfl
theorem new3 (w : World) (s x y : Value) (t : TypeId) (n : Nat) (hn : n = w.heap.size) : ∀ j u, [s, x, y][j]? = some u → (w.alloc (.cells #[s, x, y] t)).cell? ((⟨n, 0, none⟩ : Addr).add j) = some u := by
  subst hn
  intro j u hj
  match j, hj with
  | 0, hj => simp at hj; subst hj; simp [Addr.add]
  | 1, hj => simp at hj; subst hj; simp [Addr.add]
  | 2, hj => simp at hj; subst hj; simp [Addr.add]
  | j + 3, hj => simp at hj
theorem oneT (a : Int) (s : ByteArray) (x : Int) : ∀ u ∈ [Value.int .u8 a, Value.string s, Value.int .i64 x], u.oneCell' = true := by
  intro u hu
  simp at hu
  rcases hu with rfl | rfl | rfl <;> rfl
/-- A token more stands behind. -/
theorem tok_out {w wm w1 : World} {o v' : Value} {l : List Tk} (t : Tk) (ho : wm.ownsRow w.heap.size 58 3 o l.length (tokCells l)) (hkp : Kept w.heap.size 58 w wm)
    (ho' : w1.ownsRow w.heap.size 58 3 v' (l.length + 1) (tokCells l ++ [.int .u8 t.kind, .string t.txt, .int .i64 t.pos])) (hg : wm.grownBy w1 o.ownBlock) :
    w1.ownsRow w.heap.size 58 3 v' (l ++ [t]).length (tokCells (l ++ [t])) ∧ Kept w.heap.size 58 w w1 := by
  refine ⟨?_, hkp.grownNew hg ho (Nat.le_refl _)⟩
  rw [tokCells_snoc, List.length_append]
  exact ho'
/-- The answer's second part. -/
def optI : Option Nat → Int
  | none => -1
  | some p => p
/-- What is still to come, behind tokens that are there. -/
def Toks (s : ByteArray) (l : List Tk) (f k : Nat) : List Tk × Option Nat := (l ++ (toksGo s f k).1, (toksGo s f k).2)
theorem toks_gap {s : ByteArray} {l : List Tk} {f k : Nat} (h : k < s.size) (hg : gapN (byteD s k) = true) : Toks s l (f + 1) k = Toks s l f (k + 1) := by simp [Toks, toksGo, h, hg]
theorem toks_line {s : ByteArray} {l : List Tk} {f k : Nat} (h : k < s.size) (hg : byteD s k = 37) : Toks s l (f + 1) k = Toks s l f (lineP s k) := by simp [Toks, toksGo, h, hg, gapN]
theorem toks_tok {s : ByteArray} {l : List Tk} {f k e : Nat} {t : Tk} (h : k < s.size) (hg : gapN (byteD s k) = false) (h37 : byteD s k ≠ 37) (ht : tokAt s k = .tok t e) : Toks s l (f + 1) k = Toks s (l ++ [t]) f e := by simp [Toks, toksGo, h, hg, h37, ht]
theorem toks_bad {s : ByteArray} {l : List Tk} {f k p : Nat} (h : k < s.size) (hg : gapN (byteD s k) = false) (h37 : byteD s k ≠ 37) (ht : tokAt s k = .bad p) : Toks s l (f + 1) k = (l, some k) := by simp [Toks, toksGo, h, hg, h37, ht]
theorem toks_end {s : ByteArray} {l : List Tk} {f k : Nat} (h : ¬ k < s.size) : Toks s l (f + 1) k = (l ++ [⟨101, ⟨#[]⟩, k⟩], none) := by simp [Toks, toksGo, h]
theorem tokAt_word {s : ByteArray} {k : Nat} (hl : (smallB (byteD s k) || largeB (byteD s k)) = true) : tokAt s k = if runP s k - k > 20 then .bad k else .tok ⟨if largeB (byteD s k) then 118 else 110, s.extract k (runP s k), k⟩ (runP s k) := by
  unfold tokAt; rw [if_pos hl]
theorem tokAt_quo {s : ByteArray} {k : Nat} (hl : (smallB (byteD s k) || largeB (byteD s k)) = false) (h39 : byteD s k = 39) : tokAt s k = match quoP s k with | some (n, e) => .tok ⟨110, n, k⟩ e | none => .bad k := by
  unfold tokAt; rw [if_neg (by rw [hl]; decide), if_pos h39]; cases quoP s k <;> rfl
theorem tokAt_false {s : ByteArray} {k : Nat} (hl : (smallB (byteD s k) || largeB (byteD s k)) = false) (h39 : byteD s k ≠ 39) (h36 : byteD s k = 36) :
    tokAt s k = if k + 6 ≤ s.size ∧ s.extract k (k + 6) = ⟨#[36, 102, 97, 108, 115, 101]⟩ then .tok ⟨102, ⟨#[]⟩, k⟩ (k + 6) else .bad k := by
  unfold tokAt; rw [if_neg (by rw [hl]; decide), if_neg h39, if_pos h36]
theorem tokAt_mark {s : ByteArray} {k : Nat} (hl : (smallB (byteD s k) || largeB (byteD s k)) = false) (h39 : byteD s k ≠ 39) (h36 : byteD s k ≠ 36) :
    tokAt s k = if markN (byteD s k) then .tok ⟨byteD s k, ⟨#[]⟩, k⟩ (k + 1) else .bad k := by
  unfold tokAt; rw [if_neg (by rw [hl]; decide), if_neg h39, if_neg h36]

end Go.Proofs.Ytcpdadppblbndaa

namespace Go.Proofs.Ytcpdadppblbndaa
open Go.RowKit
set_option maxRecDepth 100000

/-- The place of a name: the name, is it an atom's, how many parts, where. -/
abbrev Pl := ByteArray × Bool × Int × Int
/-- The cells of places, four a place. -/
structure PlacesIn (w : World) (a : Option Addr) (l : List Pl) : Prop where
  few : l.length ≤ 1000000
  cell : ∀ k (h : k < l.length), ∃ b o, a = some ⟨b, o, none⟩ ∧ w.cell? ⟨b, o + k * 4, none⟩ = some (.string l[k].1) ∧ w.cell? ⟨b, o + k * 4 + 1, none⟩ = some (.bool l[k].2.1) ∧ w.cell? ⟨b, o + k * 4 + 2, none⟩ = some (.int .i64 l[k].2.2.1) ∧ w.cell? ⟨b, o + k * 4 + 3, none⟩ = some (.int .i64 l[k].2.2.2)
theorem PlacesIn.below {w w1 : World} {a : Option Addr} {l : List Pl} (h : PlacesIn w a l) {B : Nat} (k : Below B w w1) (hB : w.heap.size ≤ B) : PlacesIn w1 a l :=
  ⟨h.few, fun j hj => by obtain ⟨b, o, h1, h2, h3, h4, h5⟩ := h.cell j hj; exact ⟨b, o, h1, Below.at' k hB h2, Below.at' k hB h3, Below.at' k hB h4, Below.at' k hB h5⟩⟩
/-- A name is one thing here, and another there. -/
def clashes (x y : Pl) : Prop := x.1 = y.1 ∧ (x.2.1 ≠ y.2.1 ∨ x.2.2.1 ≠ y.2.2.1)
/-- A name has too many parts, or is another thing than earlier. -/
def badPl (l : List Pl) (i : Nat) (h : i < l.length) : Prop := 5 < l[i].2.2.1 ∨ ∃ k, ∃ hk : k < i, clashes (l[k]'(by omega)) l[i]
/-- Where the first such is; -1: nowhere. -/
def NamedR (l : List Pl) (r : Int) : Prop := (r = -1 ∧ ∀ i h, ¬ badPl l i h) ∨ ∃ i h, badPl l i h ∧ (∀ j hj, j < i → ¬ badPl l j hj) ∧ r = l[i].2.2.2

set_option maxHeartbeats 2000000 in
theorem named_any (a : Option Addr) (cp : Nat) (l : List Pl) (w : World) (h : PlacesIn w a l) :
    Calls Try.prog 18 #[.slice a l.length cp] w fun e w' => ∃ r, e = .returned (.int .i64 r) ∧ NamedR l r ∧ ∃ n, w' = w.drewN n := by
  have hf := h.few
  go_enter Try.func18, Try.ntmps18
  go_wp2
  go_loopw [3] (fun i wr => ∃ k : Nat, k ≤ l.length ∧ i = .int .i64 k ∧ (∀ j hj, j < k → ¬ badPl l j hj) ∧ ∃ n, wr = w.drewN n) (fun i _ => l.length - (intOf i).toNat)
  case atStart => exact ⟨0, Nat.zero_le _, rfl, fun j _ hj => by omega, 0, rfl⟩
  case round =>
    obtain ⟨k, hk, rfl, hg, hd⟩ := hrel
    have HD := hide hd
    have HG := hide hg
    by_cases hlt : k < l.length
    · obtain ⟨b, o, rfl, e1, e2, e3, e4⟩ := h.cell k hlt
      have q1 := Below.at' (below_drawn hd) (Nat.le_refl _) e1
      have q2 := Below.at' (below_drawn hd) (Nat.le_refl _) e2
      have q3 := Below.at' (below_drawn hd) (Nat.le_refl _) e3
      have q4 := Below.at' (below_drawn hd) (Nat.le_refl _) e4
      have HH := hide h
      clear e1 e2 e3 e4 h hg hd
      by_cases h5 : 5 < l[k].2.2.1
      · have HR : Hid (NamedR l l[k].2.2.2) := Or.inr ⟨k, hlt, Or.inl h5, HG.out, rfl⟩
        generalize l[k] = x at *
        obtain ⟨s, t, m, u⟩ := x
        simp only at q1 q2 q3 q4 h5 HR
        go_wp2
        go_ret
        exact ⟨_, rfl, HR.out, HD.out⟩
      · go_wp2
        go_loopw [4] (fun j wi => ∃ n : Nat, n ≤ k ∧ j = .int .i64 n ∧ (∀ i, ∀ hi : i < n, ∀ hk : i < l.length, ¬ clashes l[i] l[k]) ∧ ∃ d, wi = wr.drewN d) (fun j _ => k - (intOf j).toNat)
        case atStart => exact ⟨0, Nat.zero_le _, rfl, fun i hi _ => by omega, 0, rfl⟩
        case round =>
          obtain ⟨n, hn, rfl, hc, hd⟩ := hrel
          have HC := hide hc
          have HD2 := hide hd
          by_cases hnk : n < k
          · have hnl : n < l.length := by omega
            obtain ⟨b2, o2, hbo, e1, e2, e3, e4⟩ := HH.out.cell n hnl
            obtain ⟨rfl, rfl⟩ : b2 = b ∧ o2 = o := by simpa using hbo.symm
            have r1 := Below.at' (below_drawn (drawn_trans HD.out hd)) (Nat.le_refl _) e1
            have r2 := Below.at' (below_drawn (drawn_trans HD.out hd)) (Nat.le_refl _) e2
            have r3 := Below.at' (below_drawn (drawn_trans HD.out hd)) (Nat.le_refl _) e3
            have s1 := Below.at' (below_drawn hd) (Nat.le_refl _) q1
            have s2 := Below.at' (below_drawn hd) (Nat.le_refl _) q2
            have s3 := Below.at' (below_drawn hd) (Nat.le_refl _) q3
            have s4 := Below.at' (below_drawn hd) (Nat.le_refl _) q4
            have HR : Hid (clashes l[n] l[k] → NamedR l l[k].2.2.2) := fun hx => Or.inr ⟨k, hlt, Or.inr ⟨n, hnk, hx⟩, HG.out, rfl⟩
            have HO : Hid (¬ clashes l[n] l[k] → ∀ i, ∀ hi : i < n + 1, ∀ hk : i < l.length, ¬ clashes l[i] l[k]) := fun hx i hi hk => by
              by_cases hin : i = n
              · subst hin; exact hx
              · exact HC.out i (by omega) hk
            have hkz : (k : Int) < (l.length : Int) := by omega
            have hnz : (n : Int) < (l.length : Int) := by omega
            clear e1 e2 e3 e4 hbo hc hd q1 q2 q3 q4
            generalize l[k] = x at *
            generalize l[n] = y at *
            obtain ⟨s, t, m, u⟩ := x
            obtain ⟨s', t', m', u'⟩ := y
            simp only at r1 r2 r3 s1 s2 s3 s4 h5 HR HO
            by_cases hs : s' = s
            · by_cases ht : t' = t
              · by_cases hm : m' = m
                · have HOO := hide (HO.out (by simp [clashes, hs, ht, hm]))
                  clear HR HO
                  subst hs ht hm
                  go_wp2
                  go_quiet (fail)
                  go_wp2
                  go_roundw
                  case rel => exact ⟨n + 1, by omega, by go_num, HOO.out, drawn_trans HD2.out (by first | exact draw2 _ _ _ | exact ⟨_, rfl⟩)⟩
                  case measure => simp [intOf]; omega
                · have hme : (m' != m) = true := by rw [bne_iff_ne]; exact hm
                  have HRR := hide (HR.out (by simp [clashes, hs, hm]))
                  clear HR HO hm
                  subst hs ht
                  go_wp2
                  go_quiet (fail)
                  go_wp2
                  go_ret
                  exact ⟨_, rfl, HRR.out, drawn_trans HD.out (drawn_trans HD2.out (by first | exact draw2 _ _ _ | exact ⟨_, rfl⟩))⟩
              · have HRR := hide (HR.out (by simp [clashes, hs, ht]))
                clear HR HO
                subst hs
                cases t <;> cases t'
                · exact absurd rfl ht
                · clear ht
                  go_wp2
                  go_quiet (fail)
                  go_wp2
                  go_ret
                  exact ⟨_, rfl, HRR.out, drawn_trans HD.out (drawn_trans HD2.out (by first | exact draw2 _ _ _ | exact ⟨_, rfl⟩))⟩
                · clear ht
                  go_wp2
                  go_quiet (fail)
                  go_wp2
                  go_ret
                  exact ⟨_, rfl, HRR.out, drawn_trans HD.out (drawn_trans HD2.out (by first | exact draw2 _ _ _ | exact ⟨_, rfl⟩))⟩
                · exact absurd rfl ht
            · have hse : (s'.toList == s.toList) = false := by
                rw [beq_eq_false_iff_ne]
                exact fun hx => hs (toList_inj.1 hx)
              have HOO := hide (HO.out (by simp [clashes, hs]))
              clear HR HO hs
              go_wp2
              go_quiet (fail)
              go_wp2
              go_roundw
              case rel => exact ⟨n + 1, by omega, by go_num, HOO.out, drawn_trans HD2.out (by first | exact draw2 _ _ _ | exact ⟨_, rfl⟩)⟩
              case measure => simp [intOf]; omega
          · have HK : Hid (∀ j hj, j < k + 1 → ¬ badPl l j hj) := fun j hj hjk hbad => by
              by_cases hjk' : j = k
              · subst hjk'
                rcases hbad with hbad | ⟨i, hi, hbad⟩
                · omega
                · exact HC.out i (by omega) (by omega) hbad
              · exact HG.out j hj (by omega) hbad
            clear hc hd
            go_wp2
            go_roundw
            case rel => exact ⟨k + 1, by omega, by go_num, HK.out, drawn_trans HD.out HD2.out⟩
            case measure => simp [intOf]; omega
    · have HR : Hid (NamedR l (-1)) := Or.inl ⟨rfl, fun i hi => HG.out i hi (by omega)⟩
      clear hg hd
      go_wp2
      go_ret
      exact ⟨_, rfl, HR.out, HD.out⟩

end Go.Proofs.Ytcpdadppblbndaa

namespace Go.Proofs.Ytcpdadppblbndaa
open Go.RowKit
set_option maxRecDepth 100000

/-- What stands behind the last token. -/
def tk0 : Tk := ⟨63, ⟨#[]⟩, 0⟩
/-- The tokens, and behind them the one that is none. -/
def tokT (r : List Tk × Option Nat) : List Tk := r.1 ++ (match r.2 with | some p => [⟨63, ⟨#[]⟩, p⟩] | none => [])
/-- The token at a place. -/
def tkA (T : List Tk) (i : Nat) : Tk := T.getD i tk0
/-- Where a word stands in a list (the last place); -1: nowhere. -/
def posQ : List ByteArray → ByteArray → Int
  | [], _ => -1
  | y :: r, x => if y = x then (r.length : Int) else posQ r x
def posS (l : List ByteArray) (x : ByteArray) : Int := posQ l.reverse x
theorem posS_nil (x : ByteArray) : posS [] x = -1 := rfl
theorem posS_snoc (l : List ByteArray) (y x : ByteArray) : posS (l ++ [y]) x = if y = x then (l.length : Int) else posS l x := by simp [posS, posQ]
theorem posS_bounds (l : List ByteArray) (x : ByteArray) : -1 ≤ posS l x ∧ posS l x < l.length := by
  unfold posS
  have hr : l.length = l.reverse.length := by simp
  rw [hr]
  generalize l.reverse = m
  clear hr
  induction m with
  | nil => simp [posQ]
  | cons y r ih =>
    simp only [posQ]
    split
    · simp; omega
    · simp; omega
/-- How far the tokens are read, the variables of the clause, the names' places. -/
structure PSt where
  i : Nat
  vars : List ByteArray
  places : List Pl
/-- The variables behind one more that stands there. -/
def addV (l : List ByteArray) (x : ByteArray) : List ByteArray := if posS l x < 0 then l ++ [x] else l
def numV (l : List ByteArray) (x : ByteArray) : Int := if posS l x < 0 then l.length else posS l x
def setParts (l : List Pl) (k : Nat) (n : Nat) : List Pl := l.modify k fun p => (p.1, p.2.1, (n : Int), p.2.2.2)
def setN (l : List Nd) (k : Nat) (n : Nat) : List Nd := l.modify k fun p => (p.1, (n : Int))
mutual
/-- A term, behind nodes; or the place of the token that cannot stand there. -/
def pTermG (T : List Tk) : Nat → Bool → PSt → List Nd → Except Nat (PSt × List Nd)
  | 0, _, _, _ => .error 0
  | f + 1, atom, st, l =>
    if (tkA T st.i).kind = 118 ∧ atom = false then .ok (⟨st.i + 1, addV st.vars (tkA T st.i).txt, st.places⟩, l ++ [(⟨#[]⟩, numV st.vars (tkA T st.i).txt)])
    else if (tkA T st.i).kind ≠ 110 then .error (tkA T st.i).pos
    else if (tkA T (st.i + 1)).kind = 40 then
      match pPartsG T f ⟨st.i + 1, st.vars, st.places ++ [((tkA T st.i).txt, atom, 0, ((tkA T st.i).pos : Int))]⟩ (l ++ [((tkA T st.i).txt, 0)]) 0 with
      | .error p => .error p
      | .ok (st', l', n) => .ok (⟨st'.i, st'.vars, setParts st'.places st.places.length n⟩, setN l' l.length n)
    else .ok (⟨st.i + 1, st.vars, st.places ++ [((tkA T st.i).txt, atom, 0, ((tkA T st.i).pos : Int))]⟩, l ++ [((tkA T st.i).txt, 0)])
/-- The parts of a name, from the token ahead of the next on. -/
def pPartsG (T : List Tk) : Nat → PSt → List Nd → Nat → Except Nat (PSt × List Nd × Nat)
  | 0, _, _, _ => .error 0
  | f + 1, st, l, n =>
    match pTermG T f false ⟨st.i + 1, st.vars, st.places⟩ l with
    | .error p => .error p
    | .ok (st', l') =>
      if (tkA T st'.i).kind = 44 then pPartsG T f st' l' (n + 1)
      else if (tkA T st'.i).kind = 41 then .ok (⟨st'.i + 1, st'.vars, st'.places⟩, l', n + 1)
      else .error (tkA T st'.i).pos
end
/-- The literals of a clause, behind some. -/
def pLitsG (T : List Tk) : Nat → PSt → List Lt → Except Nat (PSt × List Lt)
  | 0, _, _ => .error 0
  | f + 1, st, c =>
    match pTermG T (T.length + 1) true ⟨if (tkA T st.i).kind = 126 then st.i + 1 else st.i, st.vars, st.places⟩ [] with
    | .error p => .error p
    | .ok (st', a) =>
      if (tkA T st'.i).kind = 124 then pLitsG T f ⟨st'.i + 1, st'.vars, st'.places⟩ (c ++ [(decide ((tkA T st.i).kind = 126), a)])
      else .ok (st', c ++ [(decide ((tkA T st.i).kind = 126), a)])
/-- A clause without its point. -/
def pBodyG (T : List Tk) (st : PSt) : Except Nat (PSt × List Lt) :=
  if (tkA T st.i).kind = 102 then .ok (⟨st.i + 1, [], st.places⟩, []) else pLitsG T (T.length + 1) ⟨st.i, [], st.places⟩ []
/-- A clause and its point. -/
def pClauseG (T : List Tk) (st : PSt) : Except Nat (PSt × List Lt) :=
  match pBodyG T st with
  | .error p => .error p
  | .ok (st', c) => if (tkA T st'.i).kind = 46 then .ok (⟨st'.i + 1, st'.vars, st'.places⟩, c) else .error (tkA T st'.i).pos
/-- The clauses of a text, each with the place where it begins, behind some. -/
def pTextG (T : List Tk) : Nat → PSt → List (Nat × List Lt) → Except Nat (PSt × List (Nat × List Lt))
  | 0, _, _ => .error 0
  | f + 1, st, cs =>
    if (tkA T st.i).kind = 101 then .ok (st, cs)
    else match pClauseG T st with
      | .error p => .error p
      | .ok (st', c) => pTextG T f st' (cs ++ [((tkA T st.i).pos, c)])
/-- All of the text. -/
def pAll (s : ByteArray) : Except Nat (PSt × List (Nat × List Lt)) := pTextG (tokT (toksGo s (s.size + 1) 0)) ((tokT (toksGo s (s.size + 1) 0)).length + 1) ⟨0, [], []⟩ []

/-- A term goes on, and no list gets shorter. -/
theorem pTermG_on (T : List Tk) : ∀ f, (∀ atom st l st' l', pTermG T f atom st l = .ok (st', l') → st.i < st'.i ∧ l.length < l'.length ∧ l'.length ≤ l.length + (st'.i - st.i) ∧ st.places.length ≤ st'.places.length ∧ st'.places.length ≤ st.places.length + (st'.i - st.i) ∧ st.vars.length ≤ st'.vars.length ∧ st'.vars.length ≤ st.vars.length + (st'.i - st.i)) ∧
    (∀ st l n st' l' n', pPartsG T f st l n = .ok (st', l', n') → st.i + 1 < st'.i ∧ l.length ≤ l'.length ∧ l'.length + 1 ≤ l.length + (st'.i - st.i) ∧ st.places.length ≤ st'.places.length ∧ st'.places.length + 1 ≤ st.places.length + (st'.i - st.i) ∧ st.vars.length ≤ st'.vars.length ∧ st'.vars.length + 1 ≤ st.vars.length + (st'.i - st.i) ∧ n < n' ∧ n' ≤ n + (st'.i - st.i)) := by
  intro f
  induction f with
  | zero => exact ⟨fun atom st l st' l' h => by simp [pTermG] at h, fun st l n st' l' n' h => by simp [pPartsG] at h⟩
  | succ f ih =>
    obtain ⟨ih1, ih2⟩ := ih
    constructor
    · intro atom st l st' l' h
      rw [pTermG] at h
      split at h
      · simp only [Except.ok.injEq, Prod.mk.injEq] at h
        obtain ⟨rfl, rfl⟩ := h
        simp only [List.length_append, List.length_singleton, addV]
        split <;> simp <;> omega
      · split at h
        · simp at h
        · split at h
          · split at h
            · simp at h
            · rename_i st1 l1 n1 hp
              have q := ih2 _ _ _ _ _ _ hp
              simp only [Except.ok.injEq, Prod.mk.injEq] at h
              obtain ⟨rfl, rfl⟩ := h
              simp only [List.length_append, List.length_singleton, setParts, setN, List.length_modify] at q ⊢
              omega
          · simp only [Except.ok.injEq, Prod.mk.injEq] at h
            obtain ⟨rfl, rfl⟩ := h
            simp only [List.length_append, List.length_singleton]
            omega
    · intro st l n st' l' n' h
      rw [pPartsG] at h
      split at h
      · simp at h
      · rename_i st1 l1 hp
        have q := ih1 _ _ _ _ _ hp
        simp only at q
        split at h
        · have q2 := ih2 _ _ _ _ _ _ h
          omega
        · split at h
          · simp only [Except.ok.injEq, Prod.mk.injEq] at h
            obtain ⟨rfl, rfl, rfl⟩ := h
            simp only
            omega
          · simp at h

end Go.Proofs.Ytcpdadppblbndaa
