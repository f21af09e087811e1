/- The document's parser in memory; the token at hand; what cannot stand there. The document's parser: what it holds in memory, and what stays as it was while it reads. The document's parser: a term that is a variable; one that is none. The document's parser: a token that begins no term. -/
import Derived.Test.YtcpdadppblbndaaSTok0M
import Derived.Test.YtcpdadppblbndaaRRenM
import Derived.Laws.Rows
import Derived.OneCell
import Derived.Handy
import Derived.RegionTactic
import Derived.ChangeAlike
import Derived.Test.YtcpdadppblbndaaROrd
import Derived.Deep.RegionLaw
import Derived.Deep.RegionHeld3
namespace Go.Proofs.Ytcpdadppblbndaa
open Go.RowKit
set_option maxRecDepth 100000

/-- The parser's box. -/
def PBox (w : World) (pa : Nat) (vL : Value) (i : Nat) (bad : Int) (vP vC vB vV : Value) : Prop := w.heap[pa]? = some (.cells #[vL, .int .i64 i, .int .i64 bad, vP, vC, vB, vV] 56)
section
variable {w : World} {pa i : Nat} {bad : Int} {vL vP vC vB vV : Value}
theorem PBox.c0 (h : PBox w pa vL i bad vP vC vB vV) : w.cell? ⟨pa, 0, none⟩ = some vL := by unfold PBox at h; simp [World.cell?, h]
theorem PBox.c1 (h : PBox w pa vL i bad vP vC vB vV) : w.cell? ⟨pa, 1, none⟩ = some (.int .i64 i) := by unfold PBox at h; simp [World.cell?, h]
theorem PBox.c2 (h : PBox w pa vL i bad vP vC vB vV) : w.cell? ⟨pa, 2, none⟩ = some (.int .i64 bad) := by unfold PBox at h; simp [World.cell?, h]
theorem PBox.c3 (h : PBox w pa vL i bad vP vC vB vV) : w.cell? ⟨pa, 3, none⟩ = some vP := by unfold PBox at h; simp [World.cell?, h]
theorem PBox.c4 (h : PBox w pa vL i bad vP vC vB vV) : w.cell? ⟨pa, 4, none⟩ = some vC := by unfold PBox at h; simp [World.cell?, h]
theorem PBox.c5 (h : PBox w pa vL i bad vP vC vB vV) : w.cell? ⟨pa, 5, none⟩ = some vB := by unfold PBox at h; simp [World.cell?, h]
theorem PBox.c6 (h : PBox w pa vL i bad vP vC vB vV) : w.cell? ⟨pa, 6, none⟩ = some vV := by unfold PBox at h; simp [World.cell?, h]
theorem PBox.soft (h : PBox w pa vL i bad vP vC vB vV) (j : Nat) : w.frozen? ⟨pa, j, none⟩ = false := by unfold PBox at h; simp [World.frozen?, h]
theorem PBox.lt (h : PBox w pa vL i bad vP vC vB vV) : pa < w.heap.size := (Array.getElem?_eq_some_iff.1 h).1
theorem PBox.below (h : PBox w pa vL i bad vP vC vB vV) {w' : World} {B : Nat} (k : Below B w w') (hB : w.heap.size ≤ B) : PBox w' pa vL i bad vP vC vB vV := by
  have := h.lt
  unfold PBox
  rw [k.block pa (by omega)]
  exact h
theorem PBox.set1 (h : PBox w pa vL i bad vP vC vB vV) (j : Nat) : PBox (w.setCell ⟨pa, 1, none⟩ (.int .i64 j)) pa vL j bad vP vC vB vV := heap_setCell_same w pa 1 _ _ _ h
theorem PBox.set2 (h : PBox w pa vL i bad vP vC vB vV) (b : Int) : PBox (w.setCell ⟨pa, 2, none⟩ (.int .i64 b)) pa vL i b vP vC vB vV := heap_setCell_same w pa 2 _ _ _ h
theorem PBox.set3 (h : PBox w pa vL i bad vP vC vB vV) (v : Value) : PBox (w.setCell ⟨pa, 3, none⟩ v) pa vL i bad v vC vB vV := heap_setCell_same w pa 3 _ _ _ h
theorem PBox.set4 (h : PBox w pa vL i bad vP vC vB vV) (v : Value) : PBox (w.setCell ⟨pa, 4, none⟩ v) pa vL i bad vP v vB vV := heap_setCell_same w pa 4 _ _ _ h
theorem PBox.set5 (h : PBox w pa vL i bad vP vC vB vV) (v : Value) : PBox (w.setCell ⟨pa, 5, none⟩ v) pa vL i bad vP vC v vV := heap_setCell_same w pa 5 _ _ _ h
theorem PBox.set6 (h : PBox w pa vL i bad vP vC vB vV) (v : Value) : PBox (w.setCell ⟨pa, 6, none⟩ v) pa vL i bad vP vC vB v := heap_setCell_same w pa 6 _ _ _ h
/-- A row of another type is not the box. -/
theorem PBox.row (h : PBox w pa vL i bad vP vC vB vV) {B : Nat} {e : TypeId} {size : Nat} {v : Value} {n : Nat} {xs : List Value} (ho : w.ownsRow B e size v n xs) (he : e ≠ 56) (j : Nat) (u : Value) : (w.setCell ⟨pa, j, none⟩ u).ownsRow B e size v n xs := by
  refine ownsRow_setCell_other ho ?_ u
  intro hx
  obtain ⟨_, ⟨rfl, _⟩ | ⟨g, cap, cur, rfl, hb, hh, _⟩⟩ := ho
  · simp [Value.ownBlock] at hx
  · simp [Value.ownBlock] at hx
    subst hx
    unfold PBox at h
    rw [h] at hh
    simp at hh
    exact he hh.2.symm
end
/-- A row of tokens, as the walks read it. -/
theorem own_toks {w : World} {B : Nat} {v : Value} {l : List Tk} (h : w.ownsRow B 58 3 v l.length (tokCells l)) :
    ∃ a cap, v = .slice a l.length cap ∧ ∀ k (_ : k < l.length), ∃ g, a = some ⟨g, 0, none⟩ ∧ w.cell? ⟨g, k * 3, none⟩ = some (.int .u8 l[k].kind) ∧ w.cell? ⟨g, k * 3 + 1, none⟩ = some (.string l[k].txt) ∧ w.cell? ⟨g, k * 3 + 2, none⟩ = some (.int .i64 l[k].pos) := by
  obtain ⟨h1, ⟨rfl, h2⟩ | ⟨g, cap, cur, rfl, hb, hh, hc, hm, hz, ht⟩⟩ := h
  · exact ⟨none, 0, by rw [h2], fun k hk => by omega⟩
  · have ho : w.ownsRow B 58 3 (.slice (some ⟨g, 0, none⟩) l.length cap) l.length (tokCells l) := ⟨h1, Or.inr ⟨g, cap, cur, rfl, hb, hh, hc, hm, hz, ht⟩⟩
    refine ⟨_, _, rfl, fun k hk => ⟨g, rfl, ?_⟩⟩
    obtain ⟨a, b, c⟩ := tokCells_at l k hk
    refine ⟨?_, ?_, ?_⟩
    · rw [ho.cellAt _ (by omega), a]
    · rw [ho.cellAt _ (by omega), b]
    · rw [ho.cellAt _ (by omega), c]
theorem below_set {B : Nat} {a w : World} (h : Below B a w) {p : Addr} (hp : B ≤ p.block) (u : Value) : Below B a (w.setCell p u) :=
  ⟨h.os, h.tape, h.output, by have := h.size; simpa [World.setCell] using this, fun k hk => by rw [Below.heap_setCell _ _ _ _ (by omega)]; exact h.block k hk⟩
theorem below_al (w : World) (X : Obj) (n : Nat) : Below w.heap.size w ((w.alloc X).drewN n) := ((Below.refl _ w).alloc (Nat.le_refl _) X).trans ((below_drawn ⟨n, rfl⟩).mono (by simp))
/-- A token as a value. -/
def tkV (t : Tk) : Value := .agg #[.int .u8 t.kind, .string t.txt, .int .i64 t.pos]

set_option maxHeartbeats 1000000 in
theorem rhere_any (B pa i : Nat) (bad : Int) (vL vP vC vB vV : Value) (L : List Tk) (w : World) (h : PBox w pa vL i bad vP vC vB vV) (hL : w.ownsRow B 58 3 vL L.length (tokCells L)) :
    Calls Try.prog 15 #[.pointer (some ⟨pa, 0, none⟩)] w fun e w' => e = .returned (tkV (tkA L i)) ∧ Below w.heap.size w w' := by
  obtain ⟨a, cap, rfl, hc⟩ := own_toks hL
  have hlt := h.lt
  have d0 := h.c0
  have d1 := h.c1
  clear h hL
  have e0 : ∀ o, (w.alloc o).cell? ⟨pa, 0, none⟩ = some (.slice a L.length cap) := fun o => Below.at' ((Below.refl _ w).alloc (Nat.le_refl _) o) (Nat.le_refl _) d0
  have e1 : ∀ o, (w.alloc o).cell? ⟨pa, 1, none⟩ = some (.int .i64 i) := fun o => Below.at' ((Below.refl _ w).alloc (Nat.le_refl _) o) (Nat.le_refl _) d1
  go_enter Try.func15, Try.ntmps15
  by_cases hi : i < L.length
  · obtain ⟨g, rfl, f0, f1, f2⟩ := hc i hi
    have g0 : ∀ o, (w.alloc o).cell? ⟨g, i * 3, none⟩ = some (.int .u8 L[i].kind) := fun o => Below.at' ((Below.refl _ w).alloc (Nat.le_refl _) o) (Nat.le_refl _) f0
    have g1 : ∀ o, (w.alloc o).cell? ⟨g, i * 3 + 1, none⟩ = some (.string L[i].txt) := fun o => Below.at' ((Below.refl _ w).alloc (Nat.le_refl _) o) (Nat.le_refl _) f1
    have g2 : ∀ o, (w.alloc o).cell? ⟨g, i * 3 + 2, none⟩ = some (.int .i64 L[i].pos) := fun o => Below.at' ((Below.refl _ w).alloc (Nat.le_refl _) o) (Nat.le_refl _) f2
    have HT : Hid (tkA L i = L[i]) := hide (by simp [tkA, hi])
    clear f0 f1 f2 d0 d1 hc
    have hii : (i : Int) < (L.length : Int) := by omega
    go_wp2
    go_quiet (fail)
    go_wp2
    go_region
    all_goals
      go_wp2
      go_returns
      exact ⟨by rw [HT.out]; rfl, below_set (below_set (below_set (below_al _ _ _) (Nat.le_refl _) _) (Nat.le_refl _) _) (Nat.le_refl _) _⟩
  · have HT : Hid (tkA L i = tk0) := hide (by simp [tkA, hi])
    have hii : ¬ (i : Int) < (L.length : Int) := by omega
    clear d0 d1 hc
    go_wp2
    go_quiet (fail)
    go_wp2
    go_returns
    exact ⟨by rw [HT.out]; rfl, below_set (below_set (below_set (below_al _ _ _) (Nat.le_refl _) _) (Nat.le_refl _) _) (Nat.le_refl _) _⟩
/-- The place of what cannot stand there. -/
def badAt (L : List Tk) (broken : Int) (i : Nat) : Int := if h : i < L.length then (L[i].pos : Int) else broken
theorem grown_drew {w w' : World} {o : Option Nat} (h : w.grownBy w' o) (n : Nat) : w.grownBy (w'.drewN n) o := ⟨h.os, h.tape, h.output, h.size, h.block⟩
theorem grown_set {w w' : World} {b j : Nat} (h : w.grownBy w' (some b)) (u : Value) : w.grownBy (w'.setCell ⟨b, j, none⟩ u) (some b) :=
  ⟨h.os, h.tape, h.output, by have := h.size; simpa [World.setCell] using this, fun k hk hne => by rw [Below.heap_setCell _ _ _ _ (fun e => hne (by rw [e]))]; exact h.block k hk hne⟩

set_option maxHeartbeats 1000000 in
theorem rwrong_any (B pa i : Nat) (broken : Int) (vL vP vC vB vV : Value) (L : List Tk) (w : World) (h : PBox w pa vL i (-1) vP vC vB vV) (hL : w.ownsRow B 58 3 vL L.length (tokCells L)) :
    Calls Try.prog 16 #[.pointer (some ⟨pa, 0, none⟩), .int .i64 broken] w fun e w' => e = .returned (.tuple #[]) ∧ PBox w' pa vL i (badAt L broken i) vP vC vB vV ∧ w.grownBy w' (some pa) := by
  have hL1 := h.row hL (by decide) 2 (.int .i64 broken)
  have h1 := h.set2 broken
  have hg1 : w.grownBy (w.setCell ⟨pa, 2, none⟩ (.int .i64 broken)) (some pa) := grown_setCell _ _ _
  obtain ⟨a, cap, rfl, hc⟩ := own_toks hL1
  have z2 := h.c2
  have zf := h.soft 2
  have d0 := h1.c0
  have d1 := h1.c1
  have d2 := h1.c2
  have df := h1.soft 2
  have H1 := hide h1
  have HG := hide hg1
  clear h hL h1 hL1 hg1
  go_enter Try.func16, Try.ntmps16
  by_cases hi : i < L.length
  · obtain ⟨g, rfl, f0, f1, f2⟩ := hc i hi
    have HB : Hid (badAt L broken i = L[i].pos) := hide (by simp [badAt, hi])
    clear hc f0 f1
    have hii : (i : Int) < (L.length : Int) := by omega
    go_wp2
    generalize w.setCell ⟨pa, 2, none⟩ (.int .i64 broken) = w1 at *
    go_quiet (fail)
    go_wp2
    go_region
    all_goals
      go_wp2
      go_returns
      exact ⟨rfl, by rw [HB.out]; exact PBox.set2 (w := w1.drewN _) H1.out _, grown_set (grown_drew HG.out _) _⟩
  · have HB : Hid (badAt L broken i = broken) := hide (by simp [badAt, hi])
    have hii : ¬ (i : Int) < (L.length : Int) := by omega
    clear hc
    go_wp2
    generalize w.setCell ⟨pa, 2, none⟩ (.int .i64 broken) = w1 at *
    go_quiet (fail)
    go_wp2
    go_returns
    exact ⟨rfl, by rw [HB.out]; exact H1.out, grown_drew HG.out _⟩

end Go.Proofs.Ytcpdadppblbndaa

namespace Go.Proofs.Ytcpdadppblbndaa
open Go.RowKit
set_option maxRecDepth 100000

/-- One element is put behind a row, within a statement that draws its order. -/
theorem step_append_one {ops : Array Oper} {o : Oper} {a : Act} {w : World} {K : Act → World → Prop} {Q : Exit → Act → World → Prop} {E : Prop} (hgd : o.guard = none) (s x : Operand) (t e : TypeId) (hop : o.op = .call { callee := .builtin .append, args := #[s, x], argTypes := #[t, t] })
    (z : Value) (size bytes : Nat) (ht : Try.prog.underlying t = some (.slice e)) (hinfo : (Try.prog.info? e).map (fun i => (i.zero, i.size, i.bytes)) = some (some z, size, bytes)) (hz1 : z.cells.size = size) (hsz : 0 < size) (hby : bytes ≤ 40) (base : Nat) (v : Value) (n : Nat) (xs : List Value) (hs : a.eval s = v) (hown : w.ownsRow base e size v n xs) (hn : n ≤ 10000000) (hbase : base ≤ w.heap.size) (g c : Nat) (news : List Value) (hx : a.eval x = .slice (some ⟨g, 0, none⟩) 1 c) (hk : news.length = 1 * size) (hnews : ∀ j u, news[j]? = some u → w.cell? ((⟨g, 0, none⟩ : Addr).add j) = some u) (h1 : ∀ u ∈ news, u.oneCell' = true)
    (h : ∀ v' w', w'.ownsRow base e size v' (n + 1) (xs ++ news) → w.grownBy w' v.ownBlock → K (a.put o.dst v') w') :
    if Region.wanted o (yielded ops a.tmps) = true then Oper.wp Try.prog o a w K Q else E := by
  have hw : Region.wanted o (yielded ops a.tmps) = true := by simp [Region.wanted, hgd]
  rw [if_pos hw]
  obtain ⟨i, hi, hz, hsi, hy⟩ := info_parts hinfo
  have hb : (n + 1) * bytes ≤ 140737488355328 := Nat.le_trans (Nat.mul_le_mul (show n + 1 ≤ 10000001 by omega) hby) (by decide)
  obtain ⟨v', w', hr, r1, r2, _⟩ := run_append_own (P := Try.prog) w base t o.type e i z size bytes ht hi hz hsi hy hz1 hsz v n xs hown ⟨g, 0, none⟩ 1 c news hk hnews h1 (by unfold maxLen; omega) hb hbase
  unfold Oper.wp execOp
  simp only [hop, resolve, invoke, builtin, Sem.run_bind, Sem.run_pure, Result.andThen_ok, List.map_toArray, List.map_cons, List.map_nil, hs, hx, hr]
  exact h v' w' r1 r2

theorem infoStr : (Try.prog.info? 9).map (fun i => (i.zero, i.size, i.bytes)) = some (some (.string ⟨#[]⟩), 1, 16) := by kernel_rfl
theorem infoPlace : (Try.prog.info? 90).map (fun i => (i.zero, i.size, i.bytes)) = some (some (.agg #[.string ⟨#[]⟩, .bool false, .int .i64 0, .int .i64 0]), 4, 40) := by kernel_rfl
/-- The cells of places. -/
def placeCells (l : List Pl) : List Value := l.flatMap fun p => [.string p.1, .bool p.2.1, .int .i64 p.2.2.1, .int .i64 p.2.2.2]
theorem placeCells_length (l : List Pl) : (placeCells l).length = l.length * 4 := by
  induction l with
  | nil => rfl
  | cons x r ih => simp [placeCells] at ih ⊢; omega
theorem placeCells_snoc (l : List Pl) (p : Pl) : placeCells (l ++ [p]) = placeCells l ++ [.string p.1, .bool p.2.1, .int .i64 p.2.2.1, .int .i64 p.2.2.2] := by simp [placeCells]
/-- Blocks that stay: all but the parser's box, rows of places and of words from B on, and rows of nodes from B' on. -/
structure KeptP (B B' : Nat) (w w' : World) : Prop where
  os : w'.os = w.os
  tape : w'.tape = w.tape
  output : w'.output = w.output
  size : w.heap.size ≤ w'.heap.size
  block : ∀ k, k < w.heap.size → (k < B ∨ ∀ cs T fr, w.heap[k]? = some (.cells cs T fr) → T ≠ 90 ∧ T ≠ 9 ∧ T ≠ 56 ∧ (T = 46 → k < B')) → w'.heap[k]? = w.heap[k]?
theorem KeptP.refl (B B' : Nat) (w : World) : KeptP B B' w w := ⟨rfl, rfl, rfl, Nat.le_refl _, fun _ _ _ => rfl⟩
theorem KeptP.trans {B B' : Nat} {a b c : World} (h : KeptP B B' a b) (k : KeptP B B' b c) : KeptP B B' a c :=
  ⟨k.os.trans h.os, k.tape.trans h.tape, k.output.trans h.output, Nat.le_trans h.size k.size, fun i hi hc => by
    have e := h.block i hi hc
    rw [k.block i (Nat.lt_of_lt_of_le hi h.size) (by rw [e]; exact hc), e]⟩
theorem KeptP.of_below {B B' : Nat} {w w' : World} (h : Below w.heap.size w w') : KeptP B B' w w' := ⟨h.os, h.tape, h.output, h.size, fun k hk _ => h.block k hk⟩
theorem KeptP.below {B B' : Nat} {w w' : World} (h : KeptP B B' w w') (hB : B ≤ w.heap.size) : Below B w w' := ⟨h.os, h.tape, h.output, h.size, fun k hk => h.block k (by omega) (Or.inl hk)⟩
theorem KeptP.alloc {B B' : Nat} {a w : World} (h : KeptP B B' a w) (o : Obj) : KeptP B B' a (w.alloc o) := h.trans (.of_below ((Below.refl _ _).alloc (Nat.le_refl _) o))
theorem KeptP.drawn {B B' : Nat} {a w : World} (h : KeptP B B' a w) (n : Nat) : KeptP B B' a (w.drewN n) := h.trans (.of_below (below_drawn ⟨n, rfl⟩))
/-- The box is written. -/
theorem KeptP.grownBox {B B' : Nat} {a w w' : World} {pa i : Nat} {bad : Int} {vL vP vC vB vV : Value} (h : KeptP B B' a w) (hb : PBox w pa vL i bad vP vC vB vV) (hp : B ≤ pa) (hg : w.grownBy w' (some pa)) : KeptP B B' a w' := by
  refine h.trans ⟨hg.os, hg.tape, hg.output, hg.size, fun k hk hc => hg.block k hk ?_⟩
  intro e
  simp at e
  subst e
  rcases hc with hc | hc
  · omega
  · exact (hc _ _ _ hb).2.2.1 rfl
/-- A row of those types is written. -/
theorem KeptP.grownRow {B B' B0 : Nat} {a w w' : World} {e : TypeId} {size : Nat} {v : Value} {n : Nat} {xs : List Value} (h : KeptP B B' a w) (ho : w.ownsRow B0 e size v n xs) (hB : B ≤ B0) (he : e = 90 ∨ e = 9 ∨ e = 46 ∧ B' ≤ B0) (hg : w.grownBy w' v.ownBlock) : KeptP B B' a w' := by
  refine h.trans ⟨hg.os, hg.tape, hg.output, hg.size, fun k hk hc => hg.block k hk ?_⟩
  intro e'
  obtain ⟨_, ⟨rfl, _⟩ | ⟨g, cap, cur, rfl, hb, hh, _⟩⟩ := ho
  · simp [Value.ownBlock] at e'
  · simp [Value.ownBlock] at e'
    subst e'
    rcases hc with hc | hc
    · omega
    · obtain ⟨h1, h2, _, h4⟩ := hc _ _ _ hh
      rcases he with rfl | rfl | ⟨rfl, hx⟩
      · exact h1 rfl
      · exact h2 rfl
      · have := h4 rfl
        omega
/-- The parser in memory. -/
structure PIn (B : Nat) (w : World) (pa : Nat) (L : List Tk) (st : PSt) (bad : Int) (vL vP vC vB vV : Value) : Prop where
  high : B ≤ pa
  box : PBox w pa vL st.i bad vP vC vB vV
  toks : w.ownsRow B 58 3 vL L.length (tokCells L)
  places : w.ownsRow B 90 4 vP st.places.length (placeCells st.places)
  vars : w.ownsRow B 9 1 vV st.vars.length (st.vars.map Value.string)
section
variable {B pa : Nat} {w w' : World} {L : List Tk} {st : PSt} {bad : Int} {vL vP vC vB vV : Value}
theorem PIn.below (h : PIn B w pa L st bad vL vP vC vB vV) (k : Below w.heap.size w w') : PIn B w' pa L st bad vL vP vC vB vV :=
  ⟨h.high, h.box.below k (Nat.le_refl _), own_below h.toks k (Nat.le_refl _), own_below h.places k (Nat.le_refl _), own_below h.vars k (Nat.le_refl _)⟩
theorem PIn.alloc (h : PIn B w pa L st bad vL vP vC vB vV) (o : Obj) : PIn B (w.alloc o) pa L st bad vL vP vC vB vV := h.below ((Below.refl _ _).alloc (Nat.le_refl _) o)
theorem PIn.drawn (h : PIn B w pa L st bad vL vP vC vB vV) (n : Nat) : PIn B (w.drewN n) pa L st bad vL vP vC vB vV := h.below (below_drawn ⟨n, rfl⟩)
theorem PIn.setI (h : PIn B w pa L st bad vL vP vC vB vV) (j : Nat) : PIn B (w.setCell ⟨pa, 1, none⟩ (.int .i64 j)) pa L ⟨j, st.vars, st.places⟩ bad vL vP vC vB vV :=
  ⟨h.high, h.box.set1 j, h.box.row h.toks (by decide) _ _, h.box.row h.places (by decide) _ _, h.box.row h.vars (by decide) _ _⟩
/-- The box alone is written. -/
theorem PIn.grownBox (h : PIn B w pa L st bad vL vP vC vB vV) {bad' : Int} (hg : w.grownBy w' (some pa)) (hb : PBox w' pa vL st.i bad' vP vC vB vV) : PIn B w' pa L st bad' vL vP vC vB vV := by
  have far : ∀ {e : TypeId} {size : Nat} {v : Value} {n : Nat} {xs : List Value}, w.ownsRow B e size v n xs → e ≠ 56 → v.ownBlock = none ∨ v.ownBlock ≠ some pa := by
    intro e size v n xs ho he
    obtain ⟨_, ⟨rfl, _⟩ | ⟨g, cap, cur, rfl, _, hh, _⟩⟩ := ho
    · exact Or.inl rfl
    · right
      intro hx
      simp [Value.ownBlock] at hx
      subst hx
      have := h.box
      unfold PBox at this
      rw [hh] at this
      simp at this
      exact he this.2
  exact ⟨h.high, hb, h.toks.kept hg (far h.toks (by decide)), h.places.kept hg (far h.places (by decide)), h.vars.kept hg (far h.vars (by decide))⟩
/-- A row of another type is written. -/
theorem PIn.far (h : PIn B w pa L st bad vL vP vC vB vV) {B0 : Nat} {e : TypeId} {size : Nat} {v : Value} {n : Nat} {xs : List Value} (ho : w.ownsRow B0 e size v n xs) (he : e ≠ 56 ∧ e ≠ 58 ∧ e ≠ 90 ∧ e ≠ 9) (hg : w.grownBy w' v.ownBlock) : PIn B w' pa L st bad vL vP vC vB vV := by
  refine ⟨h.high, ?_, h.toks.kept hg (own_apart h.toks ho he.2.1.symm), h.places.kept hg (own_apart h.places ho he.2.2.1.symm), h.vars.kept hg (own_apart h.vars ho he.2.2.2.symm)⟩
  have hb := h.box
  have hlt := hb.lt
  unfold PBox at hb ⊢
  rw [hg.block pa hlt ?_]
  · exact hb
  · intro e'
    obtain ⟨_, ⟨rfl, _⟩ | ⟨g, cap, cur, rfl, _, hh, _⟩⟩ := ho
    · simp [Value.ownBlock] at e'
    · simp [Value.ownBlock] at e'
      subst e'
      rw [hh] at hb
      simp at hb
      exact he.1 hb.2
/-- A word more stands among the variables. -/
theorem PIn.moreV (h : PIn B w pa L st bad vL vP vC vB vV) {v' : Value} {x : ByteArray} (ho : w'.ownsRow B 9 1 v' (st.vars.length + 1) (st.vars.map Value.string ++ [.string x])) (hg : w.grownBy w' vV.ownBlock) :
    PBox w' pa vL st.i bad vP vC vB vV ∧ PIn B (w'.setCell ⟨pa, 6, none⟩ v') pa L ⟨st.i, st.vars ++ [x], st.places⟩ bad vL vP vC vB v' := by
  have hb : PBox w' pa vL st.i bad vP vC vB vV := by
    have hb := h.box
    have hlt := hb.lt
    unfold PBox at hb ⊢
    rw [hg.block pa hlt ?_]
    · exact hb
    · intro e'
      obtain ⟨_, ⟨rfl, _⟩ | ⟨g, cap, cur, rfl, _, hh, _⟩⟩ := h.vars
      · simp [Value.ownBlock] at e'
      · simp [Value.ownBlock] at e'
        subst e'
        rw [hh] at hb
        simp at hb
  refine ⟨hb, h.high, hb.set6 v', hb.row (h.toks.kept hg (own_apart h.toks h.vars (by decide))) (by decide) _ _, hb.row (h.places.kept hg (own_apart h.places h.vars (by decide))) (by decide) _ _, hb.row ?_ (by decide) _ _⟩
  rw [List.map_append, List.length_append]
  exact ho
/-- A place more stands behind. -/
theorem PIn.moreP (h : PIn B w pa L st bad vL vP vC vB vV) {v' : Value} {x : Pl} (ho : w'.ownsRow B 90 4 v' (st.places.length + 1) (placeCells st.places ++ [.string x.1, .bool x.2.1, .int .i64 x.2.2.1, .int .i64 x.2.2.2])) (hg : w.grownBy w' vP.ownBlock) :
    PBox w' pa vL st.i bad vP vC vB vV ∧ PIn B (w'.setCell ⟨pa, 3, none⟩ v') pa L ⟨st.i, st.vars, st.places ++ [x]⟩ bad vL v' vC vB vV := by
  have hb : PBox w' pa vL st.i bad vP vC vB vV := by
    have hb := h.box
    have hlt := hb.lt
    unfold PBox at hb ⊢
    rw [hg.block pa hlt ?_]
    · exact hb
    · intro e'
      obtain ⟨_, ⟨rfl, _⟩ | ⟨g, cap, cur, rfl, _, hh, _⟩⟩ := h.places
      · simp [Value.ownBlock] at e'
      · simp [Value.ownBlock] at e'
        subst e'
        rw [hh] at hb
        simp at hb
  refine ⟨hb, h.high, hb.set3 v', hb.row (h.toks.kept hg (own_apart h.toks h.places (by decide))) (by decide) _ _, hb.row ?_ (by decide) _ _, hb.row (h.vars.kept hg (own_apart h.vars h.places (by decide))) (by decide) _ _⟩
  rw [placeCells_snoc, List.length_append]
  exact ho
end

end Go.Proofs.Ytcpdadppblbndaa

namespace Go.Proofs.Ytcpdadppblbndaa
open Go.RowKit
set_option maxRecDepth 100000

/-- The words that were met, as the walks read them. -/
theorem own_strs {w : World} {B : Nat} {v : Value} {l : List ByteArray} (h : w.ownsRow B 9 1 v l.length (l.map Value.string)) :
    ∃ a cap, v = .slice a l.length cap ∧ ∀ k (h : k < l.length), ∃ g, a = some ⟨g, 0, none⟩ ∧ w.cell? ⟨g, k, none⟩ = some (.string l[k]) := by
  obtain ⟨h1, ⟨rfl, h2⟩ | ⟨g, cap, cur, rfl, hb, hh, hc, hm, hz, ht⟩⟩ := h
  · exact ⟨none, 0, by rw [h2], fun k hk => by omega⟩
  · have ho : w.ownsRow B 9 1 (.slice (some ⟨g, 0, none⟩) l.length cap) l.length (l.map Value.string) := ⟨h1, Or.inr ⟨g, cap, cur, rfl, hb, hh, hc, hm, hz, ht⟩⟩
    refine ⟨_, _, rfl, fun k hk => ⟨g, rfl, ?_⟩⟩
    rw [ho.cellAt k (by omega)]
    simp [hk]

/-- A word more, and all that stays. -/
theorem var_more {B B' pa : Nat} {w0 w w3 : World} {L : List Tk} {st : PSt} {bad : Int} {vL vP vC vB vV vl v3 : Value} {l : List Nd} {x : ByteArray} (h : PIn B w pa L st bad vL vP vC vB vV) (hl : w.ownsRow B' 46 2 vl l.length (nodeCells l)) (hk : KeptP B B' w0 w) (X : Obj)
    (ho : w3.ownsRow B 9 1 v3 (st.vars.length + 1) (st.vars.map Value.string ++ [.string x])) (hg : (w.alloc X).grownBy w3 vV.ownBlock) :
    w3.cell? ⟨pa, 6, none⟩ = some vV ∧ w3.frozen? ⟨pa, 6, none⟩ = false ∧ w.heap.size < w3.heap.size ∧
      PIn B (w3.setCell ⟨pa, 6, none⟩ v3) pa L ⟨st.i, st.vars ++ [x], st.places⟩ bad vL vP vC vB v3 ∧ (w3.setCell ⟨pa, 6, none⟩ v3).ownsRow B' 46 2 vl l.length (nodeCells l) ∧ KeptP B B' w0 (w3.setCell ⟨pa, 6, none⟩ v3) := by
  have hX := h.alloc X
  obtain ⟨hb3, hP3⟩ := PIn.moreV hX ho hg
  have hs := hg.size
  have hap : vl.ownBlock = none ∨ vl.ownBlock ≠ vV.ownBlock := own_apart (hl.alloc X) hX.vars (by decide)
  have hl3 := (hl.alloc X).kept hg hap
  have hk3 := (hk.alloc X).grownRow hX.vars (Nat.le_refl _) (Or.inr (Or.inl rfl)) hg
  exact ⟨hb3.c6, hb3.soft 6, by simp at hs; omega, hP3, hb3.row hl3 (by decide) _ _, hk3.grownBox hb3 h.high (grown_setCell _ _ _)⟩
theorem oneS (x : ByteArray) : ∀ u ∈ [Value.string x], u.oneCell' = true := by
  intro u hu
  simp at hu
  subst hu
  rfl

set_option maxHeartbeats 10000000 in
theorem rpterm_var (B B' pa : Nat) (brk : Int) (st : PSt) (vL vP vC vB vV vl : Value) (L : List Tk) (l : List Nd) (w : World) (h : PIn B w pa L st (-1) vL vP vC vB vV) (hl : w.ownsRow B' 46 2 vl l.length (nodeCells l)) (hBB : B ≤ B') (hBw : B' ≤ w.heap.size)
    (hk : (tkA L st.i).kind = 118) (hi : st.i ≤ 5000000) (hln : l.length ≤ 5000000) (hvn : st.vars.length ≤ 5000000) :
    Calls Try.prog 31 #[.pointer (some ⟨pa, 0, none⟩), vl, .bool false, .int .i64 brk] w fun e w' => ∃ vl' vV', e = .returned vl' ∧ PIn B w' pa L ⟨st.i + 1, addV st.vars (tkA L st.i).txt, st.places⟩ (-1) vL vP vC vB vV' ∧
      w'.ownsRow B' 46 2 vl' (l.length + 1) (nodeCells (l ++ [(⟨#[]⟩, numV st.vars (tkA L st.i).txt)])) ∧ KeptP B B' w w' := by
  have cH := rhere_any B pa st.i (-1) vL vP vC vB vV L w h.box h.toks
  have HP := hide h
  have HL := hide hl
  clear h hl
  generalize tkA L st.i = t at *
  obtain ⟨tk, tx, tp⟩ := t
  simp only at hk
  subst hk
  rw [show tkV ⟨118, tx, tp⟩ = .agg #[.int .u8 118, .string tx, .int .i64 tp] from rfl] at cH
  go_enter Try.func31, Try.ntmps31
  go_wp2_with (go_at_call 15; refine cH.mono ?_; rintro e w1 ⟨rfl, hb1⟩; have HP1 := hide (HP.out.below hb1); have HL1 := hide (own_below HL.out hb1 (Nat.le_refl _)); have HK1 : Hid (KeptP B B' w w1) := hide (.of_below hb1); have hs1 := hb1.size; have e1 : ∀ o, (w1.alloc o).cell? ⟨pa, 1, none⟩ = some (.int .i64 st.i) := (fun o => (HP1.out.alloc o).box.c1); have f1 : ∀ o, (w1.alloc o).frozen? ⟨pa, 1, none⟩ = false := (fun o => (HP1.out.alloc o).box.soft 1))
  have hx : ∃ W, W = (w1.alloc (.cells #[.int .u8 118, .string tx, .int .i64 tp] 58)).setCell ⟨pa, 1, none⟩ (.int .i64 ((st.i : Int) + 1)) := ⟨_, rfl⟩
  obtain ⟨W, hW⟩ := hx
  rw [← hW]
  have hpa := HP1.out.box.lt
  have h3 : PIn B W pa L ⟨st.i + 1, st.vars, st.places⟩ (-1) vL vP vC vB vV := by rw [hW]; exact (HP1.out.alloc _).setI (st.i + 1)
  have hl3 : W.ownsRow B' 46 2 vl l.length (nodeCells l) := by rw [hW]; exact (HP1.out.alloc _).box.row (HL1.out.alloc _) (by decide) _ _
  have hk3 : KeptP B B' w W := by rw [hW]; exact (HK1.out.alloc _).grownBox (HP1.out.alloc _).box HP1.out.high (grown_setCell _ _ _)
  have htb : W.cell? ⟨w1.heap.size, 1, none⟩ = some (.string tx) := by
    rw [hW, World.cell?_setCell_other _ _ _ _ (by first | (simp; done) | (simp; omega))]
    exact new3 w1 _ _ _ _ _ rfl 1 _ rfl
  have hsW : w1.heap.size < W.heap.size := by rw [hW]; simp [World.setCell]
  generalize w1.heap.size = tb at *
  obtain ⟨sa, scp, rfl, hsc⟩ := own_strs h3.vars
  have H3 := hide h3
  have HL3 := hide hl3
  have HK3 := hide hk3
  have HSC := hide hsc
  have d6 := h3.box.c6
  clear hW HP HL HP1 HL1 HK1 e1 f1 hb1 cH h3 hl3 hk3 hsc
  go_loopw [10, 11] (fun a j wi => ∃ (n : Nat) (p : Int), n ≤ st.vars.length ∧ j = .int .i64 n ∧ a = .int .i64 p ∧ p = posS (st.vars.take n) tx ∧ -1 ≤ p ∧ p < n ∧ ∃ d, wi = W.drewN d) (fun _ j _ => st.vars.length - (intOf j).toNat)
  case atStart => exact ⟨0, -1, Nat.zero_le _, rfl, rfl, rfl, by omega, by omega, 0, rfl⟩
  case round =>
    obtain ⟨n, p, hn, rfl, rfl, hpe, hp1, hp2, hd⟩ := hrel
    have HD := hide hd
    have HPE := hide hpe
    clear hpe
    have d6' : wr.cell? ⟨pa, 6, none⟩ = some (.slice sa st.vars.length scp) := Below.at' (below_drawn hd) (Nat.le_refl _) d6
    have htb' : wr.cell? ⟨tb, 1, none⟩ = some (.string tx) := Below.at' (below_drawn hd) (Nat.le_refl _) htb
    by_cases hnl : n < st.vars.length
    · have hnli : (n : Int) < (st.vars.length : Int) := by omega
      obtain ⟨g, rfl, hc⟩ := HSC.out n hnl
      have hc' : wr.cell? ⟨g, n, none⟩ = some (.string st.vars[n]) := Below.at' (below_drawn hd) (Nat.le_refl _) hc
      clear hc d6 htb hd
      by_cases he : st.vars[n] = tx
      · have hse : (st.vars[n].toList == tx.toList) = true := by rw [he]; simp
        have HE : Hid ((n : Int) = posS (st.vars.take (n + 1)) tx) := hide (by rw [List.take_succ_eq_append_getElem hnl, posS_snoc, if_pos he, List.length_take, Nat.min_eq_left hn])
        clear he HPE
        go_wp2
        go_quiet (fail)
        go_wp2
        go_roundw
        case rel => exact ⟨n + 1, n, by omega, by go_num, rfl, HE.out, by omega, by omega, drawn_trans HD.out ⟨_, rfl⟩⟩
        case measure => simp [intOf]; omega
      · have hse : (st.vars[n].toList == tx.toList) = false := by
          rw [beq_eq_false_iff_ne]
          exact fun hx => he (toList_inj.1 hx)
        have HE : Hid (p = posS (st.vars.take (n + 1)) tx) := hide (by rw [List.take_succ_eq_append_getElem hnl, posS_snoc, if_neg he]; exact HPE.out)
        clear he HPE
        go_wp2
        go_quiet (fail)
        go_wp2
        go_roundw
        case rel => exact ⟨n + 1, p, by omega, by go_num, rfl, HE.out, by omega, by omega, drawn_trans HD.out ⟨_, rfl⟩⟩
        case measure => simp [intOf]; omega
    · have hnli : ¬ (n : Int) < (st.vars.length : Int) := by omega
      have HPS : Hid (p = posS st.vars tx) := hide (by rw [HPE.out, List.take_of_length_le (by omega)])
      clear HPE HSC
      have H4 : Hid (PIn B wr pa L ⟨st.i + 1, st.vars, st.places⟩ (-1) vL vP vC vB (.slice sa st.vars.length scp)) := hide (H3.out.below (below_drawn hd))
      have hl4 : wr.ownsRow B' 46 2 vl l.length (nodeCells l) := own_below HL3.out (below_drawn hd) (Nat.le_refl _)
      have HK4 : Hid (KeptP B B' w wr) := hide (HK3.out.trans (.of_below (below_drawn hd)))
      have hsz : wr.heap.size = W.heap.size := by obtain ⟨d, rfl⟩ := hd; rfl
      rw [← hsz] at hsW
      clear hsz HL3 HK3 H3 d6 htb hd HD
      obtain ⟨iN, hN, hN0, hN1, hN2⟩ := info_parts infoNode
      by_cases hp : p < 0
      · have hv4 : wr.drew.ownsRow B 9 1 (.slice sa st.vars.length scp) st.vars.length (st.vars.map Value.string) := H4.out.vars
        have H4d : Hid (PIn B wr.drew pa L ⟨st.i + 1, st.vars, st.places⟩ (-1) vL vP vC vB (.slice sa st.vars.length scp)) := hide (H4.out.drawn 1)
        have HL4 : Hid (wr.drew.ownsRow B' 46 2 vl l.length (nodeCells l)) := hide hl4
        have HK4d : Hid (KeptP B B' w wr.drew) := hide (HK4.out.drawn 1)
        have e6 : ∀ o, (wr.alloc o).cell? ⟨pa, 6, none⟩ = some (.slice sa st.vars.length scp) := fun o => (H4.out.alloc o).box.c6
        have etb : ∀ o, (wr.alloc o).cell? ⟨tb, 1, none⟩ = some (.string tx) := fun o => Below.at' ((Below.refl _ wr).alloc (Nat.le_refl _) o) (Nat.le_refl _) htb'
        have HST : Hid (addV st.vars tx = st.vars ++ [tx] ∧ numV st.vars tx = st.vars.length) := hide (by rw [HPS.out] at hp; unfold addV numV; rw [if_pos hp, if_pos hp]; exact ⟨rfl, rfl⟩)
        have hBh : B ≤ wr.heap.size := by omega
        clear hl4 HPS H4 HK4
        go_wp2_with fail
        go_region_law (refine step_append_one ?g1 (.tmp 63) (.tmp 66) 22 9 ?g2 (.string ⟨#[]⟩) 1 16 Try.underlying22 infoStr ?g3 ?g4 ?g5 B _ st.vars.length (st.vars.map Value.string) ?g6 (hv4.alloc _) ?g7 ?g8 wr.heap.size 1 [.string tx] ?g9 ?g10 (new1 wr.drew (.string tx) 9 wr.heap.size rfl) (oneS tx) ?_; (case g1 => rfl); (case g2 => rfl); (case g3 => rfl); (case g4 => decide); (case g5 => decide); (case g6 => rfl); (case g7 => omega); (case g8 => simp; omega); (case g9 => rfl); (case g10 => rfl); intro v3 w3 ho3 hg3; obtain ⟨c6, s6, hs3, hP3, hl3, hk3⟩ := var_more H4d.out HL4.out HK4d.out _ ho3 hg3; have HP3 := hide hP3; have HL3 := hide hl3; have HK3 := hide hk3; obtain ⟨va3, vc3, rfl⟩ := own_shape ho3; clear ho3 hg3 hP3 hl3 hk3)
        all_goals
          have hs4 : wr.heap.size < (w3.setCell ⟨pa, 6, none⟩ (.slice va3 (st.vars.length + 1) vc3)).heap.size := by simpa [World.setCell] using hs3
          have hl5 := HL3.out
          clear hs3 c6 s6 e6 etb htb' d6' hv4 H4d HL4 HK4d
          generalize w3.setCell ⟨pa, 6, none⟩ (.slice va3 (st.vars.length + 1) vc3) = w4 at *
          clear HL3
          go_wp2_with (first
            | (at_builtin; refine wpList_append_own _ rfl (.tmp 70) (.tmp 73) 44 rfl B' 46 iN (.agg #[.string ⟨#[]⟩, .int .i64 0]) 2 24 Try.underlying44 hN hN0 hN1 hN2 rfl (by decide) _ _ _ rfl (hl5.alloc _) ⟨_, 0, none⟩ 1 1 [.string ⟨#[]⟩, .int .i64 st.vars.length] rfl rfl (new2 w4 _ _ _ _ rfl) (one2 _ _) (by unfold maxLen; omega) (by omega) (by simp; omega) ?_)
            | go_in)
          intro v' w2 ho' hg' _
          have R1 := hide ((HP3.out.alloc _).far (hl5.alloc _) (by decide) hg')
          have R2 := hide ((HK3.out.alloc _).grownRow (hl5.alloc _) hBB (Or.inr (Or.inr ⟨rfl, Nat.le_refl _⟩)) hg')
          have R3 := hide ho'
          clear ho' hg' hl5
          go_wp2
          go_ret
          exact ⟨_, _, rfl, by rw [HST.out.1]; exact R1.out, by rw [HST.out.2, nodeCells_snoc]; exact R3.out, R2.out⟩
      · have HST : Hid (addV st.vars tx = st.vars ∧ numV st.vars tx = p) := hide (by rw [HPS.out] at hp; unfold addV numV; rw [if_neg hp, if_neg hp, HPS.out]; exact ⟨rfl, rfl⟩)
        clear HPS
        go_wp2_with (first
          | (at_builtin; refine wpList_append_own _ rfl (.tmp 70) (.tmp 73) 44 rfl B' 46 iN (.agg #[.string ⟨#[]⟩, .int .i64 0]) 2 24 Try.underlying44 hN hN0 hN1 hN2 rfl (by decide) _ _ _ rfl (hl4.alloc _) ⟨_, 0, none⟩ 1 1 [.string ⟨#[]⟩, .int .i64 p] rfl rfl ?c1 ?c2 ?c3 ?c4 ?c5 ?_)
          | go_in)
        try case c1 => exact new2 _ _ _ _ _ (by simp)
        case c2 => first | exact one2 _ _ | exact ⟨rfl, rfl⟩
        case c3 => unfold maxLen; omega
        case c4 => omega
        case c5 => first | omega | (simp; omega)
        intro v' w2 ho' hg' _
        have R1 := hide ((H4.out.alloc _).far (hl4.alloc _) (by decide) hg')
        have R2 := hide ((HK4.out.alloc _).grownRow (hl4.alloc _) hBB (Or.inr (Or.inr ⟨rfl, Nat.le_refl _⟩)) hg')
        have R3 := hide ho'
        clear ho' hg' hl4
        go_wp2
        go_ret
        exact ⟨_, _, rfl, by rw [HST.out.1]; exact R1.out, by rw [HST.out.2, nodeCells_snoc]; exact R3.out, R2.out⟩

end Go.Proofs.Ytcpdadppblbndaa

namespace Go.Proofs.Ytcpdadppblbndaa
open Go.RowKit
set_option maxRecDepth 100000

set_option maxHeartbeats 4000000 in
theorem rpterm_bad (B B' pa : Nat) (brk : Int) (atom : Bool) (st : PSt) (vL vP vC vB vV vl : Value) (L : List Tk) (l : List Nd) (w : World) (h : PIn B w pa L st (-1) vL vP vC vB vV) (hl : w.ownsRow B' 46 2 vl l.length (nodeCells l))
    (hk : (tkA L st.i).kind ≠ 110) (hv : (tkA L st.i).kind ≠ 118 ∨ atom = true) :
    Calls Try.prog 31 #[.pointer (some ⟨pa, 0, none⟩), vl, .bool atom, .int .i64 brk] w fun e w' => e = .returned vl ∧ PIn B w' pa L st (badAt L brk st.i) vL vP vC vB vV ∧
      w'.ownsRow B' 46 2 vl l.length (nodeCells l) ∧ KeptP B B' w w' := by
  have cH := rhere_any B pa st.i (-1) vL vP vC vB vV L w h.box h.toks
  have HP := hide h
  have HL := hide hl
  clear h hl
  generalize tkA L st.i = t at *
  obtain ⟨tk, tx, tp⟩ := t
  simp only at hk hv
  rw [show tkV ⟨tk, tx, tp⟩ = .agg #[.int .u8 tk, .string tx, .int .i64 tp] from rfl] at cH
  have hk1 : ((tk : Int) != 110) = true := by simp; omega
  have HW : Hid (∀ W, PIn B W pa L st (-1) vL vP vC vB vV → W.ownsRow B' 46 2 vl l.length (nodeCells l) → KeptP B B' w W → Calls Try.prog 16 #[.pointer (some ⟨pa, 0, none⟩), .int .i64 brk] W fun e w' => e = .returned (.tuple #[]) ∧ PIn B w' pa L st (badAt L brk st.i) vL vP vC vB vV ∧ w'.ownsRow B' 46 2 vl l.length (nodeCells l) ∧ KeptP B B' w w') := by
    refine hide fun W hP hR hK => (rwrong_any B pa st.i brk vL vP vC vB vV L W hP.box hP.toks).mono ?_
    rintro e w' ⟨rfl, hb, hg⟩
    refine ⟨rfl, hP.grownBox hg hb, hR.kept hg ?_, hK.grownBox hP.box hP.high hg⟩
    obtain ⟨_, ⟨rfl, _⟩ | ⟨g, cap, cur, rfl, _, hh, _⟩⟩ := hR
    · exact Or.inl rfl
    · right
      intro hx
      simp [Value.ownBlock] at hx
      subst hx
      have hbx := hP.box
      unfold PBox at hbx
      rw [hh] at hbx
      simp at hbx
  go_enter Try.func31, Try.ntmps31
  by_cases h118 : tk = 118
  · have hat : atom = true := hv.elim (fun h => absurd h118 h) id
    subst hat
    have hk2 : ((tk : Int) == 118) = true := by simp; omega
    clear hv hk h118
    go_wp2_with (first
      | (go_at_call 15; refine cH.mono ?_; rintro e w1 ⟨rfl, hb1⟩; have HX := hide (fun o => HW.out (w1.alloc o) ((HP.out.below hb1).alloc o) ((own_below HL.out hb1 (Nat.le_refl _)).alloc o) ((KeptP.of_below hb1).alloc o)); clear hb1)
      | (go_at_call 16; refine (HX.out _).mono ?_; rintro e w2 ⟨rfl, hp2, hl2, hk2⟩; have HP2 := hide hp2; have HL2 := hide hl2; have HK2 := hide hk2; clear hp2 hl2 hk2))
    go_ret
    exact ⟨rfl, HP2.out, HL2.out, HK2.out⟩
  · have hk2 : ((tk : Int) == 118) = false := by simp; omega
    clear hv hk h118
    go_wp2_with (first
      | (go_at_call 15; refine cH.mono ?_; rintro e w1 ⟨rfl, hb1⟩; have HX := hide (fun o => HW.out (w1.alloc o) ((HP.out.below hb1).alloc o) ((own_below HL.out hb1 (Nat.le_refl _)).alloc o) ((KeptP.of_below hb1).alloc o)); clear hb1)
      | (go_at_call 16; refine (HX.out _).mono ?_; rintro e w2 ⟨rfl, hp2, hl2, hk2⟩; have HP2 := hide hp2; have HL2 := hide hl2; have HK2 := hide hk2; clear hp2 hl2 hk2))
    go_ret
    exact ⟨rfl, HP2.out, HL2.out, HK2.out⟩

end Go.Proofs.Ytcpdadppblbndaa
