/- Rows of one's own: helpers. Lists that their owner writes full of marks, and what is put behind them. The law's book in memory. -/
import Derived.Test.YtcpdadppblbndaaROrd
import Derived.Test.YtcpdadppblbndaaBase0M
import Derived.Shelf.Abstract
import Derived.Laws.Tables
import Derived.Deep.DeepAppendWide
namespace Go.Proofs.Ytcpdadppblbndaa
open Go.RowKit
set_option maxRecDepth 100000

/-- A row of the call's own, that may have come to lie elsewhere. -/
def Moved (w : World) (v v' : Value) : Prop := v'.ownBlock = v.ownBlock ∨ ∃ g, v'.ownBlock = some g ∧ w.heap.size ≤ g
theorem Moved.refl (w : World) (v : Value) : Moved w v v := Or.inl rfl
theorem Moved.trans {w w1 : World} {v v1 v2 : Value} (h : Moved w v v1) (k : Moved w1 v1 v2) (hs : w.heap.size ≤ w1.heap.size) : Moved w v v2 := by
  rcases k with k | ⟨g, k, hg⟩
  · rcases h with h | ⟨g, h, hg⟩
    · exact Or.inl (k.trans h)
    · exact Or.inr ⟨g, k.trans h, hg⟩
  · exact Or.inr ⟨g, k, by omega⟩
theorem grown_moved {w W W' : World} {v v1 : Value} (h : w.grownBy W v.ownBlock) (hm : Moved w v v1) (hg : W.grownBy W' v1.ownBlock) : w.grownBy W' v.ownBlock :=
  ⟨hg.os.trans h.os, hg.tape.trans h.tape, hg.output.trans h.output, Nat.le_trans h.size hg.size, fun k hk ho => by
    rw [hg.block k (Nat.lt_of_lt_of_le hk h.size) (fun e => by
      rcases hm with hm | ⟨g, hm, hgg⟩
      · exact ho (e.trans hm)
      · rw [hm] at e; simp at e; omega), h.block k hk ho]⟩
theorem grown_below {w w' : World} {o : Option Nat} (h : Below w.heap.size w w') : w.grownBy w' o := ⟨h.os, h.tape, h.output, h.size, fun k hk _ => h.block k hk⟩
theorem node_one (l : List Nd) : ∀ u ∈ nodeCells l, u.oneCell' = true := by
  intro u hu
  simp only [nodeCells, List.mem_flatMap] at hu
  obtain ⟨n, _, hu⟩ := hu
  simp at hu
  rcases hu with rfl | rfl <;> rfl
/-- A row of nodes. -/
def OwnN (w : World) (B : Nat) (v : Value) (l : List Nd) : Prop := w.ownsRow B 46 2 v l.length (nodeCells l)
theorem OwnN.shape {w : World} {B : Nat} {v : Value} {l : List Nd} (h : OwnN w B v l) : ∃ a n c, v = .slice a n c := by
  obtain ⟨a, c, e⟩ := own_shape h
  exact ⟨a, _, c, e⟩
/-- Blocks stay as they were, but for one. -/
theorem own_grown {w w' : World} {B : Nat} {e : TypeId} {size : Nat} {v : Value} {n : Nat} {xs : List Value} {o : Option Nat} (h : w.ownsRow B e size v n xs) (hg : w.grownBy w' o) (ho : v.ownBlock = none ∨ v.ownBlock ≠ o) : w'.ownsRow B e size v n xs := by
  obtain ⟨h1, ⟨rfl, h2⟩ | ⟨g, cap, cur, rfl, hb, hh, hr⟩⟩ := h
  · exact ⟨h1, Or.inl ⟨rfl, h2⟩⟩
  · refine ⟨h1, Or.inr ⟨g, cap, cur, rfl, hb, ?_, hr⟩⟩
    rw [hg.block g (Array.getElem?_eq_some_iff.1 hh).1 ?_, hh]
    rintro rfl
    rcases ho with ho | ho
    · simp [Value.ownBlock] at ho
    · simp [Value.ownBlock] at ho
theorem own_lt' {w : World} {B : Nat} {e : TypeId} {size : Nat} {v : Value} {n : Nat} {xs : List Value} (h : w.ownsRow B e size v n xs) : v.ownBlock ≠ some w.heap.size := fun e => by have := (own_lt h _ e).2; omega
/-- A row's block is no struct's. -/
theorem own_ne_box {w : World} {B tb : Nat} {e T : TypeId} {size : Nat} {v : Value} {n : Nat} {xs : List Value} {cs : Array Value} (h : w.ownsRow B e size v n xs) (hb : w.heap[tb]? = some (.cells cs T)) (he : e ≠ T) : v.ownBlock ≠ some tb := by
  obtain ⟨_, ⟨rfl, _⟩ | ⟨g, cap, cur, rfl, _, hg, _⟩⟩ := h
  · simp [Value.ownBlock]
  · simp [Value.ownBlock]
    rintro rfl
    rw [hg] at hb
    simp at hb
    exact he hb.2
theorem own_setB {w : World} {B tb j : Nat} {e T : TypeId} {size : Nat} {v x : Value} {n : Nat} {xs : List Value} {cs : Array Value} (h : w.ownsRow B e size v n xs) (hb : w.heap[tb]? = some (.cells cs T)) (he : e ≠ T) : (w.setCell ⟨tb, j, none⟩ x).ownsRow B e size v n xs :=
  own_grown h (grown_setCell w ⟨tb, j, none⟩ x) (Or.inr (own_ne_box h hb he))
/-- A row of nodes, as the walks read it. -/
theorem row_nodes {w : World} {B : Nat} {v : Value} {l : List Nd} (h : w.ownsRow B 46 2 v l.length (nodeCells l)) :
    ∃ a cap, v = .slice a l.length cap ∧ ∀ k n, l[k]? = some n → ∃ g, a = some ⟨g, 0, none⟩ ∧ w.cell? ⟨g, k * 2, none⟩ = some (.string n.1) ∧ w.cell? ⟨g, k * 2 + 1, none⟩ = some (.int .i64 n.2) := by
  obtain ⟨h1, ⟨rfl, h2⟩ | ⟨g, cap, cur, rfl, hb, hh, hc, hm, hz, ht⟩⟩ := h
  · refine ⟨none, 0, by rw [h2], fun k n hk => ?_⟩
    have := (List.getElem?_eq_some_iff.1 hk).1
    omega
  · have ho : w.ownsRow B 46 2 (.slice (some ⟨g, 0, none⟩) l.length cap) l.length (nodeCells l) := ⟨h1, Or.inr ⟨g, cap, cur, rfl, hb, hh, hc, hm, hz, ht⟩⟩
    refine ⟨_, _, rfl, fun k n hk => ⟨g, rfl, ?_, ?_⟩⟩
    · obtain ⟨hl, rfl⟩ := List.getElem?_eq_some_iff.1 hk
      rw [ho.cellAt (k * 2) (by omega), (nodeCells_at l k hl).1]
    · obtain ⟨hl, rfl⟩ := List.getElem?_eq_some_iff.1 hk
      rw [ho.cellAt (k * 2 + 1) (by omega), (nodeCells_at l k hl).2]
theorem own_shape3 {w : World} {B : Nat} {e : TypeId} {size : Nat} {v : Value} {n : Nat} {xs : List Value} (h : w.ownsRow B e size v n xs) : ∃ a m c, v = .slice a m c := by
  obtain ⟨a, c, e⟩ := own_shape h
  exact ⟨a, _, c, e⟩
theorem nd2_new (w : World) (x y : Value) (t : TypeId) : (w.alloc (.cells #[x, y] t)).cell? ⟨w.heap.size, 0, none⟩ = some x ∧ (w.alloc (.cells #[x, y] t)).cell? ⟨w.heap.size, 1, none⟩ = some y := by
  have h : (w.alloc (.cells #[x, y] t)).heap[w.heap.size]? = some (.cells #[x, y] t) := by
    show (w.heap.push _)[w.heap.size]? = _
    simp
  constructor
  · unfold World.cell?; rw [h]; rfl
  · unfold World.cell?; rw [h]; rfl
/-- Where a row lies behind an append. -/
theorem append_where (w : World) (base : Nat) (t ty e : TypeId) (i : TypeInfo) (z : Value) (size bytes : Nat) (ht : Try.prog.underlying t = some (.slice e)) (hi : Try.prog.info? e = some i) (hz : i.zero = some z)
    (hsize : i.size = size) (hby : i.bytes = bytes) (hsz : 0 < size)
    (v : Value) (n : Nat) (xs : List Value) (hown : w.ownsRow base e size v n xs) (hv : v.ownBlock ≠ none)
    (a : Addr) (m c : Nat) (news : List Value) (hl : news.length = m * size) (hnews : ∀ j u, news[j]? = some u → w.cell? (a.add j) = some u) (h1 : ∀ u ∈ news, u.oneCell' = true)
    (h63 : n + m ≤ maxLen) (hbytes : (n + m) * bytes ≤ 140737488355328) {v' : Value} {w' : World} (hr : (Builtin.append_ #[t, t] ty #[v, .slice (some a) m c]).run Try.prog w = .ok v' w') :
    v'.ownBlock = v.ownBlock ∨ v'.ownBlock = some w.heap.size := by
  subst hsize
  subst hby
  have hsmall : n + m ≤ 9223372036854775807 := by simp only [maxLen] at h63; omega
  rcases hown.2 with ⟨rfl, rfl⟩ | ⟨g, cap, cur, rfl, hbg, hg, hnc, hcm, hcs, htake⟩
  · exact absurd rfl hv
  · by_cases hroom : n + m ≤ cap
    · have hfit : n * i.size + news.length ≤ cur.size := by rw [hl, hcs, ← Nat.add_mul]; exact Nat.mul_le_mul_right _ hroom
      have hr' := run_append_room (P := Try.prog) w t ty e i ht hi g n cap cur hg a m c news hl hnews h1 hroom hfit
      rw [hr'] at hr
      simp at hr
      rw [← hr.1]
      exact Or.inl rfl
    · have holds : ∀ j u, xs[j]? = some u → w.cell? ((⟨g, 0, none⟩ : Addr).add j) = some u := hown.cells (g := g) rfl
      have hr' := run_append_grow (P := Try.prog) w t ty e i z ht hi hz ⟨g, 0, none⟩ n cap xs hown.1 holds a m c news hl hnews (by omega) (by omega) (growslice_fits (by omega) hbytes)
      rw [hr'] at hr
      simp at hr
      rw [← hr.1]
      exact Or.inr rfl
/-- One operation that yields a value and a world. -/
theorem wpOp_run {ops : Array Oper} {i : Nat} {o : Oper} {a : Act} {w w' : World} {v : Value} {K : Act → World → Prop} {Q : Exit → Act → World → Prop} (hi : ops[i]? = some o) (hg : o.guard = none) (hr : (execOp a.eval o).run Try.prog w = .ok (.value v) w') (h : K (a.put o.dst v) w') : wpOp Try.prog ops Q i K a w := by
  refine wpOp_step hi fun K' hK => ?_
  rw [if_pos (by simp [Region.wanted, hg])]
  unfold Oper.wp
  rw [hr]
  exact hK _ _ h

end Go.Proofs.Ytcpdadppblbndaa

namespace Go.Proofs.Ytcpdadppblbndaa
open Go.RowKit Go.Shelf
set_option maxRecDepth 100000

/-- The mark. -/
def mkN (m : Int) : Nd := (⟨#[35]⟩, m)
def MkC (cur : Array Value) (n : Nat) (m : Int) : Prop := ∀ k, k < n → cur[k * 2]? = some (.string ⟨#[35]⟩) ∧ cur[k * 2 + 1]? = some (.int .i64 m)
/-- A list of marks. -/
def Marks (w : World) (v : Value) (m : Int) : Prop := v = .slice none 0 0 ∨ ∃ g n c cur, v = .slice (some ⟨g, 0, none⟩) n c ∧ w.heap[g]? = some (.cells cur 46) ∧ MkC cur n m ∧ n ≤ 5864062014809
abbrev mks (n : Nat) (m : Int) : List Nd := List.replicate n (mkN m)
theorem mks_cells (n : Nat) (m : Int) (k : Nat) (h : k < n) : (nodeCells (mks n m))[k * 2]? = some (.string ⟨#[35]⟩) ∧ (nodeCells (mks n m))[k * 2 + 1]? = some (.int .i64 m) := by
  have := nodeCells_at (mks n m) k (by simpa using h)
  simpa [mkN] using this
theorem Marks.of_own {w : World} {B : Nat} {v : Value} {n : Nat} {m : Int} (h : w.ownsRow B 46 2 v n (nodeCells (mks n m))) (hn : n ≤ 5864062014809) : Marks w v m := by
  obtain ⟨h1, ⟨rfl, h2⟩ | ⟨g, cap, cur, rfl, hb, hh, hc, hm, hz, ht⟩⟩ := h
  · exact Or.inl rfl
  · refine Or.inr ⟨g, n, cap, cur, rfl, hh, fun k hk => ?_, hn⟩
    obtain ⟨a, b⟩ := mks_cells n m k hk
    rw [← ht] at a b
    rw [List.getElem?_take, if_pos (by omega)] at a b
    exact ⟨by simpa using a, by simpa using b⟩
theorem Marks.grown {w w' : World} {v : Value} {m : Int} {o : Option Nat} (h : Marks w v m) (hg : w.grownBy w' o) (ho : v.ownBlock = none ∨ v.ownBlock ≠ o) : Marks w' v m := by
  rcases h with h | ⟨g, n, c, cur, rfl, hh, hk⟩
  · exact Or.inl h
  · refine Or.inr ⟨g, n, c, cur, rfl, ?_, hk⟩
    rw [hg.block g (Array.getElem?_eq_some_iff.1 hh).1 ?_, hh]
    rcases ho with ho | ho
    · simp [Value.ownBlock] at ho
    · intro e; exact ho (by rw [← e]; rfl)
theorem Marks.below {w w' : World} {v : Value} {m : Int} (h : Marks w v m) (hb : Below w.heap.size w w') : Marks w' v m := h.grown (grown_below (o := none) hb) (by
  cases v.ownBlock <;> simp)
theorem splice_get {α : Type} (l ns : List α) (p : Nat) (hp : p + ns.length ≤ l.length) (j : Nat) : (l.take p ++ ns ++ l.drop (p + ns.length))[j]? = if j < p then l[j]? else if j < p + ns.length then ns[j - p]? else l[j]? := by
  by_cases h1 : j < p
  · rw [if_pos h1, List.append_assoc, List.getElem?_append_left (by simp; omega), List.getElem?_take, if_pos h1]
  · rw [if_neg h1]
    by_cases h2 : j < p + ns.length
    · rw [if_pos h2, List.getElem?_append_left (by simp; omega), List.getElem?_append_right (by simp; omega)]
      simp
      congr 1
      omega
    · rw [if_neg h2, List.getElem?_append_right (by simp; omega), List.getElem?_drop]
      congr 1
      simp
      omega
/-- Marks are put behind marks: all lists of that mark stay. -/
theorem run_append_mk (w : World) (ty : TypeId) (B : Nat) (v : Value) (n : Nat) (m : Int) (ho : w.ownsRow B 46 2 v n (nodeCells (mks n m))) (hB : B ≤ w.heap.size) (a : Addr) (k c : Nat) (hk : 0 < k ∧ k ≤ 3) (hn : n ≤ 5864062014805) (hnews : ∀ j u, (nodeCells (mks k m))[j]? = some u → w.cell? (a.add j) = some u) :
    ∃ v' w', (Builtin.append_ #[44, 44] ty #[v, .slice (some a) k c]).run Try.prog w = .ok v' w' ∧ w'.ownsRow B 46 2 v' (n + k) (nodeCells (mks (n + k) m)) ∧ w'.ownsRow B 46 2 v n (nodeCells (mks n m)) ∧ w.grownBy w' v.ownBlock ∧ Moved w v v' ∧ ∀ u, Marks w u m → Marks w' u m := by
  obtain ⟨i, hi, hz, hss, hy⟩ := info_parts infoNode
  have hcells : nodeCells (mks (n + k) m) = nodeCells (mks n m) ++ nodeCells (mks k m) := by
    rw [show mks (n + k) m = mks n m ++ mks k m from List.replicate_append_replicate.symm]
    unfold nodeCells
    rw [List.flatMap_append]
  have hl : (nodeCells (mks k m)).length = k * 2 := by rw [nodeCells_length]; simp
  have h1 := node_one (mks k m)
  by_cases hv : v.ownBlock = none
  · have hnil : v = .slice none 0 0 ∧ n = 0 := by
      obtain ⟨_, h | ⟨g, cap, cur, rfl, _⟩⟩ := ho
      · exact h
      · simp [Value.ownBlock] at hv
    obtain ⟨rfl, rfl⟩ := hnil
    obtain ⟨v', w', hr, r1, r2, r3⟩ := run_append_own_wide (P := Try.prog) w w.heap.size 44 ty 46 i _ 2 24 Try.underlying44 hi hz hss hy rfl (by decide) (.slice none 0 0) 0 [] (World.ownsRow_nil _ _ _ _) a k c (nodeCells (mks k m)) hl hnews h1 (by unfold maxLen; omega) (by omega) (Nat.le_refl _)
    refine ⟨v', w', hr, by rw [hcells]; exact own_mono r1 hB, World.ownsRow_nil _ _ _ _, r2, ?_, fun u hu => hu.grown r2 (by cases hub : u.ownBlock with | none => exact Or.inl rfl | some g => exact Or.inr (by simp [Value.ownBlock]))⟩
    cases hb : v'.ownBlock with
    | none => exact Or.inl (by rw [hb, hv])
    | some g' => exact Or.inr ⟨g', hb, (own_lt r1 g' hb).1⟩
  · obtain ⟨ho1, ⟨rfl, _⟩ | ⟨g, cap, cur, rfl, hbg, hg, hnc, hcm, hcs, htake⟩⟩ := ho
    · exact absurd rfl hv
    · have ho : w.ownsRow B 46 2 (.slice (some ⟨g, 0, none⟩) n cap) n (nodeCells (mks n m)) := ⟨ho1, Or.inr ⟨g, cap, cur, rfl, hbg, hg, hnc, hcm, hcs, htake⟩⟩
      by_cases hroom : n + k ≤ cap
      · have hfit : n * 2 + (nodeCells (mks k m)).length ≤ cur.size := by rw [hl, hcs, ← Nat.add_mul]; exact Nat.mul_le_mul_right _ hroom
        have hr := run_append_room (P := Try.prog) w 44 ty 46 i Try.underlying44 hi g n cap cur hg a k c (nodeCells (mks k m)) (by rw [hl, hss]) hnews h1 hroom (by rw [hss]; exact hfit)
        rw [hss] at hr
        have hget : ∀ j, ((cur.toList.take (n * 2) ++ nodeCells (mks k m) ++ cur.toList.drop (n * 2 + (nodeCells (mks k m)).length)).toArray)[j]? = if j < n * 2 then cur[j]? else if j < n * 2 + k * 2 then (nodeCells (mks k m))[j - n * 2]? else cur[j]? := by
          intro j
          have := splice_get cur.toList (nodeCells (mks k m)) (n * 2) (by simpa using hfit) j
          rw [hl] at this ⊢
          simpa using this
        have hkeep : ∀ n' , MkC cur n' m → MkC ((cur.toList.take (n * 2) ++ nodeCells (mks k m) ++ cur.toList.drop (n * 2 + (nodeCells (mks k m)).length)).toArray) n' m := by
          intro n' hm j hj
          obtain ⟨q1, q2⟩ := hm j hj
          rw [hget, hget]
          by_cases e1 : j < n
          · simp only [if_pos (show j * 2 < n * 2 by omega), if_pos (show j * 2 + 1 < n * 2 by omega)]
            exact ⟨q1, q2⟩
          · simp only [if_neg (show ¬ j * 2 < n * 2 by omega), if_neg (show ¬ j * 2 + 1 < n * 2 by omega)]
            by_cases e2 : j < n + k
            · obtain ⟨r1, r2⟩ := mks_cells k m (j - n) (by omega)
              simp only [if_pos (show j * 2 < n * 2 + k * 2 by omega), if_pos (show j * 2 + 1 < n * 2 + k * 2 by omega)]
              rw [show j * 2 - n * 2 = (j - n) * 2 by omega, show j * 2 + 1 - n * 2 = (j - n) * 2 + 1 by omega]
              exact ⟨r1, r2⟩
            · simp only [if_neg (show ¬ j * 2 < n * 2 + k * 2 by omega), if_neg (show ¬ j * 2 + 1 < n * 2 + k * 2 by omega)]
              exact ⟨q1, q2⟩
        generalize hcur' : (cur.toList.take (n * 2) ++ nodeCells (mks k m) ++ cur.toList.drop (n * 2 + (nodeCells (mks k m)).length)).toArray = cur' at *
        have hsz : cur'.size = cur.size := by rw [← hcur']; simp; omega
        have htl : cur'.toList = cur.toList.take (n * 2) ++ nodeCells (mks k m) ++ cur.toList.drop (n * 2 + (nodeCells (mks k m)).length) := by rw [← hcur']
        have hh' : (w.setRow g cur').heap[g]? = some (.cells cur' 46) := setRow_heap w g cur _ 46 _ hg
        have hgr : w.grownBy (w.setRow g cur') (some g) := ⟨rfl, rfl, rfl, by simp, fun q _ hq => setRow_other w g q _ (fun e => hq (by simp [e]))⟩
        refine ⟨_, _, hr, ⟨by rw [nodeCells_length]; simp, Or.inr ⟨g, cap, cur', rfl, hbg, hh', hroom, hcm, by rw [hsz, hcs], ?_⟩⟩, ⟨ho1, Or.inr ⟨g, cap, cur', rfl, hbg, hh', hnc, hcm, by rw [hsz, hcs], ?_⟩⟩, hgr, Or.inl rfl, ?_⟩
        · rw [htl, htake, hcells]
          exact List.take_left' (by rw [List.length_append, nodeCells_length, nodeCells_length]; simp; omega)
        · rw [htl, htake, List.append_assoc]
          exact List.take_left' (by rw [nodeCells_length]; simp)
        · intro u hu
          rcases hu with hu | ⟨g', n', c', cu, rfl, hgu, hmk, hn'⟩
          · exact Or.inl hu
          · by_cases e : g' = g
            · subst e
              rw [hg] at hgu
              simp at hgu
              subst hgu
              exact Or.inr ⟨g', n', c', cur', rfl, hh', hkeep n' hmk, hn'⟩
            · exact Or.inr ⟨g', n', c', cu, rfl, by rw [hgr.block g' (Array.getElem?_eq_some_iff.1 hgu).1 (by simpa using e), hgu], hmk, hn'⟩
      · have holds : ∀ j u, (nodeCells (mks n m))[j]? = some u → w.cell? ((⟨g, 0, none⟩ : Addr).add j) = some u := ho.cells (g := g) rfl
        have hr := run_append_grow (P := Try.prog) w 44 ty 46 i _ Try.underlying44 hi hz ⟨g, 0, none⟩ n cap (nodeCells (mks n m)) (by rw [hss]; exact ho1) holds a k c (nodeCells (mks k m)) (by rw [hl, hss]) hnews (by omega) (by omega) (growslice_fits_wide (by omega) (by rw [hy]; omega))
        obtain ⟨v', w', hr', r1, r2, _⟩ := run_append_own_wide (P := Try.prog) w B 44 ty 46 i _ 2 24 Try.underlying44 hi hz hss hy rfl (by decide) _ n (nodeCells (mks n m)) ho a k c (nodeCells (mks k m)) hl hnews h1 (by unfold maxLen; omega) (by omega) hB
        rw [hr] at hr'
        injection hr' with e1 e2
        subst e1
        subst e2
        have hb : Below w.heap.size w (w.drew.alloc (.cells ((nodeCells (mks n m)).toArray ++ (nodeCells (mks k m)).toArray ++ Builtin.zeroCells (Value.agg #[.string ⟨#[]⟩, .int .i64 0]).cells (grownCap w (n + k) cap 46 - (n + k))) 46)) := (below_drawn (w1 := w.drew) ⟨1, rfl⟩).alloc (Nat.le_refl _) _
        exact ⟨_, _, hr, by rw [hcells]; exact r1, own_below ho hb (Nat.le_refl _), r2, Or.inr ⟨_, rfl, Nat.le_refl _⟩, fun u hu => hu.below hb⟩

end Go.Proofs.Ytcpdadppblbndaa

namespace Go.Proofs.Ytcpdadppblbndaa
open Go.RowKit Go.Shelf
set_option maxRecDepth 100000
variable {xy : Value × Value}

abbrev bookC (xy : Value × Value) (nv mv : Value) (next : Int) : Array Value := #[nv, mv, xy.1, xy.2, .slice none 0 0, .slice none 0 0, .slice none 0 0, .slice none 0 0, .int .i64 next]
theorem infoNodes : (Try.prog.info? 44).map (fun i => (i.zero, i.size, i.bytes)) = some (some (.slice none 0 0), 1, 24) := by kernel_rfl
/-- The book, and the lists of marks in it. -/
structure BookIn (w : World) (B bk : Nat) (xy : Value × Value) (nv mv : Value) (E : List (Value × Int)) (next : Int) : Prop where
  box : w.heap[bk]? = some (.cells (bookC xy nv mv next) 31)
  high : B ≤ bk
  rn : w.ownsRow B 44 1 nv E.length (E.map Prod.fst)
  rm : w.ownsRow B 3 1 mv E.length (E.map fun x => Value.int .i64 x.2)
  mks : ∀ x ∈ E, Marks w x.1 x.2
  few : E.length ≤ 10000000000
  lo : -10000000000 ≤ next
  hi : next ≤ 0
/-- What taking a list into the book leaves as it was. -/
structure BFar (w w' : World) (bk : Nat) (nv mv lv : Value) : Prop where
  os : w'.os = w.os
  tape : w'.tape = w.tape
  output : w'.output = w.output
  size : w.heap.size ≤ w'.heap.size
  block : ∀ k, k < w.heap.size → k ≠ bk → nv.ownBlock ≠ some k → mv.ownBlock ≠ some k → lv.ownBlock ≠ some k → w'.heap[k]? = w.heap[k]?
section
variable {w w' w2 : World} {B bk : Nat} {nv mv lv : Value} {E : List (Value × Int)} {next m : Int}
theorem BFar.refl (w : World) (bk : Nat) (nv mv lv : Value) : BFar w w bk nv mv lv := ⟨rfl, rfl, rfl, Nat.le_refl _, fun _ _ _ _ _ _ => rfl⟩
theorem BFar.grown (h : BFar w w' bk nv mv lv) {v : Value} (hg : w'.grownBy w2 v.ownBlock) (hv : Moved w nv v ∨ Moved w mv v ∨ Moved w lv v ∨ v.ownBlock = none) : BFar w w2 bk nv mv lv :=
  ⟨hg.os.trans h.os, hg.tape.trans h.tape, hg.output.trans h.output, Nat.le_trans h.size hg.size, fun k h1 h2 h3 h4 h5 => by
    rw [hg.block k (Nat.lt_of_lt_of_le h1 h.size) ?_, h.block k h1 h2 h3 h4 h5]
    intro e
    rcases hv with (hv | ⟨g, hv, hg⟩) | (hv | ⟨g, hv, hg⟩) | (hv | ⟨g, hv, hg⟩) | hv
    · exact h3 (by rw [← hv, e])
    · rw [hv] at e; simp at e; omega
    · exact h4 (by rw [← hv, e])
    · rw [hv] at e; simp at e; omega
    · exact h5 (by rw [← hv, e])
    · rw [hv] at e; simp at e; omega
    · rw [hv] at e; cases e⟩
theorem BFar.below (h : BFar w w' bk nv mv lv) (hb : Below w'.heap.size w' w2) : BFar w w2 bk nv mv lv :=
  ⟨hb.os.trans h.os, hb.tape.trans h.tape, hb.output.trans h.output, Nat.le_trans h.size hb.size, fun k h1 h2 h3 h4 h5 => by
    rw [hb.block k (Nat.lt_of_lt_of_le h1 h.size), h.block k h1 h2 h3 h4 h5]⟩
theorem BFar.setB (h : BFar w w' bk nv mv lv) (j : Nat) (x : Value) : BFar w (w'.setCell ⟨bk, j, none⟩ x) bk nv mv lv := by
  have hg := grown_setCell w' ⟨bk, j, none⟩ x
  exact ⟨hg.os.trans h.os, hg.tape.trans h.tape, hg.output.trans h.output, Nat.le_trans h.size hg.size, fun k h1 h2 h3 h4 h5 => by
    rw [hg.block k (Nat.lt_of_lt_of_le h1 h.size) (by simpa using h2), h.block k h1 h2 h3 h4 h5]⟩
theorem BFar.low (h : BFar w w' bk nv mv lv) {C : Nat} (h1 : C ≤ bk) (h2 : ∀ k, nv.ownBlock = some k → C ≤ k) (h3 : ∀ k, mv.ownBlock = some k → C ≤ k) (h4 : ∀ k, lv.ownBlock = some k → C ≤ k) (hC : C ≤ w.heap.size) : Below C w w' :=
  ⟨h.os, h.tape, h.output, h.size, fun k hk => h.block k (by omega) (by omega) (fun e => by have := h2 k e; omega) (fun e => by have := h3 k e; omega) (fun e => by have := h4 k e; omega)⟩
theorem BookIn.lt (h : BookIn w B bk xy nv mv E next) : bk < w.heap.size := (Array.getElem?_eq_some_iff.1 h.box).1
theorem BookIn.c0 (h : BookIn w B bk xy nv mv E next) : w.cell? ⟨bk, 0, none⟩ = some nv := by simp [World.cell?, h.box]
theorem BookIn.c1 (h : BookIn w B bk xy nv mv E next) : w.cell? ⟨bk, 1, none⟩ = some mv := by simp [World.cell?, h.box]
theorem BookIn.c8 (h : BookIn w B bk xy nv mv E next) : w.cell? ⟨bk, 8, none⟩ = some (.int .i64 next) := by simp [World.cell?, h.box]
theorem BookIn.soft (h : BookIn w B bk xy nv mv E next) (j : Nat) : w.frozen? ⟨bk, j, none⟩ = false := by simp [World.frozen?, h.box]
theorem BookIn.grown (h : BookIn w B bk xy nv mv E next) {o : Option Nat} (hg : w.grownBy w' o) (h0 : o ≠ some bk) (h1 : nv.ownBlock = none ∨ nv.ownBlock ≠ o) (h2 : mv.ownBlock = none ∨ mv.ownBlock ≠ o) (h3 : ∀ x ∈ E, Marks w' x.1 x.2) : BookIn w' B bk xy nv mv E next :=
  ⟨by rw [hg.block bk h.lt (fun e => h0 e.symm), h.box], h.high, own_grown h.rn hg h1, own_grown h.rm hg h2, h3, h.few, h.lo, h.hi⟩
theorem BookIn.below (h : BookIn w B bk xy nv mv E next) (hb : Below w.heap.size w w') : BookIn w' B bk xy nv mv E next :=
  ⟨by rw [hb.block bk h.lt, h.box], h.high, own_below h.rn hb (Nat.le_refl _), own_below h.rm hb (Nat.le_refl _), fun x hx => (h.mks x hx).below hb, h.few, h.lo, h.hi⟩
/-- What is no book, list of lists or list of numbers may turn. -/
theorem BookIn.nodes (h : BookIn w B bk xy nv mv E next) {v : Value} {n : Nat} {xs : List Value} {B' : Nat} (ho : w.ownsRow B' 46 2 v n xs) (hg : w.grownBy w' v.ownBlock) (h3 : ∀ x ∈ E, Marks w' x.1 x.2) : BookIn w' B bk xy nv mv E next :=
  h.grown hg (own_ne_box ho h.box (by decide)) (own_apart h.rn ho (by decide)) (own_apart h.rm ho (by decide)) h3
theorem Marks.setB {v : Value} (h : Marks w v m) (hb : w.heap[bk]? = some (.cells (bookC xy nv mv next) 31)) (j : Nat) (x : Value) : Marks (w.setCell ⟨bk, j, none⟩ x) v m := by
  rcases h with h | ⟨g, n, c, cur, rfl, hh, hk⟩
  · exact Or.inl h
  · refine Or.inr ⟨g, n, c, cur, rfl, ?_, hk⟩
    rw [heap_setCell_other _ _ _ _ (by simp; rintro rfl; rw [hh] at hb; simp at hb), hh]
theorem heap_set {w : World} {b j : Nat} {cs : Array Value} {T : TypeId} {x : Value} (h : w.heap[b]? = some (.cells cs T)) : (w.setCell ⟨b, j, none⟩ x).heap[b]? = some (.cells (cs.setIfInBounds j x) T) := by
  unfold World.setCell
  simp [Array.getElem?_modify, h]
theorem BookIn.setNext (h : BookIn w B bk xy nv mv E next) {x : Int} (hlo : -10000000000 ≤ x) (hhi : x ≤ 0) : BookIn (w.setCell ⟨bk, 8, none⟩ (.int .i64 x)) B bk xy nv mv E x :=
  ⟨heap_set h.box, h.high, own_setB h.rn h.box (by decide), own_setB h.rm h.box (by decide), fun y hy => (h.mks y hy).setB h.box 8 _, h.few, hlo, hhi⟩
end
/-- On the way of a list into the book. -/
structure OSt (w : World) (B bk bx : Nat) (xy : Value × Value) (nv mv lv : Value) (E : List (Value × Int)) (m : Int) (n : Nat) (D : List Value) (wr : World) : Prop where
  book : BookIn wr B bk xy nv mv E m
  own : wr.ownsRow B 46 2 lv n (nodeCells (mks n m))
  marks : ∀ d ∈ D, Marks wr d m
  moved : ∀ d ∈ D, Moved w lv d
  far : BFar w wr bk nv mv lv
  b0 : wr.cell? ⟨bx, 0, none⟩ = some (.string ⟨#[35]⟩)
  b1 : wr.cell? ⟨bx, 1, none⟩ = some (.int .i64 m)
  vne : lv.ownBlock ≠ some bx
section
variable {w wr w3 : World} {B bk bx : Nat} {nv mv lv v' : Value} {E : List (Value × Int)} {m : Int} {n : Nat} {D : List Value}
/-- One more list of marks is made of it. -/
theorem OSt.next (h : OSt w B bk bx xy nv mv lv E m n D wr) (hap : ∀ x ∈ E, x.1.ownBlock = none ∨ x.1.ownBlock ≠ lv.ownBlock) {X : Obj} {k : Nat} (r1 : w3.ownsRow B 46 2 v' (n + k) (nodeCells (mks (n + k) m))) (r2 : w3.ownsRow B 46 2 lv n (nodeCells (mks n m))) (r3 : (wr.alloc X).grownBy w3 lv.ownBlock) (r4 : Moved (wr.alloc X) lv v') (r5 : ∀ u, Marks (wr.alloc X) u m → Marks w3 u m) (hn : n + k ≤ 5864062014809) :
    OSt w B bk bx xy nv mv lv E m n (D ++ [v']) w3 := by
  have hb : Below wr.heap.size wr (wr.alloc X) := (Below.refl _ _).alloc (Nat.le_refl _) X
  have hbk := h.book.below hb
  have ho := own_below h.own hb (Nat.le_refl _)
  have hws := h.far.size
  refine ⟨hbk.nodes ho r3 (fun x hx => (hbk.mks x hx).grown r3 (hap x hx)), r2, ?_, ?_, (h.far.below hb).grown r3 (Or.inr (Or.inr (Or.inl (Moved.refl _ _)))), ?_, ?_, h.vne⟩
  · intro d hd
    rcases List.mem_append.1 hd with hd | hd
    · exact r5 d ((h.marks d hd).below hb)
    · simp at hd
      subst hd
      exact Marks.of_own r1 hn
  · intro d hd
    rcases List.mem_append.1 hd with hd | hd
    · exact h.moved d hd
    · simp at hd
      subst hd
      exact (Moved.refl w lv).trans r4 (by simp; omega)
  · exact r3.cell (Below.at' hb (Nat.le_refl _) h.b0) (fun e => h.vne e.symm)
  · exact r3.cell (Below.at' hb (Nat.le_refl _) h.b1) (fun e => h.vne e.symm)
end
theorem nodeCells_put (a r : List Nd) (y : Nd) (s : ByteArray) (x : Int) : ((nodeCells (a ++ y :: r)).set (a.length * 2) (.string s)).set (a.length * 2 + 1) (.int .i64 x) = nodeCells (a ++ (s, x) :: r) := by
  have h1 : nodeCells (a ++ y :: r) = nodeCells a ++ (.string y.1 :: .int .i64 y.2 :: nodeCells r) := by simp [nodeCells]
  have h2 : nodeCells (a ++ (s, x) :: r) = nodeCells a ++ (.string s :: .int .i64 x :: nodeCells r) := by simp [nodeCells]
  have hl : (nodeCells a).length = a.length * 2 := nodeCells_length a
  rw [h1, h2, List.set_append_right _ _ (by omega), List.set_append_right _ _ (by omega)]
  simp [hl]
/-- While the list is written full. -/
structure WSt (w : World) (B bk bx : Nat) (xy : Value × Value) (nv mv lv : Value) (E : List (Value × Int)) (m : Int) (l : List Nd) (wr : World) : Prop where
  book : BookIn wr B bk xy nv mv E m
  own : wr.ownsRow B 46 2 lv l.length (nodeCells l)
  far : BFar w wr bk nv mv lv
  b0 : wr.cell? ⟨bx, 0, none⟩ = some (.string ⟨#[35]⟩)
  b1 : wr.cell? ⟨bx, 1, none⟩ = some (.int .i64 m)
  vne : lv.ownBlock ≠ some bx
theorem WSt.put {w wr : World} {B bk bx g n c : Nat} {nv mv : Value} {E : List (Value × Int)} {m : Int} {a r : List Nd} {y : Nd} (h : WSt w B bk bx xy nv mv (.slice (some ⟨g, 0, none⟩) n c) E m (a ++ y :: r) wr) (hn : n = (a ++ y :: r).length) (hap : ∀ x ∈ E, x.1.ownBlock = none ∨ x.1.ownBlock ≠ some g) :
    WSt w B bk bx xy nv mv (.slice (some ⟨g, 0, none⟩) n c) E m (a ++ mkN m :: r) ((wr.setCell ⟨g, a.length * 2, none⟩ (.string ⟨#[35]⟩)).setCell ⟨g, a.length * 2 + 1, none⟩ (.int .i64 m)) := by
  subst hn
  have hl : (a ++ mkN m :: r).length = (a ++ y :: r).length := by simp
  have s1 := (h.own.stored (a.length * 2) (.string ⟨#[35]⟩)).1
  have s2 := (s1.stored (a.length * 2 + 1) (.int .i64 m)).1
  rw [nodeCells_put] at s2
  have g1 := grown_setCell wr ⟨g, a.length * 2, none⟩ (.string ⟨#[35]⟩)
  have g2 := grown_setCell (wr.setCell ⟨g, a.length * 2, none⟩ (.string ⟨#[35]⟩)) ⟨g, a.length * 2 + 1, none⟩ (.int .i64 m)
  have hg := g1.trans g2
  have hvb : g ≠ bx := by have := h.vne; simpa [Value.ownBlock] using this
  refine ⟨h.book.nodes h.own hg (fun x hx => (h.book.mks x hx).grown hg (hap x hx)), by rw [hl]; exact s2, h.far.grown (v := .slice (some ⟨g, 0, none⟩) _ c) hg (Or.inr (Or.inr (Or.inl (Moved.refl _ _)))), hg.cell h.b0 (by simpa using fun e => hvb e.symm), hg.cell h.b1 (by simpa using fun e => hvb e.symm), h.vne⟩

end Go.Proofs.Ytcpdadppblbndaa
