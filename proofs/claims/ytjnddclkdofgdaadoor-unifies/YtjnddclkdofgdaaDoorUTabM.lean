/- The document's table of terms, in memory; the head of a class. The document's table: two classes are one. Pure: classes of a table's rows, joined until nothing more follows. -/
import Derived.Test.YtjnddclkdofgdaaDoorRRenM
import Derived.Test.YtjnddclkdofgdaaDoorONum0M
namespace Go.Proofs.YtjnddclkdofgdaaDoor
open Go.RowKit Go.Shelf Go.WideMaps
set_option maxRecDepth 100000

/-- A row of the table. -/
structure Rw where
  node : Nd
  cls : Nat
  parts : List Nat
def rowCells (P : List (Rw × Value)) : List Value := P.flatMap fun p => [.string p.1.node.1, .int .i64 p.1.node.2, p.2, .int .i64 p.1.cls]
theorem rowCells_cons (x : Rw × Value) (r : List (Rw × Value)) : rowCells (x :: r) = .string x.1.node.1 :: .int .i64 x.1.node.2 :: x.2 :: .int .i64 x.1.cls :: rowCells r := rfl
theorem rowCells_length (P : List (Rw × Value)) : (rowCells P).length = P.length * 4 := by
  induction P with
  | nil => rfl
  | cons x r ih => rw [rowCells_cons]; simp [ih]; omega
theorem rowCells_at (P : List (Rw × Value)) : ∀ k (h : k < P.length), (rowCells P)[k * 4]? = some (.string P[k].1.node.1) ∧ (rowCells P)[k * 4 + 1]? = some (.int .i64 P[k].1.node.2) ∧ (rowCells P)[k * 4 + 2]? = some P[k].2 ∧ (rowCells P)[k * 4 + 3]? = some (.int .i64 P[k].1.cls) := by
  induction P with
  | nil => intro k h; simp at h
  | cons x r ih =>
    intro k h
    cases k with
    | zero => simp [rowCells_cons]
    | succ k =>
      have := ih k (by simpa using h)
      rw [rowCells_cons, show (k + 1) * 4 = k * 4 + 1 + 1 + 1 + 1 by omega]
      simpa [show k * 4 + 1 + 1 + 1 + 1 + 1 = (k * 4 + 1) + 1 + 1 + 1 + 1 by omega, show k * 4 + 1 + 1 + 1 + 1 + 2 = (k * 4 + 2) + 1 + 1 + 1 + 1 by omega, show k * 4 + 1 + 1 + 1 + 1 + 3 = (k * 4 + 3) + 1 + 1 + 1 + 1 by omega] using this
theorem rowCells_cls (P : List (Rw × Value)) : ∀ (k : Nat) (h : k < P.length) (c : Nat), (rowCells P).set (k * 4 + 3) (.int .i64 c) = rowCells (P.set k ({ P[k].1 with cls := c }, P[k].2)) := by
  induction P with
  | nil => intro k h; simp at h
  | cons x r ih =>
    intro k h c
    cases k with
    | zero => rfl
    | succ k =>
      have := ih k (by simpa using h) c
      rw [show (k + 1) * 4 + 3 = k * 4 + 3 + 1 + 1 + 1 + 1 by omega, List.set_cons_succ, rowCells_cons, rowCells_cons, List.set_cons_succ, List.set_cons_succ, List.set_cons_succ, List.set_cons_succ, this]
      rfl
/-- The table in memory. -/
structure TabP (w : World) (B tp : Nat) (v : Value) (P : List (Rw × Value)) : Prop where
  box : w.heap[tp]? = some (.cells #[v] 82)
  high : B ≤ tp
  row : w.ownsRow B 108 4 v P.length (rowCells P)
  parts : ∀ p ∈ P, w.ownsRow B 3 1 p.2 p.1.parts.length (p.1.parts.map fun x : Nat => Value.int .i64 x)
theorem TabP.cell {w : World} {B tp : Nat} {v : Value} {P : List (Rw × Value)} (h : TabP w B tp v P) : w.cell? ⟨tp, 0, none⟩ = some v := by simp [World.cell?, h.box]
theorem TabP.soft {w : World} {B tp : Nat} {v : Value} {P : List (Rw × Value)} (h : TabP w B tp v P) : w.frozen? ⟨tp, 0, none⟩ = false := by simp [World.frozen?, h.box]
theorem TabP.drewN {w : World} {B tp : Nat} {v : Value} {P : List (Rw × Value)} (h : TabP w B tp v P) (d : Nat) : TabP (w.drewN d) B tp v P := ⟨h.box, h.high, h.row, h.parts⟩
theorem TabP.shape {w : World} {B tp : Nat} {v : Value} {P : List (Rw × Value)} (h : TabP w B tp v P) :
    ∃ a cap, v = .slice a P.length cap ∧ ∀ k (h : k < P.length), ∃ g, a = some ⟨g, 0, none⟩ ∧ w.cell? ⟨g, k * 4, none⟩ = some (.string P[k].1.node.1) ∧ w.cell? ⟨g, k * 4 + 1, none⟩ = some (.int .i64 P[k].1.node.2) ∧ w.cell? ⟨g, k * 4 + 2, none⟩ = some P[k].2 ∧ w.cell? ⟨g, k * 4 + 3, none⟩ = some (.int .i64 P[k].1.cls) := by
  obtain ⟨h1, ⟨rfl, h2⟩ | ⟨g, cap, cur, rfl, hb, hh, hc, hm, hz, ht⟩⟩ := h.row
  · exact ⟨none, 0, by rw [h2], fun k hk => by omega⟩
  · have ho : w.ownsRow B 108 4 (.slice (some ⟨g, 0, none⟩) P.length cap) P.length (rowCells P) := ⟨h1, Or.inr ⟨g, cap, cur, rfl, hb, hh, hc, hm, hz, ht⟩⟩
    refine ⟨_, _, rfl, fun k hk => ⟨g, rfl, ?_⟩⟩
    obtain ⟨a, b, c, d⟩ := rowCells_at P k hk
    refine ⟨?_, ?_, ?_, ?_⟩
    · rw [ho.cellAt _ (by omega), a]
    · rw [ho.cellAt _ (by omega), b]
    · rw [ho.cellAt _ (by omega), c]
    · rw [ho.cellAt _ (by omega), d]
/-- The row of a class that has a name. -/
def HeadR (P : List (Rw × Value)) (c : Nat) (r : Int) : Prop := (r = -1 ∧ ∀ i (h : i < P.length), ¬ (P[i].1.cls = c ∧ varB P[i].1.node = false)) ∨ ∃ h : Nat, r = h ∧ ∃ hl : h < P.length, P[h].1.cls = c ∧ varB P[h].1.node = false

set_option maxHeartbeats 2000000 in
theorem thead_any (B tp : Nat) (v : Value) (P : List (Rw × Value)) (c : Nat) (w : World) (h : TabP w B tp v P) (hf : P.length ≤ 1000000) :
    Calls Tryd.prog 64 #[.pointer (some ⟨tp, 0, none⟩), .int .i64 c] w fun e w' => ∃ r : Int, e = .returned (.int .i64 r) ∧ HeadR P c r ∧ ∃ d, w' = w.drewN d := by
  obtain ⟨a, cap, rfl, hc⟩ := h.shape
  have hcell := h.cell
  have HC := hide hc
  clear hc h
  go_enter Tryd.func64, Tryd.ntmps64
  go_wp2
  go_loopw [5] (fun i wr => ∃ k : Nat, k ≤ P.length ∧ i = .int .i64 k ∧ (∀ i (h : i < k) (h' : i < P.length), ¬ (P[i].1.cls = c ∧ varB P[i].1.node = false)) ∧ ∃ d, wr = w.drewN d) (fun i _ => P.length - (intOf i).toNat)
  case atStart => exact ⟨0, Nat.zero_le _, rfl, fun i h => by omega, 0, rfl⟩
  case round =>
    obtain ⟨k, hk, rfl, hno, d, rfl⟩ := hrel
    by_cases hlt : k < P.length
    · have hlti : (k : Int) < (P.length : Int) := by omega
      obtain ⟨g, rfl, e1, e2, e3, e4⟩ := HC.out k hlt
      have HNO := hide hno
      have HP := hide (show ∀ q : Bool, (P[k].1.cls = c ∧ varB P[k].1.node = false) ∨ ¬ (P[k].1.cls = c ∧ varB P[k].1.node = false) from fun _ => Classical.em _)
      clear hno e2 e3 HP
      have HE := hide (show P[k] = P[k] from rfl)
      generalize hpk : P[k] = pk at e1 e4
      obtain ⟨⟨⟨s, x⟩, cl, pt⟩, pv⟩ := pk
      simp only at e1 e4
      have HPK := hide hpk
      clear hpk HE
      by_cases hcc : cl = c
      · subst hcc
        by_cases hv : s.toList.isEmpty = true
        · go_wp2
          go_roundw
          case rel =>
            refine ⟨k + 1, by omega, by go_num, fun i h h' => ?_, d, rfl⟩
            by_cases hi : i < k
            · exact HNO.out i hi h'
            · have : i = k := by omega
              subst this
              rw [HPK.out]
              simp [varB, hv]
          case measure => simp [intOf]; omega
        · go_wp2
          go_ret
          exact ⟨_, rfl, Or.inr ⟨k, rfl, hlt, by rw [HPK.out], by rw [HPK.out]; simpa [varB] using hv⟩, d, rfl⟩
      · have hcc' : ¬ ((cl : Int) = (c : Int)) := by omega
        go_wp2
        go_roundw
        case rel =>
          refine ⟨k + 1, by omega, by go_num, fun i h h' => ?_, d, rfl⟩
          by_cases hi : i < k
          · exact HNO.out i hi h'
          · have : i = k := by omega
            subst this
            rw [HPK.out]
            simp [hcc]
        case measure => simp [intOf]; omega
    · have hlti : ¬ ((k : Int) < (P.length : Int)) := by omega
      have HNO := hide hno
      clear hno
      go_wp2
      go_ret
      exact ⟨_, rfl, Or.inl ⟨rfl, fun i h => HNO.out i (by omega) h⟩, d, rfl⟩

end Go.Proofs.YtjnddclkdofgdaaDoor

namespace Go.Proofs.YtjnddclkdofgdaaDoor
open Go.RowKit Go.Shelf Go.WideMaps
set_option maxRecDepth 100000

/-- A class comes to another. -/
def toCls (x y : Nat) (p : Rw × Value) : Rw × Value := if p.1.cls = y then ({ p.1 with cls := x }, p.2) else p
def joinP (P : List (Rw × Value)) (x y : Nat) : List (Rw × Value) := P.map (toCls x y)
def joinTo (P : List (Rw × Value)) (x y k : Nat) : List (Rw × Value) := (P.take k).map (toCls x y) ++ P.drop k
theorem joinTo_zero (P : List (Rw × Value)) (x y : Nat) : joinTo P x y 0 = P := by simp [joinTo]
theorem joinTo_all (P : List (Rw × Value)) (x y : Nat) : joinTo P x y P.length = joinP P x y := by simp [joinTo, joinP]
theorem joinTo_length (P : List (Rw × Value)) (x y k : Nat) : (joinTo P x y k).length = P.length := by simp [joinTo]; omega
theorem joinTo_at (P : List (Rw × Value)) (x y k : Nat) (h : k < P.length) (h' : k < (joinTo P x y k).length) : (joinTo P x y k)[k] = P[k] := by
  simp [joinTo, Nat.min_eq_left (Nat.le_of_lt h)]
theorem joinTo_succ (P : List (Rw × Value)) (x y k : Nat) (h : k < P.length) : joinTo P x y (k + 1) = (joinTo P x y k).set k (toCls x y P[k]) := by
  unfold joinTo
  rw [List.take_succ_eq_append_getElem h, List.drop_eq_getElem_cons h, List.map_append, List.set_append_right _ _ (by simp; omega)]
  simp only [List.length_map, List.length_take, Nat.min_eq_left (Nat.le_of_lt h), Nat.sub_self, List.set_cons_zero, List.map_cons, List.map_nil, List.append_assoc, List.cons_append, List.nil_append]
theorem toCls_parts (x y : Nat) (p : Rw × Value) : (toCls x y p).2 = p.2 ∧ (toCls x y p).1.parts = p.1.parts ∧ (toCls x y p).1.node = p.1.node := by
  unfold toCls; split <;> simp
theorem joinP_same (P : List (Rw × Value)) (x : Nat) : joinP P x x = P := by
  unfold joinP
  rw [List.map_congr_left (g := id)]
  · simp
  · intro p _
    unfold toCls
    split
    · rename_i h; obtain ⟨⟨n, c, q⟩, v⟩ := p; simp at h; subst h; rfl
    · rfl
/-- The rows' block is not the table's, nor the parts'. -/
theorem TabP.ne {w : World} {B tp : Nat} {v : Value} {P : List (Rw × Value)} (h : TabP w B tp v P) : v.ownBlock ≠ some tp := by
  obtain ⟨_, ⟨rfl, _⟩ | ⟨g, cap, cur, rfl, hb, hh, _⟩⟩ := h.row
  · simp [Value.ownBlock]
  · simp [Value.ownBlock]
    rintro rfl
    have hb := h.box
    rw [hh] at hb
    simp at hb
theorem TabP.cls {w : World} {B tp g cap : Nat} {P : List (Rw × Value)} (h : TabP w B tp (.slice (some ⟨g, 0, none⟩) P.length cap) P) (k : Nat) (hk : k < P.length) (c : Nat) :
    TabP (w.setCell ⟨g, k * 4 + 3, none⟩ (.int .i64 c)) B tp (.slice (some ⟨g, 0, none⟩) P.length cap) (P.set k ({ P[k].1 with cls := c }, P[k].2)) := by
  have hne := h.ne
  simp [Value.ownBlock] at hne
  refine ⟨?_, h.high, ?_, ?_⟩
  · rw [heap_setCell_other _ _ _ _ (by simpa using fun e => hne e.symm), h.box]
  · have r := (h.row.stored (k * 4 + 3) (.int .i64 c)).1
    rw [rowCells_cls P k hk c] at r
    simpa using r
  · intro p hp
    have key : ∀ q ∈ P, (w.setCell ⟨g, k * 4 + 3, none⟩ (.int .i64 c)).ownsRow B 3 1 q.2 q.1.parts.length (q.1.parts.map fun x : Nat => Value.int .i64 x) := fun q hq =>
      own_setC (h.parts q hq) (by
        rcases own_apart (h.parts q hq) h.row (by decide) with e | e
        · rw [e]; simp
        · exact fun e' => e (by rw [← e']; rfl)) _
    rcases List.mem_or_eq_of_mem_set hp with hp | rfl
    · exact key p hp
    · exact key P[k] (List.getElem_mem _)
theorem TabP.frozen {w : World} {B tp g cap : Nat} {P : List (Rw × Value)} (h : TabP w B tp (.slice (some ⟨g, 0, none⟩) P.length cap) P) (j : Nat) : w.frozen? ⟨g, j, none⟩ = false := h.row.frozenAt j

set_option maxHeartbeats 2000000 in
theorem tjoin_any (B tp : Nat) (v : Value) (P : List (Rw × Value)) (a b : Nat) (ha : a < P.length) (hb : b < P.length) (w : World) (h : TabP w B tp v P) (hf : P.length ≤ 1000000) :
    Calls Tryd.prog 62 #[.pointer (some ⟨tp, 0, none⟩), .int .i64 a, .int .i64 b] w fun e w' => e = .returned (.bool (decide (P[a].1.cls ≠ P[b].1.cls))) ∧ TabP w' B tp v (joinP P P[a].1.cls P[b].1.cls) ∧ w.grownBy w' v.ownBlock := by
  obtain ⟨o, cap, rfl, hc⟩ := h.shape
  have hcell := h.cell
  obtain ⟨g, rfl, q1, q2, q3, ea⟩ := hc a ha
  obtain ⟨g', hg', q4, q5, q6, eb⟩ := hc b hb
  clear q1 q2 q3 q4 q5 q6
  simp at hg'
  subst hg'
  have hai : (a : Int) < (P.length : Int) := by omega
  have hbi : (b : Int) < (P.length : Int) := by omega
  generalize P[a].1.cls = x at *
  generalize P[b].1.cls = y at *
  have HT := hide h
  clear h hc
  by_cases hxy : x = y
  · subst hxy
    have HJ := hide (joinP_same P x)
    go_enter Tryd.func62, Tryd.ntmps62
    go_wp2
    go_ret
    exact ⟨ret_bool (by simp), by rw [HJ.out]; exact HT.out, ⟨rfl, rfl, rfl, Nat.le_refl _, fun _ _ _ => rfl⟩⟩
  · have hxy' : ¬ ((x : Int) = (y : Int)) := by omega
    go_enter Tryd.func62, Tryd.ntmps62
    go_wp2
    go_loopw [9] (fun i wr => ∃ k : Nat, k ≤ P.length ∧ i = .int .i64 k ∧ TabP wr B tp (.slice (some ⟨g, 0, none⟩) P.length cap) (joinTo P x y k) ∧ w.grownBy wr (some g)) (fun i _ => P.length - (intOf i).toNat)
    case atStart => exact ⟨0, Nat.zero_le _, rfl, by rw [joinTo_zero]; exact HT.out, ⟨rfl, rfl, rfl, Nat.le_refl _, fun _ _ _ => rfl⟩⟩
    case round =>
      obtain ⟨k, hk, rfl, hT, hg⟩ := hrel
      have c1 := hT.cell
      have hlen := joinTo_length P x y k
      by_cases hlt : k < P.length
      · have hlti : (k : Int) < (P.length : Int) := by omega
        obtain ⟨o', cap', e', hc'⟩ := hT.shape
        obtain ⟨g2, rfl, q1, q2, q3, e3⟩ := hc' k (by omega)
        simp at e'
        obtain ⟨rfl, q4, rfl⟩ := e'
        clear q1 q2 q3 q4
        have hat := joinTo_at P x y k hlt (by omega)
        rw [hat] at e3
        have hcl := TabP.cls (P := joinTo P x y k) (cap := cap) (by rw [hlen]; exact hT) k (by omega) x
        rw [hat, hlen] at hcl
        have hfz := TabP.frozen (P := joinTo P x y k) (cap := cap) (by rw [hlen]; exact hT) (k * 4 + 3)
        have hsu := joinTo_succ P x y k hlt
        have HT1 := hide hT
        have HCL := hide hcl
        have HG := hide hg
        have hcv : ∀ c, P[k].1.cls = c → c = y → toCls x y P[k] = ({ P[k].1 with cls := x }, P[k].2) := fun c h1 h2 => by unfold toCls; rw [if_pos (h1.trans h2)]
        have hcn : ∀ c, P[k].1.cls = c → c ≠ y → toCls x y P[k] = P[k] := fun c h1 h2 => by unfold toCls; rw [if_neg (by rw [h1]; exact h2)]
        have HCV := hide hcv
        have hsn : ∀ c, P[k].1.cls = c → c ≠ y → joinTo P x y (k + 1) = joinTo P x y k := fun c h1 h2 => by rw [hsu, hcn c h1 h2, ← hat, List.set_getElem_self]
        have HSN := hide hsn
        have HSU := hide hsu
        generalize hcl' : P[k].1.cls = cl at e3
        have HC1 := hide hcl'
        clear hT hcl hg hcv hcn hsn hsu hat hcl' hc' hlen
        by_cases hcy : cl = y
        · subst hcy
          go_wp2
          go_roundw
          case rel =>
            refine ⟨k + 1, by omega, by go_num, ?_, HG.out.trans (grown_setCell _ _ _)⟩
            rw [HSU.out, HCV.out _ HC1.out rfl]
            exact HCL.out
          case measure => simp [intOf]; omega
        · have hcy' : ¬ ((cl : Int) = (y : Int)) := by omega
          go_wp2
          go_roundw
          case rel =>
            refine ⟨k + 1, by omega, by go_num, ?_, HG.out⟩
            rw [HSN.out _ HC1.out hcy]
            exact HT1.out
          case measure => simp [intOf]; omega
      · have hlti : ¬ ((k : Int) < (P.length : Int)) := by omega
        have hke : k = P.length := by omega
        rw [hke, joinTo_all] at hT
        have HT1 := hide hT
        have HG := hide hg
        clear hT hg
        go_wp2
        go_ret
        exact ⟨ret_bool (by simp), HT1.out, HG.out⟩

end Go.Proofs.YtjnddclkdofgdaaDoor

namespace Go.Proofs.YtjnddclkdofgdaaDoor
open Go.RowKit Go.Shelf Go.WideMaps
set_option maxRecDepth 100000

abbrev Tb := List (Rw × Value)
def grOf (P : Tb) : Gr := ⟨fun i => if h : i < P.length then P[i].1.node else (⟨#[]⟩, 0), fun i => if h : i < P.length then P[i].1.parts else []⟩
/-- Rows of one class. -/
def clsR (P : Tb) (i j : Nat) : Prop := i = j ∨ ∃ (hi : i < P.length) (hj : j < P.length), P[i].1.cls = P[j].1.cls
/-- Parts and classes are rows. -/
structure TabOk (P : Tb) : Prop where
  parts : ∀ i (h : i < P.length), ∀ q ∈ P[i].1.parts, q < P.length
  cls : ∀ i (h : i < P.length), P[i].1.cls < P.length
  ary : ∀ i (h : i < P.length), varB P[i].1.node = false → (P[i].1.parts.length : Int) = P[i].1.node.2
theorem joinP_length (P : Tb) (x y : Nat) : (joinP P x y).length = P.length := by simp [joinP]
theorem joinP_at (P : Tb) (x y i : Nat) (h : i < P.length) (h' : i < (joinP P x y).length) : (joinP P x y)[i] = toCls x y P[i] := by simp [joinP]
theorem grOf_join (P : Tb) (x y : Nat) : grOf (joinP P x y) = grOf P := by
  unfold grOf
  congr 1
  · funext i
    by_cases h : i < P.length
    · simp only [joinP_length, dif_pos h, joinP_at P x y i h, (toCls_parts x y _).2.2]
    · simp only [joinP_length, dif_neg h]
  · funext i
    by_cases h : i < P.length
    · simp only [joinP_length, dif_pos h, joinP_at P x y i h, (toCls_parts x y _).2.1]
    · simp only [joinP_length, dif_neg h]
theorem grOf_named {P : Tb} {i : Nat} (h : (grOf P).named i) : ∃ h : i < P.length, varB P[i].1.node = false := by
  unfold Gr.named grOf at h
  simp only at h
  by_cases hl : i < P.length
  · rw [dif_pos hl] at h; exact ⟨hl, h⟩
  · rw [dif_neg hl, varB_new] at h; cases h
theorem grOf_lab (P : Tb) (i : Nat) (h : i < P.length) : (grOf P).lab i = P[i].1.node := by simp [grOf, h]
theorem grOf_ch (P : Tb) (i : Nat) (h : i < P.length) : (grOf P).ch i = P[i].1.parts := by simp [grOf, h]
theorem toCls_cls (x y : Nat) (p : Rw × Value) : (toCls x y p).1.cls = if p.1.cls = y then x else p.1.cls := by unfold toCls; split <;> simp_all
theorem TabOk.join {P : Tb} (h : TabOk P) (x y : Nat) (hx : x < P.length) : TabOk (joinP P x y) := by
  refine ⟨fun i hi q hq => ?_, fun i hi => ?_, fun i hi hv => ?_⟩
  · rw [joinP_length] at hi ⊢
    rw [joinP_at P x y i hi, (toCls_parts x y _).2.1] at hq
    exact h.parts i hi q hq
  · rw [joinP_length] at hi ⊢
    rw [joinP_at P x y i hi, toCls_cls]
    split
    · exact hx
    · exact h.cls i hi
  · have hi' := hi
    rw [joinP_length] at hi
    rw [joinP_at P x y i hi, (toCls_parts x y _).2.2] at hv ⊢
    rw [(toCls_parts x y _).2.1]
    exact h.ary i hi hv
theorem TabOk.arity {P : Tb} (h : TabOk P) : (grOf P).Arity := by
  intro i j hi hj e
  obtain ⟨h1, v1⟩ := grOf_named hi
  obtain ⟨h2, v2⟩ := grOf_named hj
  rw [grOf_lab P i h1, grOf_lab P j h2] at e
  rw [grOf_ch P i h1, grOf_ch P j h2]
  have a := h.ary i h1 v1
  have b := h.ary j h2 v2
  rw [e] at a
  omega
theorem clsR.refl (P : Tb) (i : Nat) : clsR P i i := Or.inl rfl
theorem clsR.symm {P : Tb} {i j : Nat} (h : clsR P i j) : clsR P j i := by
  rcases h with rfl | ⟨a, b, e⟩
  · exact Or.inl rfl
  · exact Or.inr ⟨b, a, e.symm⟩
theorem clsR.trans {P : Tb} {i j k : Nat} (h : clsR P i j) (h' : clsR P j k) : clsR P i k := by
  rcases h with rfl | ⟨a, b, e⟩
  · exact h'
  · rcases h' with rfl | ⟨c, d, e'⟩
    · exact Or.inr ⟨a, b, e⟩
    · exact Or.inr ⟨a, d, e.trans e'⟩
theorem clsR.iff {P : Tb} {i j : Nat} (hi : i < P.length) (hj : j < P.length) : clsR P i j ↔ P[i].1.cls = P[j].1.cls := by
  constructor
  · rintro (rfl | ⟨_, _, e⟩)
    · rfl
    · exact e
  · intro e; exact Or.inr ⟨hi, hj, e⟩
/-- What is joined was to be the same. -/
theorem join_sound {P : Tb} {C : Nat → Nat → Prop} (hs : ∀ i j, clsR P i j → C i j) (h1 : ∀ i j, C i j → C j i) (h2 : ∀ i j k, C i j → C j k → C i k) {u v : Nat} (hu : u < P.length) (hv : v < P.length) (huv : C u v) (i j : Nat) (h : clsR (joinP P P[u].1.cls P[v].1.cls) i j) : C i j := by
  rcases h with rfl | ⟨a, b, e⟩
  · exact hs i i (Or.inl rfl)
  · rw [joinP_length] at a b
    rw [joinP_at _ _ _ i a, joinP_at _ _ _ j b, toCls_cls, toCls_cls] at e
    have iv : P[i].1.cls = P[v].1.cls → C i v := fun e => hs i v (Or.inr ⟨a, hv, e⟩)
    have jv : P[j].1.cls = P[v].1.cls → C j v := fun e => hs j v (Or.inr ⟨b, hv, e⟩)
    have iu : P[i].1.cls = P[u].1.cls → C i u := fun e => hs i u (Or.inr ⟨a, hu, e⟩)
    have ju : P[j].1.cls = P[u].1.cls → C j u := fun e => hs j u (Or.inr ⟨b, hu, e⟩)
    by_cases hi : P[i].1.cls = P[v].1.cls
    · by_cases hj : P[j].1.cls = P[v].1.cls
      · exact h2 _ _ _ (iv hi) (h1 _ _ (jv hj))
      · rw [if_pos hi, if_neg hj] at e
        exact h2 _ _ _ (h2 _ _ _ (iv hi) (h1 _ _ huv)) (h1 _ _ (ju e.symm))
    · by_cases hj : P[j].1.cls = P[v].1.cls
      · rw [if_neg hi, if_pos hj] at e
        exact h2 _ _ _ (h2 _ _ _ (iu e) huv) (h1 _ _ (jv hj))
      · rw [if_neg hi, if_neg hj] at e
        exact hs i j (Or.inr ⟨a, b, e⟩)
theorem join_mono {P : Tb} {x y i j : Nat} (h : clsR P i j) : clsR (joinP P x y) i j := by
  rcases h with rfl | ⟨a, b, e⟩
  · exact Or.inl rfl
  · refine Or.inr ⟨by rw [joinP_length]; exact a, by rw [joinP_length]; exact b, ?_⟩
    rw [joinP_at _ _ _ i a, joinP_at _ _ _ j b, toCls_cls, toCls_cls, e]
theorem join_base {P : Tb} {u v : Nat} (hu : u < P.length) (hv : v < P.length) : clsR (joinP P P[u].1.cls P[v].1.cls) u v := by
  refine Or.inr ⟨by rw [joinP_length]; exact hu, by rw [joinP_length]; exact hv, ?_⟩
  rw [joinP_at _ _ _ u hu, joinP_at _ _ _ v hv, toCls_cls, toCls_cls, if_pos rfl]
  split <;> rfl
/-- What holds while classes are joined. -/
structure SameI (P0 : Tb) (B : Nat → Nat → Prop) (P : Tb) : Prop where
  gr : grOf P = grOf P0
  len : P.length = P0.length
  ok : TabOk P
  sound : ∀ i j, clsR P i j → Cl (grOf P0) B i j
  base : ∀ i j, B i j → clsR P i j
theorem SameI.join {P0 P : Tb} {B : Nat → Nat → Prop} (h : SameI P0 B P) {u v : Nat} (hu : u < P.length) (hv : v < P.length) (huv : Cl (grOf P0) B u v) : SameI P0 B (joinP P P[u].1.cls P[v].1.cls) :=
  ⟨by rw [grOf_join, h.gr], by rw [joinP_length, h.len], h.ok.join _ _ (h.ok.cls u hu), join_sound h.sound (fun _ _ => Cl.symm) (fun _ _ _ => Cl.trans) hu hv huv, fun i j hb => join_mono (h.base i j hb)⟩
/-- Two rows need nothing more. -/
def Fine (P : Tb) (i k : Nat) : Prop := ∀ (hi : i < P.length) (hk : k < P.length), P[i].1.cls = P[k].1.cls → varB P[i].1.node = false → varB P[k].1.node = false → P[i].1.node = P[k].1.node ∧ ∀ p q r : Nat, P[i].1.parts[p]? = some q → P[k].1.parts[p]? = some r → clsR P q r
theorem SameI.done {P0 P : Tb} {B : Nat → Nat → Prop} (h : SameI P0 B P) (hf : ∀ i k, k < i → i < P.length → Fine P i k) : (∀ i j, clsR P i j ↔ Cl (grOf P0) B i j) ∧ NoClash (grOf P0) (Cl (grOf P0) B) := by
  have hfs : ∀ i k, i ≠ k → (hi : i < P.length) → (hk : k < P.length) → P[i].1.cls = P[k].1.cls → varB P[i].1.node = false → varB P[k].1.node = false → P[i].1.node = P[k].1.node ∧ ∀ p q r : Nat, P[i].1.parts[p]? = some q → P[k].1.parts[p]? = some r → clsR P q r := by
    intro i k hne hi hk e v1 v2
    by_cases hlt : k < i
    · exact hf i k hlt hi hi hk e v1 v2
    · obtain ⟨a, b⟩ := hf k i (by omega) hk hk hi e.symm v2 v1
      exact ⟨a.symm, fun p q r h1 h2 => (b p r q h2 h1).symm⟩
  have hd : Down (grOf P0) (clsR P) := by
    refine ⟨clsR.refl P, fun _ _ => clsR.symm, fun _ _ _ => clsR.trans, fun i j k p q hij hi hj hp hq => ?_⟩
    rw [← h.gr] at hi hj hp hq
    obtain ⟨h1, v1⟩ := grOf_named hi
    obtain ⟨h2, v2⟩ := grOf_named hj
    by_cases hne : i = j
    · subst hne; rw [hp] at hq; simp at hq; exact Or.inl hq
    · rw [grOf_ch P i h1] at hp
      rw [grOf_ch P j h2] at hq
      exact (hfs i j hne h1 h2 ((clsR.iff h1 h2).1 hij) v1 v2).2 k p q hp hq
  have hiff : ∀ i j, clsR P i j ↔ Cl (grOf P0) B i j := fun i j => ⟨h.sound i j, Cl.le hd h.base⟩
  refine ⟨hiff, fun i j hij hi hj => ?_⟩
  have hij' := (hiff i j).2 hij
  rw [← h.gr] at hi hj ⊢
  obtain ⟨h1, v1⟩ := grOf_named hi
  obtain ⟨h2, v2⟩ := grOf_named hj
  rw [grOf_lab P i h1, grOf_lab P j h2]
  by_cases hne : i = j
  · subst hne; rfl
  · exact (hfs i j hne h1 h2 ((clsR.iff h1 h2).1 hij') v1 v2).1
theorem SameI.clash {P0 P : Tb} {B : Nat → Nat → Prop} (h : SameI P0 B P) {i k : Nat} (hi : i < P.length) (hk : k < P.length) (e : P[i].1.cls = P[k].1.cls) (v1 : varB P[i].1.node = false) (v2 : varB P[k].1.node = false) (hn : P[i].1.node ≠ P[k].1.node) : ¬ NoClash (grOf P0) (Cl (grOf P0) B) := by
  intro n
  have hij := h.sound i k (Or.inr ⟨hi, hk, e⟩)
  rw [← h.gr] at n
  have n1 : (grOf P).named i := by show varB ((grOf P).lab i) = false; rw [grOf_lab P i hi]; exact v1
  have n2 : (grOf P).named k := by show varB ((grOf P).lab k) = false; rw [grOf_lab P k hk]; exact v2
  have := n i k (by rw [h.gr]; exact hij) n1 n2
  rw [grOf_lab P i hi, grOf_lab P k hk] at this
  exact hn this

/-- How many classes there are. -/
def clsN (n : Nat) (l : List Nat) : Nat := (List.range n).countP fun c => l.contains c
theorem countP_lt {α : Type} (l : List α) (p q : α → Bool) (h : ∀ x ∈ l, p x = true → q x = true) (x : α) (hx : x ∈ l) (hp : p x = false) (hq : q x = true) : l.countP p < l.countP q := by
  induction l with
  | nil => simp at hx
  | cons y r ih =>
    have hr : r.countP p ≤ r.countP q := List.countP_mono_left fun z hz => h z (by simp [hz])
    rcases List.mem_cons.1 hx with rfl | hx
    · rw [List.countP_cons, List.countP_cons, hp, hq]; simp; omega
    · have := ih (fun z hz => h z (by simp [hz])) hx
      rw [List.countP_cons, List.countP_cons]
      have hy := h y (by simp)
      cases hpy : p y
      · cases q y <;> simp <;> omega
      · rw [hy hpy]; simp; omega
theorem clsN_join {P : Tb} (hok : TabOk P) {u v : Nat} (hu : u < P.length) (hv : v < P.length) (hne : P[u].1.cls ≠ P[v].1.cls) : clsN P.length ((joinP P P[u].1.cls P[v].1.cls).map fun p => p.1.cls) < clsN P.length (P.map fun p => p.1.cls) := by
  unfold clsN
  refine countP_lt _ _ _ ?_ P[v].1.cls (by simp; exact hok.cls v hv) ?_ ?_
  · intro c _ hc
    simp only [List.contains_iff_mem, List.mem_map] at hc ⊢
    obtain ⟨p, hp, rfl⟩ := hc
    obtain ⟨q, hq, rfl⟩ := List.mem_map.1 hp
    rw [toCls_cls]
    split
    · exact ⟨P[u], List.getElem_mem _, rfl⟩
    · exact ⟨q, hq, rfl⟩
  · rw [← Bool.not_eq_true]
    simp only [List.contains_iff_mem, List.mem_map]
    rintro ⟨p, hp, e⟩
    obtain ⟨q, hq, rfl⟩ := List.mem_map.1 hp
    rw [toCls_cls] at e
    split at e
    · exact hne e
    · rename_i h; exact h e
  · simp only [List.contains_iff_mem, List.mem_map]
    exact ⟨P[v], List.getElem_mem _, rfl⟩

end Go.Proofs.YtjnddclkdofgdaaDoor
