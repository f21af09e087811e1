/- The program's terms while one more is put behind the others: plain words. The program: one more term is put behind the others. The program: what join means; the parts of a place are asked for. -/
import Derived.Test.YtjnddclkdofgdaaDoorUKeyM
import Derived.Test.YtjnddclkdofgdaaDoorUParts
import Derived.Test.YtjnddclkdofgdaaDoorPTermM
import Derived.Deep.RegionHeld3
namespace Go.Proofs.YtjnddclkdofgdaaDoor
open Go.RowKit Go.Shelf Go.WideMaps
set_option maxRecDepth 100000

theorem whole_term {t : List Nd} {q : Nat} (h : termGo t q = true) : Whole t := by
  intro i n hi
  have hf := full_of_term t q h
  have he : endGo t q = t.length := by have := term_end t q [] h; simpa using this
  have hil := (List.getElem?_eq_some_iff.1 hi).1
  obtain ⟨m, h1, h2, _⟩ := full_at t q i hf (by omega)
  rw [hi] at h1
  simp at h1
  subst h1
  exact h2
theorem Whole.append {L t : List Nd} (h : Whole L) (k : Whole t) : Whole (L ++ t) := by
  intro i n hi
  by_cases hlt : i < L.length
  · rw [List.getElem?_append_left hlt] at hi
    rw [List.drop_append_of_le_length (by omega)]
    exact full_append _ _ _ (h i n hi)
  · rw [List.getElem?_append_right (by omega)] at hi
    rw [List.drop_append, List.drop_eq_nil_of_le (by omega), List.nil_append, show i + 1 - L.length = (i - L.length) + 1 by omega]
    exact k _ n hi
theorem Whole.one {L : List Nd} (h : Whole L) {p : Nat} (hp : p < L.length) : fullT (L.drop p) 1 := by
  rw [List.drop_eq_getElem_cons hp]
  simp only [fullT]
  rw [Nat.zero_add]
  exact h p _ (List.getElem?_eq_getElem hp)
theorem endsL_append {L t : List Nd} (h : Whole L) : endsL (L ++ t) = endsL L ++ (endsL t).map (· + L.length) := by
  apply List.ext_getElem?
  intro p
  by_cases hp : p < L.length
  · rw [endsL_at _ _ (by simp; omega), List.getElem?_append_left (by rw [endsL_length]; exact hp), endsL_at _ _ hp, List.drop_append_of_le_length (by omega), endGo_append _ _ _ (h.one hp)]
  · rw [List.getElem?_append_right (by rw [endsL_length]; omega), endsL_length]
    by_cases hq : p - L.length < t.length
    · rw [endsL_at _ _ (by simp; omega), List.getElem?_map, endsL_at _ _ hq, List.drop_append, List.drop_eq_nil_of_le (by omega), List.nil_append]
      simp
      omega
    · rw [List.getElem?_eq_none (by rw [endsL_length]; simp; omega), List.getElem?_eq_none (by simp [endsL_length]; omega)]
/-- The leaders that the first k nodes of a term get. -/
def leadsTo (M : List Tg) (o : Int) (t : List Nd) (k : Nat) : List Nat := (List.range k).map fun j => leadFor (M ++ (t.take j).map fun n => (o, n)) o (t.getD j (⟨#[]⟩, 0))
theorem leadsTo_length (M : List Tg) (o : Int) (t : List Nd) (k : Nat) : (leadsTo M o t k).length = k := by simp [leadsTo]
theorem leadsTo_succ (M : List Tg) (o : Int) (t : List Nd) (k : Nat) (h : k < t.length) : leadsTo M o t (k + 1) = leadsTo M o t k ++ [leadFor (M ++ (t.take k).map fun n => (o, n)) o t[k]] := by
  simp [leadsTo, List.range_succ, h]
theorem tags_succ (M : List Tg) (o : Int) (t : List Nd) (k : Nat) (h : k < t.length) : (M ++ (t.take k).map fun n => (o, n)) ++ [(o, t[k])] = M ++ (t.take (k + 1)).map fun n => (o, n) := by
  rw [List.take_succ_eq_append_getElem h, List.map_append, List.append_assoc]; rfl

/-- The ends while they are written, from the last one on. -/
def eL (L t : List Nd) (j : Nat) : List Nat := endsL L ++ (List.replicate j 0 ++ ((endsL t).map (· + L.length)).drop j)
theorem eL_length (L t : List Nd) (j : Nat) (h : j ≤ t.length) : (eL L t j).length = L.length + t.length := by simp [eL, endsL_length]; omega
theorem eL_start (L t : List Nd) : eL L t t.length = endsL L ++ List.replicate t.length 0 := by
  unfold eL
  rw [List.drop_eq_nil_of_le (by simp [endsL_length]), List.append_nil]
theorem eL_done {L t : List Nd} (h : Whole L) : eL L t 0 = endsL (L ++ t) := by rw [endsL_append h]; simp [eL]
theorem eL_get (L t : List Nd) (j e : Nat) (h1 : j ≤ e) (h2 : e < t.length) : (eL L t j)[L.length + e]? = some (L.length + (e + endGo (t.drop e) 1)) := by
  unfold eL
  rw [List.getElem?_append_right (by rw [endsL_length]; omega), endsL_length, List.getElem?_append_right (by simp; omega), List.getElem?_drop]
  rw [show j + (L.length + e - L.length - (List.replicate j 0).length) = e by simp; omega, List.getElem?_map, endsL_at _ _ h2]
  simp
  omega
theorem eL_mid (L t : List Nd) (j p : Nat) (h1 : L.length ≤ p) (h2 : p < L.length + j) : (eL L t j)[p]? = some 0 := by
  unfold eL
  rw [List.getElem?_append_right (by rw [endsL_length]; omega), endsL_length, List.getElem?_append_left (by simp; omega), List.getElem?_replicate, if_pos (by omega)]
theorem eL_set (L t : List Nd) (q : Nat) (h : q < t.length) : (eL L t (q + 1)).set (L.length + q) (L.length + (q + endGo (t.drop q) 1)) = eL L t q := by
  apply List.ext_getElem?
  intro p
  rw [List.getElem?_set]
  by_cases hp : L.length + q = p
  · subst hp
    rw [if_pos rfl, if_pos (by rw [eL_length _ _ _ (by omega)]; omega), eL_get _ _ _ _ (Nat.le_refl _) h]
  · rw [if_neg hp]
    by_cases hlo : p < L.length
    · unfold eL
      rw [List.getElem?_append_left (by rw [endsL_length]; exact hlo), List.getElem?_append_left (by rw [endsL_length]; exact hlo)]
    · by_cases hmid : p < L.length + q
      · rw [eL_mid _ _ _ _ (by omega) (by omega), eL_mid _ _ _ _ (by omega) (by omega)]
      · by_cases hhi : p < L.length + t.length
        · have e : p = L.length + (p - L.length) := by omega
          rw [e, eL_get _ _ _ _ (by omega) (by omega), eL_get _ _ _ _ (by omega) (by omega)]
        · rw [List.getElem?_eq_none (by rw [eL_length _ _ _ (by omega)]; omega), List.getElem?_eq_none (by rw [eL_length _ _ _ (by omega)]; omega)]

/-- The lists, each of its own length. -/
structure TmRaw (w : World) (B tb : Nat) (vn ve vl vs vm : Value) (L : List Nd) (E F : List Nat) (S : List Int) : Prop where
  box : w.heap[tb]? = some (.cells #[vn, ve, vl, vs, vm] 123)
  high : B ≤ tb
  rn : w.ownsRow B 27 2 vn L.length (nodeCells L)
  re : w.ownsRow B 3 1 ve E.length (natC E)
  rl : w.ownsRow B 3 1 vl F.length (natC F)
  rs : w.ownsRow B 3 1 vs S.length (S.map (Value.int .i64))
  ab : ve.ownBlock ≠ vl.ownBlock
  ac : ve.ownBlock ≠ vs.ownBlock
  bc : vl.ownBlock ≠ vs.ownBlock
  ne : ve.ownBlock ≠ none
  nl : vl.ownBlock ≠ none
  ns : vs.ownBlock ≠ none
section
variable {w : World} {B tb : Nat} {vn ve vl vs vm : Value} {L : List Nd} {E F : List Nat} {S : List Int}
theorem TmRaw.below (h : TmRaw w B tb vn ve vl vs vm L E F S) {wx : World} (k : Below w.heap.size w wx) : TmRaw wx B tb vn ve vl vs vm L E F S :=
  ⟨by rw [k.block tb (Array.getElem?_eq_some_iff.1 h.box).1, h.box], h.high, own_below h.rn k (Nat.le_refl _), own_below h.re k (Nat.le_refl _), own_below h.rl k (Nat.le_refl _), own_below h.rs k (Nat.le_refl _), h.ab, h.ac, h.bc, h.ne, h.nl, h.ns⟩
theorem TmRaw.lt (h : TmRaw w B tb vn ve vl vs vm L E F S) : tb < w.heap.size := (Array.getElem?_eq_some_iff.1 h.box).1
theorem TmRaw.cells (h : TmRaw w B tb vn ve vl vs vm L E F S) : w.cell? ⟨tb, 0, none⟩ = some vn ∧ w.cell? ⟨tb, 1, none⟩ = some ve ∧ w.cell? ⟨tb, 2, none⟩ = some vl ∧ w.cell? ⟨tb, 3, none⟩ = some vs ∧ w.cell? ⟨tb, 4, none⟩ = some vm := by
  simp [World.cell?, h.box]
theorem TmRaw.soft (h : TmRaw w B tb vn ve vl vs vm L E F S) (j : Nat) : w.frozen? ⟨tb, j, none⟩ = false := by simp [World.frozen?, h.box]
theorem own_lt' {w : World} {B : Nat} {e : TypeId} {size : Nat} {v : Value} {n : Nat} {xs : List Value} (h : w.ownsRow B e size v n xs) : v.ownBlock ≠ some w.heap.size := fun e => by have := (own_lt h _ e).2; omega
/-- What is no block of theirs may turn. -/
theorem TmRaw.grown (h : TmRaw w B tb vn ve vl vs vm L E F S) {wx : World} {o : Option Nat} (hg : w.grownBy wx o) (h0 : o ≠ some tb) (h1 : vn.ownBlock = none ∨ vn.ownBlock ≠ o) (h2 : ve.ownBlock = none ∨ ve.ownBlock ≠ o) (h3 : vl.ownBlock = none ∨ vl.ownBlock ≠ o) (h4 : vs.ownBlock = none ∨ vs.ownBlock ≠ o) : TmRaw wx B tb vn ve vl vs vm L E F S :=
  ⟨by rw [hg.block tb (Array.getElem?_eq_some_iff.1 h.box).1 (fun e => h0 e.symm), h.box], h.high, own_grown h.rn hg h1, own_grown h.re hg h2, own_grown h.rl hg h3, own_grown h.rs hg h4, h.ab, h.ac, h.bc, h.ne, h.nl, h.ns⟩
theorem box_set5 {w : World} {tb : Nat} {c0 c1 c2 c3 c4 x : Value} {T : TypeId} (h : w.heap[tb]? = some (.cells #[c0, c1, c2, c3, c4] T)) :
    ((w.setCell ⟨tb, 0, none⟩ x).heap[tb]? = some (.cells #[x, c1, c2, c3, c4] T)) ∧ ((w.setCell ⟨tb, 1, none⟩ x).heap[tb]? = some (.cells #[c0, x, c2, c3, c4] T)) ∧ ((w.setCell ⟨tb, 2, none⟩ x).heap[tb]? = some (.cells #[c0, c1, x, c3, c4] T)) ∧ ((w.setCell ⟨tb, 3, none⟩ x).heap[tb]? = some (.cells #[c0, c1, c2, x, c4] T)) := by
  have hlt := (Array.getElem?_eq_some_iff.1 h).1
  have hv := (Array.getElem?_eq_some_iff.1 h).2
  refine ⟨?_, ?_, ?_, ?_⟩ <;> simp [World.setCell, Array.getElem?_modify, h]
theorem own_setB {w : World} {B tb j : Nat} {e T : TypeId} {size : Nat} {v x : Value} {n : Nat} {xs : List Value} {cs : Array Value} (h : w.ownsRow B e size v n xs) (hb : w.heap[tb]? = some (.cells cs T)) (he : e ≠ T) : (w.setCell ⟨tb, j, none⟩ x).ownsRow B e size v n xs :=
  own_setC h (fun e' => own_ne_box h hb he e'.symm) x
/-- The struct stays while a row grows. -/
theorem TmRaw.stays (h : TmRaw w B tb vn ve vl vs vm L E F S) (o : Obj) {w2 : World} {r : Option Nat} (hg : (w.alloc o).grownBy w2 r) (hr : r ≠ some tb) : w2.heap[tb]? = some (.cells #[vn, ve, vl, vs, vm] 123) := by
  rw [hg.block tb (by have := h.lt; simp; omega) (fun e => hr e.symm)]
  exact (h.below ((Below.refl _ _).alloc (Nat.le_refl _) o)).box
theorem box5 {w : World} {tb : Nat} {c0 c1 c2 c3 c4 : Value} {T : TypeId} (h : w.heap[tb]? = some (.cells #[c0, c1, c2, c3, c4] T)) : w.cell? ⟨tb, 0, none⟩ = some c0 ∧ w.cell? ⟨tb, 1, none⟩ = some c1 ∧ w.cell? ⟨tb, 2, none⟩ = some c2 ∧ w.cell? ⟨tb, 3, none⟩ = some c3 ∧ ∀ j, w.frozen? ⟨tb, j, none⟩ = false := by
  simp [World.cell?, World.frozen?, h]
theorem TmRaw.stays2 (h : TmRaw w B tb vn ve vl vs vm L E F S) (o : Obj) {w2 : World} (hg : (w.alloc o).grownBy w2 vl.ownBlock) : w2.cell? ⟨tb, 2, none⟩ = some vl ∧ w2.frozen? ⟨tb, 2, none⟩ = false := by
  have := box5 (h.stays o hg (own_ne_box h.rl h.box (by decide)))
  exact ⟨this.2.2.1, this.2.2.2.2 2⟩
theorem TmRaw.stays0 (h : TmRaw w B tb vn ve vl vs vm L E F S) (o : Obj) {w2 : World} (hg : (w.alloc o).grownBy w2 vn.ownBlock) : w2.cell? ⟨tb, 0, none⟩ = some vn ∧ w2.frozen? ⟨tb, 0, none⟩ = false := by
  have := box5 (h.stays o hg (own_ne_box h.rn h.box (by decide)))
  exact ⟨this.1, this.2.2.2.2 0⟩
/-- The leaders grow. -/
theorem TmRaw.leads (h : TmRaw w B tb vn ve vl vs vm L E F S) {w1 : World} {v' : Value} {x : Nat} (hg : w.grownBy w1 vl.ownBlock) (ho : w1.ownsRow B 3 1 v' (F.length + 1) (natC F ++ [.int .i64 x])) (hw : v'.ownBlock = vl.ownBlock ∨ v'.ownBlock = some w.heap.size) :
    TmRaw (w1.setCell ⟨tb, 2, none⟩ v') B tb vn ve v' vs vm L E (F ++ [x]) S := by
  have hb1 : w1.heap[tb]? = some (.cells #[vn, ve, vl, vs, vm] 123) := by rw [hg.block tb h.lt (fun e => own_ne_box h.rl h.box (by decide) e.symm), h.box]
  have hn : vn.ownBlock = none ∨ vn.ownBlock ≠ vl.ownBlock := own_apart h.rn h.rl (by decide)
  refine ⟨(box_set5 hb1).2.2.1, h.high, own_setB (own_grown h.rn hg hn) hb1 (by decide), own_setB (own_grown h.re hg (Or.inr h.ab)) hb1 (by decide), ?_, own_setB (own_grown h.rs hg (Or.inr fun e => h.bc e.symm)) hb1 (by decide), ?_, h.ac, ?_, h.ne, ?_, h.ns⟩
  · have := own_setB (j := 2) (x := v') ho hb1 (by decide)
    simpa [natC] using this
  · rcases hw with e | e
    · rw [e]; exact h.ab
    · rw [e]; exact own_lt' h.re
  · rcases hw with e | e
    · rw [e]; exact h.bc
    · rw [e]; exact fun e' => own_lt' h.rs e'.symm
  · rcases hw with e | e
    · rw [e]; exact h.nl
    · rw [e]; simp
/-- The nodes grow. -/
theorem TmRaw.nodes (h : TmRaw w B tb vn ve vl vs vm L E F S) {w1 : World} {v' : Value} {x : Nd} (hg : w.grownBy w1 vn.ownBlock) (ho : w1.ownsRow B 27 2 v' (L ++ [x]).length (nodeCells (L ++ [x]))) :
    TmRaw (w1.setCell ⟨tb, 0, none⟩ v') B tb v' ve vl vs vm (L ++ [x]) E F S := by
  have hb1 : w1.heap[tb]? = some (.cells #[vn, ve, vl, vs, vm] 123) := by rw [hg.block tb h.lt (fun e => own_ne_box h.rn h.box (by decide) e.symm), h.box]
  refine ⟨(box_set5 hb1).1, h.high, own_setB ho hb1 (by decide), own_setB (own_grown h.re hg (own_apart h.re h.rn (by decide))) hb1 (by decide), own_setB (own_grown h.rl hg (own_apart h.rl h.rn (by decide))) hb1 (by decide), own_setB (own_grown h.rs hg (own_apart h.rs h.rn (by decide))) hb1 (by decide), h.ab, h.ac, h.bc, h.ne, h.nl, h.ns⟩
/-- The ends grow. -/
theorem TmRaw.ends (h : TmRaw w B tb vn ve vl vs vm L E F S) {w1 : World} {v' : Value} {k : Nat} (hg : w.grownBy w1 ve.ownBlock) (ho : w1.ownsRow B 3 1 v' (E.length + k) (natC E ++ List.replicate k (.int .i64 0))) (hw : v'.ownBlock = ve.ownBlock ∨ v'.ownBlock = some w.heap.size) :
    TmRaw (w1.setCell ⟨tb, 1, none⟩ v') B tb vn v' vl vs vm L (E ++ List.replicate k 0) F S := by
  have hb1 : w1.heap[tb]? = some (.cells #[vn, ve, vl, vs, vm] 123) := by rw [hg.block tb h.lt (fun e => own_ne_box h.re h.box (by decide) e.symm), h.box]
  refine ⟨(box_set5 hb1).2.1, h.high, own_setB (own_grown h.rn hg (own_apart h.rn h.re (by decide))) hb1 (by decide), ?_, own_setB (own_grown h.rl hg (Or.inr fun e => h.ab e.symm)) hb1 (by decide), own_setB (own_grown h.rs hg (Or.inr fun e => h.ac e.symm)) hb1 (by decide), ?_, ?_, h.bc, ?_, h.nl, h.ns⟩
  · have := own_setB (j := 1) (x := v') ho hb1 (by decide)
    simpa [natC] using this
  · rcases hw with e | e
    · rw [e]; exact h.ab
    · rw [e]; exact fun e' => own_lt' h.rl e'.symm
  · rcases hw with e | e
    · rw [e]; exact h.ac
    · rw [e]; exact fun e' => own_lt' h.rs e'.symm
  · rcases hw with e | e
    · rw [e]; exact h.ne
    · rw [e]; simp
/-- The sizes grow. -/
theorem TmRaw.sizes (h : TmRaw w B tb vn ve vl vs vm L E F S) {w1 : World} {v' : Value} {k : Nat} (hg : w.grownBy w1 vs.ownBlock) (ho : w1.ownsRow B 3 1 v' (S.length + k) (S.map (Value.int .i64) ++ List.replicate k (.int .i64 0))) (hw : v'.ownBlock = vs.ownBlock ∨ v'.ownBlock = some w.heap.size) :
    TmRaw (w1.setCell ⟨tb, 3, none⟩ v') B tb vn ve vl v' vm L E F (S ++ List.replicate k 0) := by
  have hb1 : w1.heap[tb]? = some (.cells #[vn, ve, vl, vs, vm] 123) := by rw [hg.block tb h.lt (fun e => own_ne_box h.rs h.box (by decide) e.symm), h.box]
  refine ⟨(box_set5 hb1).2.2.2, h.high, own_setB (own_grown h.rn hg (own_apart h.rn h.rs (by decide))) hb1 (by decide), own_setB (own_grown h.re hg (Or.inr h.ac)) hb1 (by decide), own_setB (own_grown h.rl hg (Or.inr h.bc)) hb1 (by decide), ?_, h.ab, ?_, ?_, h.ne, h.nl, ?_⟩
  · have := own_setB (j := 3) (x := v') ho hb1 (by decide)
    simpa using this
  · rcases hw with e | e
    · rw [e]; exact h.ac
    · rw [e]; exact own_lt' h.re
  · rcases hw with e | e
    · rw [e]; exact h.bc
    · rw [e]; exact own_lt' h.rl
  · rcases hw with e | e
    · rw [e]; exact h.ns
    · rw [e]; simp
/-- One end is written. -/
theorem TmRaw.endAt {ge n ce : Nat} (h : TmRaw w B tb vn (.slice (some ⟨ge, 0, none⟩) n ce) vl vs vm L E F S) (p x : Nat) : TmRaw (w.setCell ⟨ge, p, none⟩ (.int .i64 x)) B tb vn (.slice (some ⟨ge, 0, none⟩) n ce) vl vs vm L (E.set p x) F S := by
  have hn : n = E.length := by
    obtain ⟨a, c, e⟩ := own_shape h.re
    simp at e
    exact e.2.1
  subst hn
  have hg := grown_setCell w ⟨ge, p, none⟩ (.int .i64 x)
  refine ⟨?_, h.high, own_grown h.rn hg (own_apart h.rn h.re (by decide)), ?_, own_grown h.rl hg (Or.inr fun e => h.ab e.symm), own_grown h.rs hg (Or.inr fun e => h.ac e.symm), h.ab, h.ac, h.bc, h.ne, h.nl, h.ns⟩
  · rw [hg.block tb h.lt (fun e => own_ne_box h.re h.box (by decide) e.symm), h.box]
  · have r := (h.re.stored p (.int .i64 x)).1
    rw [natC_set] at r
    simpa using r
/-- A row of nodes, as the walks read it. -/
theorem row_nodes {w : World} {B : Nat} {v : Value} {l : List Nd} (h : w.ownsRow B 27 2 v l.length (nodeCells l)) :
    ∃ a cap, v = .slice a l.length cap ∧ ∀ k n, l[k]? = some n → ∃ g, a = some ⟨g, 0, none⟩ ∧ w.cell? ⟨g, k * 2, none⟩ = some (.string n.1) ∧ w.cell? ⟨g, k * 2 + 1, none⟩ = some (.int .i64 n.2) := by
  obtain ⟨h1, ⟨rfl, h2⟩ | ⟨g, cap, cur, rfl, hb, hh, hc, hm, hz, ht⟩⟩ := h
  · refine ⟨none, 0, by rw [h2], fun k n hk => ?_⟩
    have := (List.getElem?_eq_some_iff.1 hk).1
    omega
  · have ho : w.ownsRow B 27 2 (.slice (some ⟨g, 0, none⟩) l.length cap) l.length (nodeCells l) := ⟨h1, Or.inr ⟨g, cap, cur, rfl, hb, hh, hc, hm, hz, ht⟩⟩
    refine ⟨_, _, rfl, fun k n hk => ⟨g, rfl, ?_, ?_⟩⟩
    · obtain ⟨hl, rfl⟩ := List.getElem?_eq_some_iff.1 hk
      rw [ho.cellAt (k * 2) (by omega), (nodeCells_at l k hl).1]
    · obtain ⟨hl, rfl⟩ := List.getElem?_eq_some_iff.1 hk
      rw [ho.cellAt (k * 2 + 1) (by omega), (nodeCells_at l k hl).2]
/-- An end is read. -/
theorem TmRaw.endOf {n ce : Nat} {ae : Option Addr} (h : TmRaw w B tb vn (.slice ae n ce) vl vs vm L E F S) {p x : Nat} (hp : E[p]? = some x) : ∃ ge, ae = some ⟨ge, 0, none⟩ ∧ w.cell? ⟨ge, p, none⟩ = some (.int .i64 x) ∧ w.frozen? ⟨ge, p, none⟩ = false ∧ n = E.length := by
  obtain ⟨hl, hv⟩ := List.getElem?_eq_some_iff.1 hp
  obtain ⟨a, c, e, hc⟩ := own_nats h.re
  simp at e
  obtain ⟨rfl, rfl, rfl⟩ := e
  obtain ⟨g, rfl, h1⟩ := hc p hl
  refine ⟨g, rfl, by rw [h1, hv], ?_, rfl⟩
  exact h.re.frozenAt p
theorem TmRaw.toIn (h : TmRaw w B tb vn ve vl vs vm L (endsL L) F S) (h1 : F.length = L.length) (h2 : S.length = L.length) (hf : L.length ≤ 1000000) (hs : ∀ n ∈ L, n.1.size ≤ 140737488355328) : TmIn w B tb vn ve vl vs vm L F S :=
  ⟨h.box, h.high, h.rn, by have := h.re; rwa [endsL_length] at this, by have := h.rl; rwa [h1] at this, by have := h.rs; rwa [h2] at this, h1, h2, hf, hs, h.ab, h.ac, h.bc⟩
end

end Go.Proofs.YtjnddclkdofgdaaDoor

namespace Go.Proofs.YtjnddclkdofgdaaDoor
open Go.RowKit Go.Shelf Go.WideMaps
set_option maxRecDepth 100000

theorem term_num {t : List Nd} : ∀ {q : Nat}, termGo t q = true → ∀ n ∈ t, -1000000000 ≤ n.2 ∧ n.2 ≤ 1000000000 := by
  induction t with
  | nil => intro q _ n hn; simp at hn
  | cons m r ih =>
    intro q h n hn
    cases q with
    | zero => simp [termGo] at h
    | succ q =>
      rw [termGo_cons, Bool.and_eq_true] at h
      rcases List.mem_cons.1 hn with rfl | hn
      · have h1 := h.1
        unfold nodeOk at h1
        split at h1
        · simp at h1; omega
        · simp at h1; omega
      · exact ih h.2 n hn

theorem termGo_ok {t : List Nd} : ∀ {q : Nat}, termGo t q = true → ∀ n ∈ t, nodeOk n = true := by
  induction t with
  | nil => intro q _ n hn; simp at hn
  | cons m r ih =>
    intro q h n hn
    cases q with
    | zero => simp [termGo] at h
    | succ q =>
      rw [termGo_cons, Bool.and_eq_true] at h
      rcases List.mem_cons.1 hn with rfl | hn
      · exact h.1
      · exact ih h.2 n hn
theorem wants_num {n : Nd} (h : nodeOk n = true) : (if n.1.toList.isEmpty then (0 : Int) else n.2) = ((wants n : Nat) : Int) ∧ wants n ≤ 5 := by
  unfold nodeOk at h
  unfold wants
  by_cases hv : varB n = true
  · have : n.1.toList.isEmpty = true := hv
    rw [if_pos this, if_pos hv]; simp
  · have hv' : ¬ n.1.toList.isEmpty = true := hv
    rw [if_neg hv] at h
    rw [if_neg hv', if_neg hv]
    simp at h
    omega
/-- One part more. -/
theorem full_step {s : List Nd} {m i : Nat} (h : fullT s m) (hi : i < m) : endGo s i < s.length ∧ endGo s (i + 1) = endGo s i + endGo (s.drop (endGo s i)) 1 := by
  refine ⟨?_, endGo_add s i 1⟩
  have h1 := (full_add s i (m - i)).1 (by rw [show i + (m - i) = m by omega]; exact h)
  obtain ⟨j, hj⟩ : ∃ j, m - i = j + 1 := ⟨m - i - 1, by omega⟩
  have h2 := h1.2
  rw [hj] at h2
  have hp := full_pos h2
  have hl := endGo_le (s.drop (endGo s i)) (j + 1)
  rw [List.length_drop] at hl
  omega

/-- The map of first places. -/
def FirstIn (w : World) (mp : Nat) (M : List Tg) : Prop := ∃ nm D, w.ownsMap Tryd.prog 141 numElem mp nm D ∧ FirstIs D M ∧ nm ≤ M.length
theorem FirstIn.lt {w : World} {mp : Nat} {M : List Tg} (h : FirstIn w mp M) : mp < w.heap.size := by obtain ⟨nm, D, h1, _⟩ := h; exact ownsMap_lt h1
theorem FirstIn.at {w w' : World} {mp : Nat} {M : List Tg} (h : FirstIn w mp M) (hb : w'.heap[mp]? = w.heap[mp]?) : FirstIn w' mp M := by
  obtain ⟨nm, D, h1, h2, h3⟩ := h
  exact ⟨nm, D, ownsMap_at h1 hb, h2, h3⟩
theorem FirstIn.grown {w w' : World} {mp : Nat} {M : List Tg} {o : Option Nat} (h : FirstIn w mp M) (hg : w.grownBy w' o) (ho : o ≠ some mp) : FirstIn w' mp M := h.at (hg.block mp h.lt (fun e => ho e.symm))
theorem own_ne_map {w : World} {B : Nat} {e : TypeId} {size : Nat} {v : Value} {n mp : Nat} {xs : List Value} {M : List Tg} (h : w.ownsRow B e size v n xs) (hm : FirstIn w mp M) : v.ownBlock ≠ some mp := by
  obtain ⟨nm, D, ⟨es, clock, hh, _⟩, _⟩ := hm
  obtain ⟨_, ⟨rfl, _⟩ | ⟨g, cap, cur, rfl, _, hg, _⟩⟩ := h
  · simp [Value.ownBlock]
  · simp [Value.ownBlock]
    rintro rfl
    rw [hh] at hg
    simp at hg

section
variable {w w1 w2 : World} {B tb mp bx : Nat} {vn ve vl vs v' : Value} {L : List Nd} {E F : List Nat} {S : List Int} {M : List Tg} {s : ByteArray} {x : Int} {o : Obj}
theorem cell_set_other {w : World} {tb bx j i : Nat} {u v : Value} (h : w.cell? ⟨bx, i, none⟩ = some u) (hne : bx ≠ tb) : (w.setCell ⟨tb, j, none⟩ v).cell? ⟨bx, i, none⟩ = some u :=
  (grown_setCell w ⟨tb, j, none⟩ v).cell h (by simpa using hne)
theorem below_set {w w2 : World} {B tb j : Nat} {v : Value} (h : Below B w w2) (hB : B ≤ tb) : Below B w (w2.setCell ⟨tb, j, none⟩ v) := h.setCell (by simpa using hB) v
/-- Behind the leader's append. -/
theorem add_lead {lead : Nat} (hT1 : TmRaw w1 B tb vn ve vl vs (.map (some mp)) L E F S) (hF1 : FirstIn w1 mp M) (hb1 : Below B w w1) (hBs : B ≤ w1.heap.size) (hmp : mp ≠ tb) (y0 : w1.cell? ⟨bx, 0, none⟩ = some (.string s)) (y1 : w1.cell? ⟨bx, 1, none⟩ = some (.int .i64 x)) (hx1 : vl.ownBlock ≠ some bx) (hx2 : bx ≠ tb)
    (hown2 : w2.ownsRow B 3 1 v' (F.length + 1) (natC F ++ [.int .i64 lead])) (hg2 : (w1.alloc o).grownBy w2 vl.ownBlock) (hw2 : v'.ownBlock = vl.ownBlock ∨ v'.ownBlock = some (w1.alloc o).heap.size) :
    TmRaw (w2.setCell ⟨tb, 2, none⟩ v') B tb vn ve v' vs (.map (some mp)) L E (F ++ [lead]) S ∧ FirstIn (w2.setCell ⟨tb, 2, none⟩ v') mp M ∧ (w2.setCell ⟨tb, 2, none⟩ v').cell? ⟨bx, 0, none⟩ = some (.string s) ∧ (w2.setCell ⟨tb, 2, none⟩ v').cell? ⟨bx, 1, none⟩ = some (.int .i64 x) ∧ Below B w (w2.setCell ⟨tb, 2, none⟩ v') ∧ w1.heap.size ≤ (w2.setCell ⟨tb, 2, none⟩ v').heap.size := by
  have hal : Below w1.heap.size w1 (w1.alloc o) := (Below.refl _ _).alloc (Nat.le_refl _) o
  have hTA := hT1.below hal
  have hFA : FirstIn (w1.alloc o) mp M := hF1.at (hal.block mp hF1.lt)
  have z0 := hg2.cell (Below.at' hal (Nat.le_refl _) y0) (fun e => hx1 e.symm)
  have z1 := hg2.cell (Below.at' hal (Nat.le_refl _) y1) (fun e => hx1 e.symm)
  have hF2 := hFA.grown hg2 (own_ne_map hTA.rl hFA)
  have hb2 : Below B w w2 := (hb1.trans (hal.mono hBs)).grown hg2 (by simp; omega) (fun k e => (own_lt hTA.rl k e).1)
  refine ⟨hTA.leads hg2 hown2 hw2, hF2.grown (grown_setCell _ _ _) (by simpa using fun e => hmp e.symm), cell_set_other z0 hx2, cell_set_other z1 hx2, below_set hb2 hT1.high, ?_⟩
  have := hg2.size
  simp [World.setCell] at this ⊢
  omega
/-- Behind the node's append. -/
theorem add_node {nd : Nd} (hT1 : TmRaw w1 B tb vn ve vl vs (.map (some mp)) L E F S) (hF1 : FirstIn w1 mp M) (hb1 : Below B w w1) (hBs : B ≤ w1.heap.size) (hmp : mp ≠ tb)
    (hown2 : w2.ownsRow B 27 2 v' (L.length + 1) (nodeCells (L ++ [nd]))) (hg2 : (w1.alloc o).grownBy w2 vn.ownBlock) :
    TmRaw (w2.setCell ⟨tb, 0, none⟩ v') B tb v' ve vl vs (.map (some mp)) (L ++ [nd]) E F S ∧ FirstIn (w2.setCell ⟨tb, 0, none⟩ v') mp M ∧ Below B w (w2.setCell ⟨tb, 0, none⟩ v') := by
  have hal : Below w1.heap.size w1 (w1.alloc o) := (Below.refl _ _).alloc (Nat.le_refl _) o
  have hTA := hT1.below hal
  have hFA : FirstIn (w1.alloc o) mp M := hF1.at (hal.block mp hF1.lt)
  have hF2 := hFA.grown hg2 (own_ne_map hTA.rn hFA)
  have hb2 : Below B w w2 := (hb1.trans (hal.mono hBs)).grown hg2 (by simp; omega) (fun k e => (own_lt hTA.rn k e).1)
  exact ⟨hTA.nodes hg2 (by rw [List.length_append]; exact hown2), hF2.grown (grown_setCell _ _ _) (by simpa using fun e => hmp e.symm), below_set hb2 hT1.high⟩
end

set_option maxHeartbeats 4000000 in
theorem uAdd_any (B tb mp : Nat) (vn ve vl vs : Value) (L : List Nd) (F : List Nat) (S : List Int) (M : List Tg) (o : Int) (a : Option Addr) (ca : Nat) (t : List Nd) (w : World)
    (h : TmRaw w B tb vn ve vl vs (.map (some mp)) L (endsL L) F S) (hM : M.map Prod.snd = L) (hW : Whole L) (hf : FirstIn w mp M) (hlf : F.length = L.length) (hls : S.length = L.length) (hB : B ≤ w.heap.size) (hmp : mp ≠ tb) (hmB : B ≤ mp)
    (ht : termGo t 1 = true) (hn : NodesIn w a t) (hlow : ∀ p, a = some p → p.block < B) (hlen : L.length + t.length ≤ 1000000) (ho : -1000 ≤ o ∧ o ≤ 1000) :
    Calls Tryd.prog 57 #[.pointer (some ⟨tb, 0, none⟩), .int .i64 o, .slice a t.length ca] w fun e w' => ∃ vn' ve' vl' vs', e = .returned (.int .i64 L.length) ∧
      TmRaw w' B tb vn' ve' vl' vs' (.map (some mp)) (L ++ t) (endsL (L ++ t)) (F ++ leadsTo M o t t.length) (S ++ List.replicate t.length 0) ∧ FirstIn w' mp (M ++ t.map fun n => (o, n)) ∧ Below B w w' := by
  have hML : M.length = L.length := by rw [← hM]; simp
  obtain ⟨q0, q1, q2, q3, q4⟩ := h.cells
  have HT := hide h
  have HF := hide hf
  have HN := hide hn
  have HTM := hide ht
  have HW := hide hW
  have HM := hide hM
  have HLF := hide hlf
  have HLS := hide hls
  have HLOW := hide hlow
  have HML := hide hML
  obtain ⟨an, cn, hvn⟩ := own_shape h.rn
  subst hvn
  clear h hf hn ht hW hM hlf hls hlow q1 q2 q3 q4 hML
  go_enter Tryd.func57, Tryd.ntmps57
  go_wp2
  clear q0
  go_loopw [19] (fun i wr => ∃ (k : Nat) (vn' vl' : Value), k ≤ t.length ∧ i = .int .i64 k ∧ TmRaw wr B tb vn' ve vl' vs (.map (some mp)) (L ++ t.take k) (endsL L) (F ++ leadsTo M o t k) S ∧ FirstIn wr mp (M ++ (t.take k).map fun n => (o, n)) ∧ Below B w wr) (fun i _ => t.length - (intOf i).toNat)
  case atStart => exact ⟨0, _, _, Nat.zero_le _, rfl, by simpa [leadsTo] using HT.out, by simpa using HF.out, Below.refl _ _⟩
  case round =>
    obtain ⟨k, vn', vl', hk, rfl, hT, hF, hbw⟩ := hrel
    by_cases hlt : k < t.length
    · have hlti : (k : Int) < (t.length : Int) := by omega
      obtain ⟨b, q, rfl, e1, e2⟩ := HN.out.cell k hlt
      have hbb := HLOW.out _ rfl
      simp only at hbb
      have e1' := (hbw.cell (p := ⟨b, q + k * 2, none⟩) hbb).trans e1
      have e2' := (hbw.cell (p := ⟨b, q + k * 2 + 1, none⟩) hbb).trans e2
      have HL1 : Hid (F ++ leadsTo M o t (k + 1) = (F ++ leadsTo M o t k) ++ [leadFor (M ++ (t.take k).map fun n => (o, n)) o t[k]]) := hide (by rw [leadsTo_succ M o t k hlt, List.append_assoc])
      have HG1 := hide (tags_succ M o t k hlt)
      have HK1 : Hid (L ++ t.take (k + 1) = (L ++ t.take k) ++ [t[k]]) := hide (by rw [List.take_succ_eq_append_getElem hlt, List.append_assoc])
      have HXB := hide (term_num HTM.out t[k] (List.getElem_mem _))
      clear e1 e2
      generalize t[k] = nd at *
      obtain ⟨s, x⟩ := nd
      simp only at e1' e2'
      obtain ⟨an', cn', rfl⟩ := own_shape hT.rn
      obtain ⟨nm, D, hown, hD, hnm⟩ := hF
      have hkl : (t.take k).length = k := by simp; omega
      have hlk : (L ++ t.take k).length = (M ++ (t.take k).map fun n => (o, n)).length := by simp [HML.out]
      have hlb : (M ++ (t.take k).map fun n => (o, n)).length ≤ 1000000 := by rw [← hlk]; simp; omega
      have hxb : -1000000000 ≤ x ∧ x ≤ 1000000000 := HXB.out
      have hlead : (F ++ leadsTo M o t k).length ≤ 1000000 := by rw [List.length_append, leadsTo_length, HLF.out]; omega
      generalize (M ++ (t.take k).map fun n => (o, n)) = Mk at *
      generalize (F ++ leadsTo M o t k) = Fk at *
      generalize (L ++ t.take k) = Lk at *
      clear hkl
      have hbA : Below wr.heap.size wr (wr.alloc (.cells #[.string s, .int .i64 x] 27)) := (Below.refl _ _).alloc (Nat.le_refl _) _
      have x0 : (wr.alloc (.cells #[.string s, .int .i64 x] 27)).cell? ⟨wr.heap.size, 0, none⟩ = some (.string s) := by simp
      have x1 : (wr.alloc (.cells #[.string s, .int .i64 x] 27)).cell? ⟨wr.heap.size, 1, none⟩ = some (.int .i64 x) := by simp
      have hT0 := hT.below hbA
      have hown0 := ownsMap_below hown hbA
      have hbr := hbw.trans (hbA.mono (Nat.le_trans hB hbw.size))
      have hsz : (wr.alloc (.cells #[.string s, .int .i64 x] 27)).heap.size = wr.heap.size + 1 := by simp
      obtain ⟨p0, p1, p2, p3, p4⟩ := hT0.cells
      have p2f := hT0.soft 2
      have p0f := hT0.soft 0
      rw [hlk] at p0
      have CL := hide (fun (wx : World) (hx : ∃ d, wx = (wr.alloc (.cells #[.string s, .int .i64 x] 27)).drewN d) => uLeaderFor_any tb mp nm cn' an' D Mk o s x wx (by obtain ⟨d, rfl⟩ := hx; exact p0) (by obtain ⟨d, rfl⟩ := hx; exact p4) (ownsMap_below hown0 (below_drawn hx)) hD hnm hlb (by omega) hxb)
      have HT0 := hide hT0
      have HLK := hide hlk
      clear hlk
      have HBR := hide hbr
      have HMO := hide hown0
      have HMD := hide hD
      have HMW := hide (ownsMap_lt hown)
      have HVX : Hid (vl'.ownBlock ≠ some wr.heap.size ∧ wr.heap.size ≠ tb) := hide ⟨own_lt' hT.rl, by have := hT.lt; omega⟩
      clear hT hT0 hown hown0 hD hbw hbr hbA
      have HTD := hide (fun d => HT0.out.below (wx := (wr.alloc (.cells #[.string s, .int .i64 x] 27)).drewN d) (below_drawn ⟨d, rfl⟩))
      have htl := HT0.out.lt
      generalize hW0 : wr.alloc (.cells #[.string s, .int .i64 x] 27) = W0 at *
      have HW0 := hide hW0
      have hsz1 : wr.heap.size < W0.heap.size := by omega
      have HRES := hide (fun (wx w1 : World) (hx : ∃ d, wx = W0.drewN d) (nm' : Nat) (D' : DataW Unit) (h1 : w1.ownsMap Tryd.prog 141 numElem mp nm' D') (h2 : FirstIs D' (Mk ++ [(o, (s, x))])) (h3 : nm' ≤ Mk.length + 1) (hg : wx.grownBy w1 (some mp)) =>
        (show FirstIn w1 mp (Mk ++ [(o, (s, x))]) ∧ TmRaw w1 B tb (.slice an' Lk.length cn') ve vl' vs (.map (some mp)) Lk (endsL L) Fk S ∧ w1.cell? ⟨tb, 2, none⟩ = some vl' ∧ w1.frozen? ⟨tb, 2, none⟩ = false ∧ w1.cell? ⟨wr.heap.size, 0, none⟩ = some (.string s) ∧ w1.cell? ⟨wr.heap.size, 1, none⟩ = some (.int .i64 x) ∧ Below B w w1 ∧ W0.heap.size ≤ w1.heap.size ∧ vl'.ownBlock ≠ some tb from by
          obtain ⟨d, rfl⟩ := hx
          have hT := HT0.out.below (wx := W0.drewN d) (below_drawn ⟨d, rfl⟩)
          have hmf : FirstIn (W0.drewN d) mp Mk := ⟨nm, D, ownsMap_below HMO.out (below_drawn ⟨d, rfl⟩), HMD.out, hnm⟩
          have ne : ∀ {v : Value} {e : TypeId} {sz n : Nat} {xs : List Value}, (W0.drewN d).ownsRow B e sz v n xs → v.ownBlock = none ∨ v.ownBlock ≠ some mp := fun hr => Or.inr (own_ne_map hr hmf)
          have hT1 := hT.grown hg (by simpa using hmp) (ne hT.rn) (ne hT.re) (ne hT.rl) (ne hT.rs)
          have hne : wr.heap.size ≠ mp := by have := HMW.out; omega
          exact ⟨⟨nm', D', h1, h2, by simpa using h3⟩, hT1, hT1.cells.2.2.1, hT1.soft 2, hg.cell x0 (by simpa using hne), hg.cell x1 (by simpa using hne), (HBR.out.trans ((below_drawn ⟨d, rfl⟩).mono (Nat.le_trans hB HBR.out.size))).grown hg (Nat.le_trans hB HBR.out.size) (fun k e => by simp at e; omega), hg.size, own_ne_box hT1.rl hT1.box (by decide)⟩))
      have hBW0 : B ≤ W0.heap.size := Nat.le_trans hB HBR.out.size
      go_wp2_with fail
      go_region_law (first
        | (refine step_call (by rfl) 80 _ _ (by rfl) (enters_of Tryd.func80 (by kernel_rfl) rfl) _ (by rfl) (unhide CL _ ⟨1, rfl⟩) ?_; rintro e w1 ⟨nm', D', rfl, hown1, hD1, hnm1, hg1⟩; refine ⟨_, rfl, ?_⟩; obtain ⟨hF1, hT1, d2, f2, y0, y1, hb1, hs1, hnt⟩ := HRES.out _ w1 ⟨1, rfl⟩ nm' D' hown1 hD1 hnm1 hg1; have hne2 : tb < w1.heap.size := World.block_lt_of_cell? w1 _ d2; have dA := (fun X => Below.at' ((Below.refl w1.heap.size w1).alloc (Nat.le_refl _) X) (Nat.le_refl _) d2); have HF1 := hide hF1; have HT1 := hide hT1; have HB1 := hide hb1; clear hown1 hD1 hnm1 hg1 hF1 hT1 hb1)
        | (refine step_append_int (by rfl) _ _ (by rfl) B _ _ _ (by rfl) (HT1.out.rl.alloc _) HT1.out.nl hlead (by simp; omega) w1.heap.size 1 (leadFor Mk o (s, x)) (by rfl) (by simp) ?_; intro v' w2 hown2 hg2 hw2; obtain ⟨va, vc, rfl⟩ := own_shape hown2; obtain ⟨d3, f3⟩ := HT1.out.stays2 _ hg2))
      all_goals
        obtain ⟨hT3, hF3, z0, z1, hb3, hs3⟩ := add_lead HT1.out HF1.out HB1.out (by omega) hmp y0 y1 HVX.out.1 HVX.out.2 hown2 hg2 hw2
        clear hown2 hg2 hw2 d3 f3 dA d2 f2 y0 y1 hne2 hnt
        generalize w2.setCell ⟨tb, 2, none⟩ (.slice va (Fk.length + 1) vc) = w3 at *
        generalize hvl : (Value.slice va (Fk.length + 1) vc) = vl3 at *
        clear hvl HT1 HF1 HB1
        obtain ⟨r0, r1, r2, r3, r4⟩ := hT3.cells
        have r0f := hT3.soft 0
        have htb3 := hT3.lt
        have HT3 := hide hT3
        have HF3 := hide hF3
        have HB3 := hide hb3
        clear r1 r2 r3 r4 hT3 hF3 hb3
        have hlk2 : Lk.length ≤ 1000000 := by rw [HLK.out]; exact hlb
        have HT4 := hide (HT3.out.below (wx := w3.drew) (below_drawn ⟨1, rfl⟩))
        have hnw3 : ∀ X, (w3.alloc X).cell? ⟨tb, 0, none⟩ = some (.slice an' Lk.length cn') := fun X => Below.at' ((Below.refl w3.heap.size w3).alloc (Nat.le_refl _) X) (Nat.le_refl _) r0
        have hBw3 : B ≤ w3.heap.size := by omega
        have HB4 := hide (HB3.out.trans ((below_drawn (w1 := w3.drew) ⟨1, rfl⟩).mono hBw3))
        have HF4 := hide (HF3.out.at (w' := w3.drew) rfl)
        go_wp2_with fail
        go_region_law (refine step_append_node (by rfl) _ _ (by rfl) B _ Lk (by rfl) (HT4.out.rn.alloc _) hlk2 (by simp; omega) w3.heap.size 1 (s, x) (by rfl) (by simp) (by simp) ?_; intro v4 w4 hown4 hg4; obtain ⟨va4, vc4, rfl⟩ := own_shape hown4; obtain ⟨d4, f4⟩ := HT4.out.stays0 _ hg4)
        all_goals
          obtain ⟨hT5, hF5, hb5⟩ := add_node HT4.out HF4.out HB4.out (by simp; omega) hmp hown4 hg4
          have HT5 := hide hT5
          have HF5 := hide hF5
          have HB5 := hide hb5
          clear hT5 hF5 hb5 hown4 hg4 d4 f4
          go_wp2
          go_roundw
          case rel => exact ⟨k + 1, _, _, by omega, by go_num, by rw [HK1.out, HL1.out]; exact HT5.out, by rw [← HG1.out]; exact HF5.out, HB5.out⟩
          case measure => simp [intOf]; omega
    · have hke : k = t.length := by omega
      subst hke
      have hlti : ¬ ((t.length : Int) < (t.length : Int)) := by omega
      rw [List.take_length] at hT hF
      have hpos : 0 < t.length := by
        rcases Nat.eq_zero_or_pos t.length with e | e
        · have := List.eq_nil_of_length_eq_zero e
          rw [this] at HTM
          have := HTM.out
          simp [termGo] at this
        · exact e
      have hBr : B ≤ wr.heap.size := Nat.le_trans hB hbw.size
      obtain ⟨an', cn', rfl⟩ := own_shape hT.rn
      have hel : (endsL L).length = L.length := endsL_length L
      obtain ⟨v8, w8, hr8, ho8, hg8, hw8⟩ := run_zeros_own wr 34 B ve (endsL L).length t.length _ hT.re hT.ne hpos (by omega) hBr
      obtain ⟨va8, vc8, rfl⟩ := own_shape ho8
      have hb8 := box5 (by rw [hg8.block tb hT.lt (fun e => own_ne_box hT.re hT.box (by decide) e.symm)]; exact hT.box)
      have hT8 := hT.ends hg8 ho8 hw8
      have hF8 := (hF.grown hg8 (own_ne_map hT.re hF)).grown (grown_setCell w8 ⟨tb, 1, none⟩ (.slice va8 ((endsL L).length + t.length) vc8)) (by simpa using fun e => hmp e.symm)
      have hbw8 := below_set (tb := tb) (j := 1) (v := .slice va8 ((endsL L).length + t.length) vc8) (hbw.grown hg8 hBr (fun k e => (own_lt hT.re k e).1)) hT.high
      have hBr8 : B ≤ (w8.setCell ⟨tb, 1, none⟩ (.slice va8 ((endsL L).length + t.length) vc8)).heap.size := Nat.le_trans hB hbw8.size
      obtain ⟨p0, p1, p2, p3, p4⟩ := hT.cells
      have HT8 := hide hT8
      have HF8 := hide hF8
      have HB8 := hide hbw8
      have e8 := hb8.2.1
      have f8 := hb8.2.2.2.2 1
      generalize hw8g : w8.setCell ⟨tb, 1, none⟩ (.slice va8 ((endsL L).length + t.length) vc8) = W8 at *
      obtain ⟨v9, w9, hr9, ho9, hg9, hw9⟩ := run_zeros_own W8 34 B vs S.length t.length _ hT8.rs hT8.ns hpos (by rw [HLS.out]; omega) hBr8
      obtain ⟨va9, vc9, rfl⟩ := own_shape ho9
      have hb9 := box5 (by rw [hg9.block tb hT8.lt (fun e => own_ne_box hT8.rs hT8.box (by decide) e.symm)]; exact hT8.box)
      have hT9 := hT8.sizes hg9 ho9 hw9
      have hF9 := (hF8.grown hg9 (own_ne_map hT8.rs hF8)).grown (grown_setCell w9 ⟨tb, 3, none⟩ (.slice va9 (S.length + t.length) vc9)) (by simpa using fun e => hmp e.symm)
      have hbw9 := below_set (tb := tb) (j := 3) (v := .slice va9 (S.length + t.length) vc9) (hbw8.grown hg9 hBr8 (fun k e => (own_lt hT8.rs k e).1)) hT.high
      have r3 := hT8.cells.2.2.2.1
      have e9 := hb9.2.2.2.1
      have f9 := hb9.2.2.2.2 3
      have s0 := hT9.cells.1
      rw [List.length_append] at s0
      rw [← eL_start] at hT9
      have HT9 := hide hT9
      have HF9 := hide hF9
      have HB9 := hide hbw9
      have HR8 := hide hr8
      have HR9 := hide hr9
      clear hT hF hbw hg8 ho8 hw8 hb8 hT8 hF8 hbw8 hg9 ho9 hw9 hb9 hT9 hF9 hbw9 hr8 hr9 p0 p2 p3 p4 hel
      go_wp2_with (first
        | (at_builtin; refine Go.Lib.wpList_append_run _ rfl _ _ _ _ rfl _ _ rfl rfl _ _ (unhide HR8) ?_)
        | (at_builtin; refine Go.Lib.wpList_append_run _ rfl _ _ _ _ rfl _ _ rfl rfl _ _ (unhide HR9) ?_)
        | go_in)
      clear s0 e8 f8 e9 f9 r3 p1
      generalize w9.setCell ⟨tb, 3, none⟩ (.slice va9 (S.length + t.length) vc9) = W9 at *
      clear HT8 HF8 HB8 HR8 HR9
      generalize (.slice va9 (S.length + t.length) vc9 : Value) = vs9 at *
      go_loopw [10] (fun i wi => ∃ j : Nat, j ≤ t.length ∧ i = .int .i64 ((L.length : Int) + j - 1) ∧ TmRaw wi B tb (.slice an' (L ++ t).length cn') (.slice va8 ((endsL L).length + t.length) vc8) vl' vs9 (.map (some mp)) (L ++ t) (eL L t j) (F ++ leadsTo M o t t.length) (S ++ List.replicate t.length 0) ∧ FirstIn wi mp (M ++ t.map fun n => (o, n)) ∧ Below B w wi) (fun i _ => (intOf i + 1 - L.length).toNat)
      case atStart => exact ⟨t.length, Nat.le_refl _, rfl, HT9.out, HF9.out, HB9.out⟩
      case round =>
        obtain ⟨j, hj, rfl, hT, hF, hb⟩ := hrel
        cases j with
        | zero =>
          generalize hA : ((L.length : Int) + ((0 : Nat) : Int) - 1) = A at *
          have hA1 : A < (L.length : Int) := by omega
          have HT10 := hide hT
          have HF10 := hide hF
          have HB10 := hide hb
          clear hA hT hF hb
          go_wp2
          go_ret
          exact ⟨_, _, _, _, rfl, by rw [← eL_done HW.out]; exact HT10.out, HF10.out, HB10.out⟩
        | succ q =>
          rename World => wi
          have hql : q < t.length := by omega
          obtain ⟨P, hP⟩ : ∃ P, P = L.length + q := ⟨_, rfl⟩
          have hsl : (L.length : Int) + ((q + 1 : Nat) : Int) - 1 = (P : Int) := by omega
          rw [hsl]
          have hnd : (L ++ t)[P]? = some t[q] := by rw [hP, List.getElem?_append_right (by omega)]; simp [hql]
          have hPN : (P : Int) < ((L ++ t).length : Int) := by simp; omega
          have hPL : (L.length : Int) ≤ (P : Int) := by omega
          have hP1 : (P : Int) ≤ 1000000 := by omega
          obtain ⟨ax, cx, ex, hcx⟩ := row_nodes hT.rn
          simp at ex
          obtain ⟨rfl, rfl⟩ := ex
          obtain ⟨gn, rfl, n0, n1⟩ := hcx P _ hnd
          obtain ⟨s0, s1, s2, s3, s4⟩ := hT.cells
          have hfull := (whole_term HTM.out) q t[q] (List.getElem?_eq_getElem hql)
          have hendq : endGo (t.drop q) 1 = 1 + endGo (t.drop (q + 1)) (wants t[q]) := by
            rw [List.drop_eq_getElem_cons hql]; simp [endGo]
          have HSET := hide (eL_set L t q hql)
          rw [hendq] at HSET
          have hnok := termGo_ok HTM.out t[q] (List.getElem_mem _)
          have hw5 : wants t[q] ≤ 1000000 := by have := wants_num hnok; omega
          have CP := hide (fun wx => parts_any t[q].1 t[q].2 wx)
          rw [(wants_num hnok).1] at CP
          have HFU := hide hfull
          have HEN := hide (eL_get L t (q + 1))
          have hlt2 := endGo_le (t.drop (q + 1)) (wants t[q])
          rw [List.length_drop] at hlt2
          have HHP := hide hP
          have HFT := hide (fun (i : Nat) (hi : i < wants t[q]) => full_step hfull hi)
          generalize wants t[q] = m at *
          generalize t[q] = nd at *
          obtain ⟨ns, nx⟩ := nd
          simp only at n0 n1 CP
          have HT10 := hide hT
          have HF10 := hide hF
          have HB10 := hide hb
          have hBi : B ≤ wi.heap.size := Nat.le_trans hB hb.size
          have hlN : (L ++ t).length ≤ 1000000 := by simp; omega
          generalize (L ++ t).length = N at *
          clear hT hF hb hP hnd hfull hendq hnok hsl hcx s1 s2 s3 s4
          go_wp2_with (first
            | (go_at_call 79; refine (unhide CP _).mono ?_; rintro e w11 ⟨rfl, hb11⟩; have hT11 := HT10.out.below hb11; have HT11 := hide hT11; have HF11 := hide (HF10.out.at (hb11.block mp HF10.out.lt)); have HB11 := hide (HB10.out.trans (hb11.mono hBi)); clear hb11 hT11)
            | go_in)
          go_loopw [11, 88] (fun e i wx => ∃ k : Nat, k ≤ m ∧ i = .int .i64 k ∧ e = .int .i64 ((L.length + (q + 1 + endGo (t.drop (q + 1)) k) : Nat) : Int) ∧ wx = w11) (fun _ i _ => m - (intOf i).toNat)
          case atStart => exact ⟨0, Nat.zero_le _, rfl, by simp [HHP.out]; omega, rfl⟩
          case round =>
            obtain ⟨k, hkm, rfl, rfl, rfl⟩ := hrel
            by_cases hlt : k < m
            · have hlti : (k : Int) < (m : Int) := by omega
              obtain ⟨fs1, fs2⟩ := HFT.out k hlt
              rw [List.length_drop] at fs1
              rw [List.drop_drop] at fs2
              have he := HEN.out (q + 1 + endGo (t.drop (q + 1)) k) (by omega) (by omega)
              obtain ⟨ge, rfl, h1, h2, h3⟩ := HT11.out.endOf he
              obtain ⟨t0, t1, t2, t3, t4⟩ := HT11.out.cells
              have hX : (L.length + (q + 1 + endGo (t.drop (q + 1)) k) : Nat) < (endsL L).length + t.length := by rw [endsL_length]; omega
              have HNX : Hid (L.length + (q + 1 + endGo (t.drop (q + 1)) k + endGo (t.drop (q + 1 + endGo (t.drop (q + 1)) k)) 1) = L.length + (q + 1 + endGo (t.drop (q + 1)) (k + 1))) := hide (by omega)
              generalize L.length + (q + 1 + endGo (t.drop (q + 1)) k + endGo (t.drop (q + 1 + endGo (t.drop (q + 1)) k)) 1) = Y at *
              generalize L.length + (q + 1 + endGo (t.drop (q + 1)) k) = X at *
              have hXi : (X : Int) < ((endsL L).length : Int) + (t.length : Int) := by omega
              clear fs1 fs2 he h2 h3 t0 t2 t3 t4 hX
              go_wp2
              go_roundw
              case rel => exact ⟨k + 1, by omega, by go_num, by rw [← HNX.out], by first | rfl | trivial⟩
              case measure => simp [intOf]; omega
            · have hke : k = m := by omega
              subst hke
              have hlti : ¬ ((k : Int) < (k : Int)) := by omega
              obtain ⟨ge, rfl, h1, h2, h3⟩ := HT11.out.endOf (eL_mid L t (q + 1) P (by have := HHP.out; omega) (by have := HHP.out; omega))
              obtain ⟨t0, t1, t2, t3, t4⟩ := HT11.out.cells
              have hS := HT11.out.endAt P (L.length + (q + (1 + endGo (t.drop (q + 1)) k)))
              rw [show (eL L t (q + 1)).set P = (eL L t (q + 1)).set (L.length + q) by rw [HHP.out], HSET.out] at hS
              have hXe : L.length + (q + 1 + endGo (t.drop (q + 1)) k) = L.length + (q + (1 + endGo (t.drop (q + 1)) k)) := by omega
              rw [hXe]
              clear hXe
              have hPE : P < (endsL L).length + t.length := by rw [endsL_length]; have := HHP.out; omega
              have HF12 := hide (HF11.out.grown (grown_setCell _ ⟨ge, P, none⟩ (.int .i64 ((L.length + (q + (1 + endGo (t.drop (q + 1)) k)) : Nat) : Int))) (by
                have := own_ne_map HT11.out.re HF11.out
                simpa [Value.ownBlock] using this))
              have HB12 := hide (HB11.out.setCell (p := ⟨ge, P, none⟩) (by have := (own_lt HT11.out.re ge rfl).1; simpa using this) (.int .i64 ((L.length + (q + (1 + endGo (t.drop (q + 1)) k)) : Nat) : Int)))
              generalize L.length + (q + (1 + endGo (t.drop (q + 1)) k)) = X at *
              have HT12 := hide hS
              have hPEi : (P : Int) < ((endsL L).length : Int) + (t.length : Int) := by omega
              clear hS h3 t0 t2 t3 t4 hPE
              go_wp2
              go_roundw
              case rel => exact ⟨q, by omega, by have := HHP.out; go_num, HT12.out, HF12.out, HB12.out⟩
              case measure => have := HHP.out; simp [intOf]; omega

end Go.Proofs.YtjnddclkdofgdaaDoor

namespace Go.Proofs.YtjnddclkdofgdaaDoor
open Go.RowKit Go.Shelf Go.WideMaps
set_option maxRecDepth 100000

/-- A class with a name in it has a name for its root. -/
def NamedRoot (L : List Nd) (rt : Nat → Nat) : Prop := ∀ p, (pgr L).named p → (pgr L).named (rt p)
/-- What join means: if the classes go together but for what is still to be joined. -/
def JSem (L : List Nd) (rt rt' : Nat → Nat) (a b : Nat) (ok : Bool) : Prop :=
  ∀ (Bs Q : Nat → Nat → Prop), (∀ i j, rt i = rt j → Cl (pgr L) Bs i j) → Cl (pgr L) Bs a b → ClMod (pgr L) (fun i j => rt i = rt j) (Add1 Q a b) →
    (ok = true → rt' a = rt' b ∧ (∀ i j, rt' i = rt' j → Cl (pgr L) Bs i j) ∧ ClMod (pgr L) (fun i j => rt' i = rt' j) Q) ∧ (ok = false → ¬ NoClash (pgr L) (Cl (pgr L) Bs))
structure JRes (w : World) (B tb : Nat) (vn ve vl vs vm : Value) (L : List Nd) (F : List Nat) (S : List Int) (rt : Nat → Nat) (a b : Nat) (ok : Bool) (w' : World) (F' : List Nat) (rt' d' : Nat → Nat) : Prop where
  tm : TmIn w' B tb vn ve vl vs vm L F' S
  forest : Forest F' rt' d'
  named : NamedRoot L rt'
  fewer : rootsN F' ≤ rootsN F
  far : w.grownBy w' vl.ownBlock
  mono : ∀ i j, rt i = rt j → rt' i = rt' j
  sem : JSem L rt rt' a b ok
section
variable {L : List Nd} {rt : Nat → Nat} {a b : Nat}
theorem JSem.same (h : rt a = rt b) : JSem L rt rt a b true := fun Bs Q hs hab hc => ⟨fun _ => ⟨h, hs, hc.same h⟩, fun e => by cases e⟩
theorem merged_rt {u v : Nat} (hu : u = rt a) (hv : v = rt b) : Merged (fun i j => rt i = rt j) (fun i j => rtJ rt u v i = rtJ rt u v j) a b := by
  subst hu
  subst hv
  intro p q
  exact rtJ_iff p q
theorem merged_rt' {u v : Nat} (hu : u = rt b) (hv : v = rt a) : Merged (fun i j => rt i = rt j) (fun i j => rtJ rt u v i = rtJ rt u v j) a b := by
  subst hu
  subst hv
  intro p q
  show rtJ rt (rt b) (rt a) p = rtJ rt (rt b) (rt a) q ↔ _
  rw [rtJ_iff]
  constructor
  · rintro (e | e | e)
    · exact Or.inl e
    · exact Or.inr (Or.inr e)
    · exact Or.inr (Or.inl e)
  · rintro (e | e | e)
    · exact Or.inl e
    · exact Or.inr (Or.inr e)
    · exact Or.inr (Or.inl e)
theorem Merged.sound {E E' C : Nat → Nat → Prop} (h : Merged E E' a b) (hs : ∀ i j, E i j → C i j) (h1 : ∀ i j, C i j → C j i) (h2 : ∀ i j k, C i j → C j k → C i k) (hab : C a b) : ∀ i j, E' i j → C i j := by
  intro i j e
  rcases (h i j).1 e with e | ⟨e1, e2⟩ | ⟨e1, e2⟩
  · exact hs _ _ e
  · exact h2 _ _ _ (hs _ _ e1) (h2 _ _ _ hab (h1 _ _ (hs _ _ e2)))
  · exact h2 _ _ _ (hs _ _ e1) (h2 _ _ _ (h1 _ _ hab) (h1 _ _ (hs _ _ e2)))
theorem JSem.var {rt' : Nat → Nat} (hm : Merged (fun i j => rt i = rt j) (fun i j => rt' i = rt' j) a b) (hv : (∀ p, rt p = rt a → ¬ (pgr L).named p) ∨ ∀ p, rt p = rt b → ¬ (pgr L).named p) : JSem L rt rt' a b true := fun Bs Q hs hab hc =>
  ⟨fun _ => ⟨hm.ab (isEq_rt rt), hm.sound hs (fun _ _ => Cl.symm) (fun _ _ _ => Cl.trans) hab, hc.var (isEq_rt rt) hm hv⟩, fun e => by cases e⟩
theorem JSem.clash {rt' : Nat → Nat} (hr : ∀ p, rt (rt p) = rt p) (n1 : (pgr L).named (rt a)) (n2 : (pgr L).named (rt b)) (hl : (pgr L).lab (rt a) ≠ (pgr L).lab (rt b)) : JSem L rt rt' a b false := fun Bs Q hs hab hc =>
  ⟨fun e => (by cases e), fun _ n => hl (n (rt a) (rt b) ((hs _ _ (hr a)).trans (hab.trans (hs _ _ (hr b).symm))) n1 n2)⟩
/-- A variable's root has no name in its class. -/
theorem NamedRoot.var (h : NamedRoot L rt) {r : Nat} (hr : ¬ (pgr L).named r) : ∀ p, rt p = r → ¬ (pgr L).named p := by
  rintro p rfl hp
  exact hr (h p hp)
theorem NamedRoot.join (h : NamedRoot L rt) {u v : Nat} (hn : (pgr L).named u → (pgr L).named v) : NamedRoot L (rtJ rt u v) := by
  intro p hp
  have := h p hp
  unfold rtJ
  split
  · rename_i e; rw [e] at this; exact hn this
  · exact this
theorem rtJ_mono (rt : Nat → Nat) (u v : Nat) : ∀ i j, rt i = rt j → rtJ rt u v i = rtJ rt u v j := by
  intro i j e
  unfold rtJ
  rw [e]
end

/-- The iterator of a place's parts. -/
theorem uParts_any (tb a : Nat) (w : World) :
    Calls Tryd.prog 101 #[.pointer (some ⟨tb, 0, none⟩), .int .i64 a] w fun e w' => e = .returned (.func (.func 121) #[] #[.pointer (some ⟨w.heap.size + 1, 0, none⟩), .pointer (some ⟨w.heap.size, 0, none⟩)]) ∧
      w' = (w.alloc (.cells #[.pointer (some ⟨tb, 0, none⟩)] 101)).alloc (.cells #[.int .i64 a] 3) := by
  go_enter Tryd.func101, Tryd.ntmps101
  go_wp2
  go_ret
  exact ⟨rfl, rfl⟩

end Go.Proofs.YtjnddclkdofgdaaDoor
