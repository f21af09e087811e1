/- What holds while the document joins classes. -/
import Derived.Test.YtjnddclkdofgdaaDoorUEnds0M
namespace Go.Proofs.YtjnddclkdofgdaaDoor
open Go.RowKit Go.Shelf Go.WideMaps
set_option maxRecDepth 100000

/-- The same rows, but for their classes. -/
structure Sh (P Q : Tb) : Prop where
  len : Q.length = P.length
  row : ∀ i (h : i < P.length) (h' : i < Q.length), Q[i].2 = P[i].2 ∧ Q[i].1.parts = P[i].1.parts ∧ Q[i].1.node = P[i].1.node
theorem Sh.refl (P : Tb) : Sh P P := ⟨rfl, fun _ _ _ => ⟨rfl, rfl, rfl⟩⟩
theorem Sh.join {P Q : Tb} (h : Sh P Q) (x y : Nat) : Sh P (joinP Q x y) := by
  refine ⟨by rw [joinP_length, h.len], fun i hi hi' => ?_⟩
  have hq : i < Q.length := by rw [h.len]; exact hi
  rw [joinP_at Q x y i hq]
  obtain ⟨a, b, c⟩ := toCls_parts x y Q[i]
  obtain ⟨d, e, f⟩ := h.row i hi hq
  exact ⟨a.trans d, b.trans e, c.trans f⟩
structure SSt (w : World) (B tp : Nat) (v : Value) (P0 : Tb) (Bs : Nat → Nat → Prop) (Q : Tb) (wr : World) : Prop where
  tab : TabP wr B tp v Q
  inv : SameI P0 Bs Q
  sh : Sh P0 Q
  far : w.grownBy wr v.ownBlock
theorem grown_of_below {w w' : World} {o : Option Nat} (h : Below w.heap.size w w') : w.grownBy w' o := ⟨h.os, h.tape, h.output, h.size, fun k hk _ => h.block k hk⟩
theorem SSt.below {w : World} {B tp : Nat} {v : Value} {P0 : Tb} {Bs : Nat → Nat → Prop} {Q : Tb} {wr wx : World} (h : SSt w B tp v P0 Bs Q wr) (k : Below wr.heap.size wr wx) : SSt w B tp v P0 Bs Q wx := ⟨h.tab.below k, h.inv, h.sh, h.far.trans (grown_of_below k)⟩
theorem SSt.join {w : World} {B tp : Nat} {v : Value} {P0 : Tb} {Bs : Nat → Nat → Prop} {Q : Tb} {wr wx : World} (h : SSt w B tp v P0 Bs Q wr) {a b : Nat} (ha : a < Q.length) (hb : b < Q.length) (hc : Cl (grOf P0) Bs a b) (ht : TabP wx B tp v (joinP Q Q[a].1.cls Q[b].1.cls)) (hg : wr.grownBy wx v.ownBlock) : SSt w B tp v P0 Bs (joinP Q Q[a].1.cls Q[b].1.cls) wx :=
  ⟨ht, h.inv.join ha hb hc, h.sh.join _ _, h.far.trans hg⟩
def cN (n : Nat) (Q : Tb) : Nat := clsN n (Q.map fun p => p.1.cls)
def Prog (n : Nat) (Q0 Q : Tb) (b : Bool) (F : Prop) : Prop := cN n Q ≤ cN n Q0 ∧ (b = true → cN n Q < cN n Q0) ∧ (b = false → Q = Q0 ∧ F)
theorem Prog.start (n : Nat) (Q : Tb) {F : Prop} (h : F) : Prog n Q Q false F := ⟨Nat.le_refl _, by simp, fun _ => ⟨rfl, h⟩⟩
theorem Prog.imp {n : Nat} {Q0 Q : Tb} {b : Bool} {F F' : Prop} (h : Prog n Q0 Q b F) (k : Q = Q0 → F → F') : Prog n Q0 Q b F' := ⟨h.1, h.2.1, fun e => ⟨(h.2.2 e).1, k (h.2.2 e).1 (h.2.2 e).2⟩⟩
theorem Prog.join {n : Nat} {Q0 Q : Tb} {b : Bool} {F F' : Prop} (h : Prog n Q0 Q b F) (hok : TabOk Q) (hn : Q.length = n) {u v : Nat} (hu : u < Q.length) (hv : v < Q.length) (k : Q = Q0 → F → clsR Q u v → F') :
    Prog n Q0 (joinP Q Q[u].1.cls Q[v].1.cls) (b || decide (Q[u].1.cls ≠ Q[v].1.cls)) F' := by
  by_cases e : Q[u].1.cls = Q[v].1.cls
  · have ej : joinP Q Q[u].1.cls Q[v].1.cls = Q := by rw [e, joinP_same]
    rw [ej]
    simp only [e, ne_eq, not_true_eq_false, decide_false, Bool.or_false]
    exact h.imp fun h1 h2 => k h1 h2 ((clsR.iff hu hv).2 e)
  · have hl := clsN_join hok hu hv e
    rw [hn] at hl
    have h1 := h.1
    refine ⟨?_, fun _ => ?_, fun hb => ?_⟩
    · unfold cN at *; omega
    · unfold cN at *; omega
    · simp [e] at hb
/-- Classes, as memory has them. -/
def clsOf (w : World) (g n : Nat) : List Nat := (List.range n).map fun i => match w.cell? ⟨g, i * 4 + 3, none⟩ with | some (.int _ x) => x.toNat | _ => 0
theorem clsOf_eq {w : World} {B tp g n cap : Nat} {Q : Tb} (h : TabP w B tp (.slice (some ⟨g, 0, none⟩) n cap) Q) (hn : Q.length = n) : clsOf w g n = Q.map fun p => p.1.cls := by
  obtain ⟨a, cap', e, hc⟩ := h.shape
  simp at e
  obtain ⟨rfl, _⟩ := e
  apply List.ext_getElem?
  intro k
  by_cases hk : k < n
  · obtain ⟨g', hg, _, _, _, h4⟩ := hc k (by omega)
    simp at hg
    subst hg
    simp [clsOf, hk, h4, show k < Q.length by omega]
  · have hq : Q.length ≤ k := by omega
    simp [clsOf, hk, hq]
/-- What Same answers. -/
structure SameR (P : Tb) (B tp : Nat) (v : Value) (Bs : Nat → Nat → Prop) (r : Value) (w' : World) : Prop where
  yes : ∃ b : Bool, r = .bool b ∧ (b = true ↔ NoClash (grOf P) (Cl (grOf P) Bs) ∧ ∀ i, i < P.length → Ends (grOf P) (Cl (grOf P) Bs) i) ∧
    (b = true → ∃ Q, TabP w' B tp v Q ∧ Sh P Q ∧ grOf Q = grOf P ∧ TabOk Q ∧ ∀ i j, clsR Q i j ↔ Cl (grOf P) Bs i j)
theorem Ends.iff {G : Gr} {R S : Nat → Nat → Prop} (h : ∀ i j, R i j ↔ S i j) {i : Nat} : Ends G R i ↔ Ends G S i := by
  have e : R = S := by funext i j; exact propext (h i j)
  rw [e]
theorem SSt.closed {w : World} {B tp : Nat} {v : Value} {P0 : Tb} {Bs : Nat → Nat → Prop} {Q : Tb} {wr : World} (h : SSt w B tp v P0 Bs Q wr) (hf : ∀ i k, k < i → i < Q.length → Fine Q i k) : Closed Q := by
  obtain ⟨h1, h2⟩ := h.inv.done hf
  intro i j hij hi hj
  have hA := h.inv.ok.arity
  rw [h.inv.gr] at *
  have e : clsR Q = Cl (grOf P0) Bs := by funext i j; exact propext (h1 i j)
  rw [e] at *
  exact ch_same (Cl.isDown _ _) h2 hA ((h1 i j).1 hij) hi hj

end Go.Proofs.YtjnddclkdofgdaaDoor
