/- The program: what a place was made is written behind other nodes. -/
import Derived.Test.YtjnddclkdofgdaaDoorUWr0
import Derived.Deep.CutRange
namespace Go.Proofs.YtjnddclkdofgdaaDoor
open Go.RowKit Go.Shelf Go.WideMaps
set_option maxRecDepth 100000
attribute [local go_sem] Oper.semAt_some

theorem own_some {w : World} {B : Nat} {e : TypeId} {size : Nat} {v : Value} {n : Nat} {xs : List Value} (h : w.ownsRow B e size v n xs) (hv : v.ownBlock ≠ none) : ∃ g c, v = .slice (some ⟨g, 0, none⟩) n c := by
  obtain ⟨_, ⟨rfl, _⟩ | ⟨g, cap, cur, rfl, _⟩⟩ := h
  · exact absurd rfl hv
  · exact ⟨g, cap, rfl⟩
theorem box2_new (w : World) (x y : Value) (t1 t2 : TypeId) : ∃ W, W = (w.alloc (.cells #[x] t1)).alloc (.cells #[y] t2) ∧ Below w.heap.size w W ∧ W.cell? ⟨w.heap.size, 0, none⟩ = some x ∧ W.cell? ⟨w.heap.size + 1, 0, none⟩ = some y ∧ W.frozen? ⟨w.heap.size + 1, 0, none⟩ = false ∧ W.heap.size = w.heap.size + 2 := by
  refine ⟨_, rfl, ((Below.refl _ _).alloc (Nat.le_refl _) _).alloc (by simp) _, ?_, ?_, ?_, by simp⟩
  · exact Below.at' ((Below.refl _ (w.alloc (.cells #[x] t1))).alloc (Nat.le_refl _) (.cells #[y] t2)) (Nat.le_refl _) (box_new w x t1).1
  · have := (box_new (w.alloc (.cells #[x] t1)) y t2).1
    rw [World.size_alloc] at this
    exact this
  · have := (box_new (w.alloc (.cells #[x] t1)) y t2).2
    rw [World.size_alloc] at this
    exact this
theorem nd2_new (w : World) (x y : Value) (t : TypeId) : (w.alloc (.cells #[x, y] t)).cell? ⟨w.heap.size, 0, none⟩ = some x ∧ (w.alloc (.cells #[x, y] t)).cell? ⟨w.heap.size, 1, none⟩ = some y := by
  have h : (w.alloc (.cells #[x, y] t)).heap[w.heap.size]? = some (.cells #[x, y] t) := by
    show (w.heap.push _)[w.heap.size]? = _
    simp
  constructor
  · unfold World.cell?; rw [h]; rfl
  · unfold World.cell?; rw [h]; rfl

/-- A post that says no to a panic. -/
def Calm (Q : Exit → Act → World → Prop) : Exit → Act → World → Prop
  | .panic _, _, _ => False
  | e, a, w => Q e a w
theorem calm {c : Code} {Q : Exit → Act → World → Prop} {a : Act} {w : World} (h : c.wp Tryd.prog (Calm Q) a w) : c.wp Tryd.prog Q a w :=
  Code.wp_mono (fun e a w h => by cases e <;> first | exact h | exact False.elim h) h
theorem write_keep {w w2 w3 : World} {gv : Nat} {t u : Value} {o : Obj} (hg : (w2.drew.alloc o).grownBy w3 (some gv)) (k0 : w2.cell? ⟨w.heap.size, 0, none⟩ = some t) (k1 : w2.cell? ⟨w.heap.size + 1, 0, none⟩ = some u) (kf : w2.frozen? ⟨w.heap.size + 1, 0, none⟩ = false) (h0 : w.heap.size ≠ gv) (h1 : w.heap.size + 1 ≠ gv) :
    w3.cell? ⟨w.heap.size, 0, none⟩ = some t ∧ w3.cell? ⟨w.heap.size + 1, 0, none⟩ = some u ∧ w3.frozen? ⟨w.heap.size + 1, 0, none⟩ = false := by
  have hb : Below w2.heap.size w2 (w2.drew.alloc o) := (below_drawn (w1 := w2.drew) ⟨1, rfl⟩).alloc (Nat.le_refl _) o
  have j0 := Below.at' hb (Nat.le_refl _) k0
  have j1 := Below.at' hb (Nat.le_refl _) k1
  refine ⟨hg.cell j0 (by simpa using h0), hg.cell j1 (by simpa using h1), ?_⟩
  rw [World.frozen?_of_block (hg.block _ (World.block_lt_of_cell? _ _ j1) (by simpa using h1)), hb.frozen (p := ⟨w.heap.size + 1, 0, none⟩) (World.block_lt_of_cell? _ _ k1)]
  exact kf

theorem uncalm {Q : Exit → Act → World → Prop} {a : Act} {w : World} (h : Q .normal a w) : Calm Q .normal a w := h
/-- Behind the first node. -/
theorem write_mid {w w0 w2 w3 : World} {B tb : Nat} {vn ve vl vs vm : Value} {L : List Nd} {F : List Nat} {S : List Int} {B1 gv cv g3 c3 : Nat} {out : List Nd} {nd : Nd} {ex : Nat → List Nd} {o : Obj} (h0 : TmIn w0 B tb vn ve vl vs vm L F S) (h : TmIn w B tb vn ve vl vs vm L F S) (hb : Below w.heap.size w w2) (hB1 : w0.heap.size ≤ B1) (hgv : B1 ≤ gv ∧ gv < w.heap.size) (hg : (w2.drew.alloc o).grownBy w3 (some gv)) (k0 : w2.cell? ⟨w.heap.size, 0, none⟩ = some (.pointer (some ⟨tb, 0, none⟩))) {u : Value} (k1 : w2.cell? ⟨w.heap.size + 1, 0, none⟩ = some u) (kf : w2.frozen? ⟨w.heap.size + 1, 0, none⟩ = false)
    (ho : w3.ownsRow B1 27 2 (.slice (some ⟨g3, 0, none⟩) (out.length + 1) c3) (out.length + 1) (nodeCells (out ++ [nd]))) (hw : (Value.slice (some ⟨g3, 0, none⟩) (out.length + 1) c3).ownBlock = some gv ∨ (Value.slice (some ⟨g3, 0, none⟩) (out.length + 1) c3).ownBlock = some (w2.drew.alloc o).heap.size) :
    WLoop w B tb vn ve vl vs vm L F S B1 (.slice (some ⟨gv, 0, none⟩) out.length cv) (out ++ [nd]) ex (w.heap.size + 1) (w.heap.size + 2) [] (w3.setCell ⟨w.heap.size + 1, 0, none⟩ (.slice (some ⟨g3, 0, none⟩) (out.length + 1) c3)) := by
  have hb2 : Below w2.heap.size w2 (w2.drew.alloc o) := (below_drawn (w1 := w2.drew) ⟨1, rfl⟩).alloc (Nat.le_refl _) o
  have hbA : Below w.heap.size w (w2.drew.alloc o) := hb.trans (hb2.mono hb.size)
  obtain ⟨e0, e1, e2, e3, e4⟩ := h0.lts (Nat.le_trans hB1 hgv.1)
  have ht3 := (h.below hbA).grown hg e0 (Or.inr e1) (Or.inr e2) (Or.inr e3) (Or.inr e4)
  obtain ⟨d0, d1, df⟩ := write_keep hg k0 k1 kf (by omega) (by omega)
  have hlt2 : w.heap.size + 1 < w2.heap.size := World.block_lt_of_cell? _ _ k1
  have hs3 := hg.size
  have hsA : (w2.drew.alloc o).heap.size = w2.heap.size + 1 := by simp
  have hg3 : g3 = gv ∨ g3 = w2.heap.size + 1 := by
    simp only [Value.ownBlock, Option.some.injEq] at hw
    rw [hsA] at hw
    exact hw
  have hne : g3 ≠ w.heap.size + 1 ∧ g3 ≠ w.heap.size := by omega
  have hss : (w3.setCell ⟨w.heap.size + 1, 0, none⟩ (.slice (some ⟨g3, 0, none⟩) (out.length + 1) c3)).heap.size = w3.heap.size := by simp [World.setCell]
  refine ⟨by omega, ht3.boxed h (by omega) 0 _, ⟨_, World.cell?_setCell_same' _ _ _ (by rw [d1]; rfl), ?_, by simp [Value.ownBlock], ?_, by simpa [Value.ownBlock] using hne.1, by simpa [Value.ownBlock] using hne.2, ?_⟩, ?_, grown_box (grown_new hbA hg) (by omega) 0 _, cell_set_other d0 (by omega)⟩
  · have := own_setC ho (p := ⟨w.heap.size + 1, 0, none⟩) (by simp [Value.ownBlock]; omega) (.slice (some ⟨g3, 0, none⟩) (out.length + 1) c3)
    simpa using this
  · rcases hg3 with e | e
    · exact Or.inl (by simp [Value.ownBlock, e])
    · exact Or.inr ⟨g3, rfl, by omega⟩
  · intro k h1 h2 e
    simp [Value.ownBlock] at e
    omega
  · rw [World.frozen?_setCell]; exact df

theorem own_some' {w : World} {B : Nat} {e : TypeId} {size : Nat} {v : Value} {n : Nat} {xs : List Value} (h : w.ownsRow B e size v n xs) (hv : v.ownBlock ≠ none) : ∃ g m c, v = .slice (some ⟨g, 0, none⟩) m c := by
  obtain ⟨g, c, h⟩ := own_some h hv
  exact ⟨g, _, c, h⟩
theorem flat_le {C : List Nat} {ex : Nat → List Nd} (h : ∀ y ∈ C, 1 ≤ (ex y).length) : C.length ≤ ((C.map ex).flatten).length ∧ ∀ x ∈ C, (ex x).length + C.length ≤ ((C.map ex).flatten).length + 1 := by
  induction C with
  | nil => simp
  | cons y C ih =>
    obtain ⟨h1, h2⟩ := ih (fun z hz => h z (List.mem_cons_of_mem _ hz))
    have hy := h y (by simp)
    simp only [List.map_cons, List.flatten_cons, List.length_append, List.length_cons]
    refine ⟨by omega, fun x hx => ?_⟩
    rcases List.mem_cons.1 hx with rfl | hx
    · omega
    · have := h2 x hx; omega
theorem flat_ge {pre : List Nat} {ex : Nat → List Nd} {M : Nat} (h : ∀ y ∈ pre, (ex y).length ≤ M) : ((pre.map ex).flatten).length ≤ pre.length * M := by
  induction pre with
  | nil => simp
  | cons y C ih =>
    have h1 := ih (fun z hz => h z (List.mem_cons_of_mem _ hz))
    have h2 := h y (by simp)
    simp only [List.map_cons, List.flatten_cons, List.length_append, List.length_cons, Nat.add_mul]
    omega
theorem sq_room {j k M e n : Nat} (hk : j < k) (hn : k + M = n) (he : e ≤ M) : 1 + j * M + e * e ≤ n * n := by
  subst hn
  have h1 : e * e ≤ M * M := Nat.mul_le_mul he he
  have h2 : j * M ≤ k * M := Nat.mul_le_mul_right _ (Nat.le_of_lt hk)
  have h3 : 0 < k * k := Nat.mul_pos (by omega) (by omega)
  have h4 : (k + M) * (k + M) = k * k + k * M + (k * M + M * M) := by rw [Nat.add_mul, Nat.mul_add, Nat.mul_add, Nat.mul_comm M k]
  rw [h4]
  omega
/-- The loop is entered with new boxes. -/
theorem WLoop.boxes {w W W6 : World} {B tb : Nat} {vn ve vl vs vm : Value} {L : List Nd} {F : List Nat} {S : List Int} {B1 : Nat} {v : Value} {out : List Nd} {ex : Nat → List Nd} {nb N0 : Nat} (h : WLoop w B tb vn ve vl vs vm L F S B1 v out ex nb N0 [] W) (hb : Below W.heap.size W W6) (hs : W6.heap.size = W.heap.size + 2) : WLoop w B tb vn ve vl vs vm L F S B1 v out ex nb W6.heap.size [] W6 := by
  obtain ⟨v', h1, h2, h3, h4, h5, h6, h7⟩ := h.st
  refine ⟨Nat.le_refl _, h.tm.below hb, ⟨v', Below.at' hb (Nat.le_refl _) h1, own_below h2 hb (Nat.le_refl _), h3, h4, h5, h6, ?_⟩, (hb.frozen (p := ⟨nb, 0, none⟩) (World.block_lt_of_cell? _ _ h1)).trans h.nf, grown_moved h.far (Moved.refl _ _) ?_, Below.at' hb (Nat.le_refl _) h.x0⟩
  · intro k k1 k2 e
    have := (own_lt h2 k e).2
    omega
  · exact grown_below hb
/-- A part is written. -/
theorem WLoop.next {w W W' : World} {B tb : Nat} {vn ve vl vs vm : Value} {L : List Nd} {F : List Nat} {S : List Int} {B1 : Nat} {v : Value} {out : List Nd} {ex : Nat → List Nd} {nb N0 x : Nat} {pre : List Nat} (h0 : TmIn w B tb vn ve vl vs vm L F S) (h : WLoop w B tb vn ve vl vs vm L F S B1 v out ex nb N0 pre W) (hnb : w.heap.size < nb) (hN : nb < N0) {g n c : Nat} {v2 : Value} (hc : W.cell? ⟨nb, 0, none⟩ = some (.slice (some ⟨g, 0, none⟩) n c)) (hm : Moved w v (.slice (some ⟨g, 0, none⟩) n c)) (h1 : g ≠ nb) (h2 : g ≠ w.heap.size) (h3 : ∀ k, N0 ≤ k + 2 → k < N0 → g ≠ k)
    (hr : WRes W B tb vn ve vl vs vm L F S B1 (.slice (some ⟨g, 0, none⟩) n c) (out ++ (pre.map ex).flatten ++ ex x) v2 W') : WLoop w B tb vn ve vl vs vm L F S B1 v out ex nb N0 (pre ++ [x]) (W'.setCell ⟨nb, 0, none⟩ v2) ∧ W'.cell? ⟨nb, 0, none⟩ = some (.slice (some ⟨g, 0, none⟩) n c) ∧ W'.frozen? ⟨nb, 0, none⟩ = false := by
  have hfar : W.grownBy W' (some g) := hr.far
  have hsz := hfar.size
  have hbig := h.big
  have hd := hfar.cell hc (by simp; omega)
  have hdf : W'.frozen? ⟨nb, 0, none⟩ = false := (World.frozen?_of_block (hfar.block nb (World.block_lt_of_cell? W ⟨nb, 0, none⟩ hc) (by simp; omega))).trans h.nf
  have hv2 : v2.ownBlock = some g ∨ ∃ k, v2.ownBlock = some k ∧ W.heap.size ≤ k := hr.moved
  have hss : (W'.setCell ⟨nb, 0, none⟩ v2).heap.size = W'.heap.size := by simp [World.setCell]
  have hn2 : v2.ownBlock ≠ some nb := by
    rcases hv2 with e | ⟨k, e, hk⟩ <;> rw [e] <;> simp <;> omega
  have hn3 : v2.ownBlock ≠ some w.heap.size := by
    rcases hv2 with e | ⟨k, e, hk⟩ <;> rw [e] <;> simp <;> omega
  have hws := h.far.size
  refine ⟨⟨by omega, hr.tm.boxed h0 (by omega) 0 _, ⟨v2, World.cell?_setCell_same' _ _ _ (by rw [hd]; rfl), ?_, hr.some, hm.trans hr.moved hws, hn2, hn3, ?_⟩, ?_, grown_box (grown_moved h.far hm hr.far) (by omega) 0 _, cell_set_other (hfar.cell h.x0 (by simp; omega)) (by omega)⟩, hd, hdf⟩
  · have := own_setC hr.row (p := ⟨nb, 0, none⟩) (fun e => hn2 e.symm) v2
    have e : out ++ ((pre ++ [x]).map ex).flatten = out ++ (pre.map ex).flatten ++ ex x := by simp
    rw [e]
    exact this
  · intro k k1 k2
    rcases hv2 with e | ⟨k', e, hk⟩ <;> rw [e] <;> simp
    · exact h3 k k1 k2
    · omega
  · rw [World.frozen?_setCell]; exact hdf

set_option maxHeartbeats 2000000 in
theorem uWrite_any (B tb : Nat) (vn ve vl vs vm : Value) (L : List Nd) (F : List Nat) (S : List Int) (rt d : Nat → Nat) (hL : Whole L) (hF : Forest F rt d) (hN : NamedRoot L rt) (hC : ClMod (pgr L) (fun i j => rt i = rt j) fun _ _ => False) (w0 : World) (h0 : TmIn w0 B tb vn ve vl vs vm L F S) (B1 : Nat) (hB1 : w0.heap.size ≤ B1) :
    ∀ (m : Nat) (a : Nat) (l out : List Nd) (v : Value) (w : World), l.length < m → Exp (pgr L) (fun i j => rt i = rt j) rt [a] l → TmIn w B tb vn ve vl vs vm L F S → w.ownsRow B1 27 2 v out.length (nodeCells out) → v.ownBlock ≠ none → B1 ≤ w.heap.size → out.length + l.length * l.length ≤ 1000000 → a < L.length →
    Calls Tryd.prog 83 #[.pointer (some ⟨tb, 0, none⟩), v, .int .i64 a] w fun e w' => ∃ v', e = .returned v' ∧ WRes w B tb vn ve vl vs vm L F S B1 v (out ++ l) v' w' := by
  obtain ⟨hD, hNC⟩ := clo_down hC (isEq_rt rt)
  intro m
  induction m with
  | zero => intro a l out v w hm; omega
  | succ m ih =>
    intro a l out v w hm hX h hv hvn hBw hsq ha
    have hlen : out.length + l.length ≤ 1000000 := Nat.le_trans (Nat.add_le_add_left (Nat.le_mul_self _) _) hsq
    have HSQ := hide hsq
    clear hsq
    obtain ⟨gv, cv, rfl⟩ := own_some hv hvn
    have hgv := own_lt hv gv rfl
    obtain ⟨w1, hw1, hb1, x0, x1, f1, hs1⟩ := box2_new w (.pointer (some ⟨tb, 0, none⟩)) (.slice (some ⟨gv, 0, none⟩) out.length cv) 101 28
    have CA := hide (uLeader_any B tb vn ve vl vs vm L F S rt d a w1 (h.below hb1) hF ha)
    have hra : rt a < L.length := by rw [← h.lf]; exact hF.rt_lt (by rw [h.lf]; exact ha)
    have hrr := hF.rt_rt a
    obtain ⟨nd, hnd⟩ : ∃ n, L[rt a]? = some n := ⟨L[rt a], List.getElem?_eq_getElem hra⟩
    obtain ⟨gn, cn, rfl, c0, c1⟩ := (h.below hb1).node hnd
    have cn0 := (h.below hb1).c0
    have hfew := h.few
    have HT := hide h
    have HB1 := hide hb1
    have HX := hide hX
    have HV := hide hv
    have HD := hide hD
    have HNC := hide hNC
    have HN := hide hN
    have HF := hide hF
    have IH := hide ih
    have HM := hide hm
    obtain ⟨s, xx⟩ := nd
    simp only at c0 c1
    obtain ⟨r, hr⟩ : ∃ r, r = rt a := ⟨_, rfl⟩
    rw [← hr] at hra hrr hnd c0 c1 CA
    have HRT := hide hr
    have HRR := hide hrr
    have HND := hide hnd
    have hri : (r : Int) < (L.length : Int) := by omega
    have CV := hide (fun wx => isVariable_any s xx wx)
    clear h hb1 hX hv hvn hD hNC hN hF ih hm hr hrr hnd hC
    refine (callsIn_wide (n := 3)).1 ?_
    refine callsIn_of_wp_marks Tryd.func83 rfl trivial ?_
    simp only [Tryd.ntmps83, List.size_toArray, List.length_cons, List.length_nil, Nat.reduceAdd, Nat.reduceSub, Array.replicate_succ, Array.replicate_zero, List.push_toArray, List.append_toArray, List.nil_append, List.cons_append]
    refine wpIn_wide.2 ?_
    by_cases hvar : s.toList.isEmpty = true
    · rw [hvar] at CV
      have hvb : varB (s, xx) = true := hvar
      have hnn : ∀ j, rt r = rt j → ¬ (pgr L).named j := by
        intro j e hj
        have := HN.out j hj
        rw [← e, HRR.out, pgr_isNamed HND.out, hvb] at this
        cases this
      have hl : l = [(⟨#[]⟩, (r : Int))] := by
        have h1 : Exp (pgr L) (fun i j => rt i = rt j) rt [a] [(⟨#[]⟩, ((rt a : Nat) : Int))] := Exp.var (fun j e hj => hnn j (by rw [HRR.out, HRT.out]; exact e) hj) Exp.nil
        have h2 := HX.out.one HD.out HNC.out (pgr_arity L) (fun _ _ e => e) _ h1
        rw [h2, HRT.out]
      subst hl
      have HAP := hide (fun (w2 : World) (hb2 : Below w1.heap.size w1 w2) => run_append_nd (w2.alloc (.cells #[.string ⟨#[]⟩, .int .i64 r] 27)) 28 B1 _ out ((own_below (own_below HV.out HB1.out (Nat.le_refl _)) hb2 (Nat.le_refl _)).alloc _) (by simp [Value.ownBlock]) (by omega) (by have := HB1.out.size; have := hb2.size; simp; omega) w2.heap.size 1 (⟨#[]⟩, (r : Int)) (nd2_new _ _ _ _).1 (nd2_new _ _ _ _).2)
      subst hw1
      clear hnn hvb
      go_wp2_with (first
        | (go_at_call 100; refine (unhide CA).mono ?_; rintro e w' ⟨rfl, rfl⟩)
        | (go_at_call 47; refine (unhide CV _).mono ?_; rintro e w2 ⟨rfl, hb2⟩; have k1 := Below.at' hb2 (Nat.le_refl _) x1; have HB2 := hide hb2; obtain ⟨v3, w3, hr3, ho3, hg3, hw3⟩ := HAP.out w2 hb2; have HR3 := hide hr3; have HO3 := hide ho3; have HG3 := hide hg3; have HW3 := hide hw3; clear hb2 hr3 ho3 hg3 hw3)
        | (at_builtin; refine Go.Lib.wpList_append_run _ rfl _ _ _ _ rfl _ _ rfl rfl _ _ (unhide HR3) ?_)
        | go_in)
      refine ret_marks (v := v3) rfl (by simp [results, Tryd.results83, go_sem]) ?_
      have hbA : Below w.heap.size w (w2.alloc (.cells #[.string ⟨#[]⟩, .int .i64 r] 27)) := (HB1.out.trans (HB2.out.mono HB1.out.size)).alloc (Nat.le_trans HB1.out.size HB2.out.size) _
      obtain ⟨e0, e1, e2, e3, e4⟩ := h0.lts (Nat.le_trans hB1 hgv.1)
      exact ⟨v3, rfl, ⟨(HT.out.below hbA).grown HG3.out e0 (Or.inr e1) (Or.inr e2) (Or.inr e3) (Or.inr e4), by simpa using HO3.out, by rcases HW3.out with e | e <;> rw [e] <;> simp [Value.ownBlock], grown_new hbA HG3.out, by
        rcases HW3.out with e | e
        · exact Or.inl e
        · exact Or.inr ⟨_, e, hbA.size⟩⟩⟩
    · have hvb : varB (s, xx) = false := by simpa [varB] using hvar
      rw [show s.toList.isEmpty = false by simpa using hvar] at CV
      have hnm : (pgr L).named r := by rw [pgr_isNamed HND.out]; exact hvb
      have hra2 : rt a = rt r := by rw [HRR.out, HRT.out]
      obtain ⟨l', hl', hX'⟩ : ∃ l', l = (s, xx) :: l' ∧ Exp (pgr L) (fun i j => rt i = rt j) rt ((pgr L).ch r) l' := by
        have hX := HX.out
        cases hX with
        | var h1 _ => exact absurd hnm (h1 r hra2)
        | @name _ j _ l' h1 h2 h3 =>
          have hjr : rt j = rt r := h1.symm.trans hra2
          refine ⟨l', by rw [HNC.out j r hjr h2 hnm, pgr_lab HND.out], ?_⟩
          rw [List.append_nil] at h3
          exact h3.same HD.out (fun _ _ e => e) _ (ch_same HD.out HNC.out (pgr_arity L) hjr h2 hnm)
      subst hl'
      have hlen1 : out.length + (l'.length + 1) ≤ 1000000 := by simpa using hlen
      obtain ⟨C, hCe⟩ : ∃ C, (pgr L).ch r = C := ⟨_, rfl⟩
      rw [hCe] at hX'
      obtain ⟨ex, hex, hexl, hexf⟩ := exp_each HD.out HNC.out (pgr_arity L) (fun _ _ e => e) hX'
      obtain ⟨ge, ce, rfl, _⟩ := HT.out.ends (by omega)
      subst hw1
      go_upto_region 4 with (first
        | (go_at_call 100; refine (unhide CA).mono ?_; rintro e w' ⟨rfl, rfl⟩)
        | (go_at_call 47; refine (unhide CV _).mono ?_; rintro e w2 ⟨rfl, hb2⟩; have k0 := Below.at' hb2 (Nat.le_refl _) x0; have k1 := Below.at' hb2 (Nat.le_refl _) x1; have kf1 := (hb2.frozen (p := ⟨w.heap.size + 1, 0, none⟩) (World.block_lt_of_cell? _ _ x1)).trans f1; have kc0 := Below.at' hb2 (Nat.le_refl _) c0; have kc1 := Below.at' hb2 (Nat.le_refl _) c1; have kn0 := Below.at' hb2 (Nat.le_refl _) cn0; have HB2 := hide (HB1.out.trans (hb2.mono HB1.out.size)); clear hb2)
        | go_in)
      have hw2 := HB2.out.size
      have hW2 : w.heap.size + 1 < w2.heap.size := World.block_lt_of_cell? _ _ k1
      have HV2 := hide (own_below HV.out (HB2.out.trans ((below_drawn (w1 := w2.drew) ⟨1, rfl⟩).mono hw2)) (Nat.le_refl _))
      have HKP := hide (fun (w3 : World) (hg : (w2.drew.alloc (.cells #[.string s, .int .i64 xx] 27)).grownBy w3 (some gv)) => write_keep hg k0 k1 kf1 (by omega) (by omega))
      have kA0 := fun X => Below.at' ((Below.refl w2.heap.size w2).alloc (Nat.le_refl _) X) (Nat.le_refl _) k1
      have kA1 := fun X => Below.at' ((Below.refl w2.heap.size w2).alloc (Nat.le_refl _) X) (Nat.le_refl _) k0
      have hrz : (0 : Int) ≤ (r : Int) := Int.natCast_nonneg _
      have HMID := hide (fun (w3 : World) (g3 c3 : Nat) (hg : (w2.drew.alloc (.cells #[.string s, .int .i64 xx] 27)).grownBy w3 (some gv)) (ho : w3.ownsRow B1 27 2 (.slice (some ⟨g3, 0, none⟩) (out.length + 1) c3) (out.length + 1) (nodeCells (out ++ [(s, xx)]))) (hw : (Value.slice (some ⟨g3, 0, none⟩) (out.length + 1) c3).ownBlock = some gv ∨ (Value.slice (some ⟨g3, 0, none⟩) (out.length + 1) c3).ownBlock = some (w2.drew.alloc (.cells #[.string s, .int .i64 xx] 27)).heap.size) => write_mid (cv := cv) (ex := ex) h0 HT.out HB2.out hB1 hgv hg k0 k1 kf1 ho hw)
      go_cut [24] from 24 to 33 (fun t wx => t = t ∧ WLoop w B tb (.slice (some ⟨gn, 0, none⟩) L.length cn) (.slice (some ⟨ge, 0, none⟩) L.length ce) vl vs vm L F S B1 (.slice (some ⟨gv, 0, none⟩) out.length cv) (out ++ [(s, xx)]) ex (w.heap.size + 1) (w.heap.size + 2) [] wx)
      case first =>
        refine calm ?_
        go_region_law (refine step_append_nd (by rfl) _ _ (by rfl) B1 _ out (by rfl) (HV2.out.alloc _) (by simp [Value.ownBlock]) (by omega) (by simp; omega) w2.heap.size 1 (s, xx) (by rfl) (nd2_new _ _ _ _).1 (nd2_new _ _ _ _).2 ?_; intro v3 w3 ho3 hg3 hw3; have hv3 : v3.ownBlock ≠ none := (by rcases hw3 with e | e <;> rw [e] <;> simp [Value.ownBlock]); obtain ⟨g3, c3, rfl⟩ := own_some ho3 hv3; obtain ⟨d0, d1, df1⟩ := HKP.out w3 hg3)
        all_goals
          refine uncalm ?_
          go_wp2_with fail
          go_meet
          case rel => exact ⟨by first | rfl | trivial, HMID.out w3 g3 c3 hg3 ho3 hw3⟩
      case rest =>
        obtain ⟨_, hmid⟩ := hcut
        have CP := hide (fun wx => uParts_any tb r wx)
        have z0 := hmid.x0
        have HMD := hide hmid
        have hwcb := hmid.big
        clear hmid CA CV HMID HKP HV2 kA0 kA1
        have nA := fun X => Below.at' ((Below.refl wc.heap.size wc).alloc (Nat.le_refl _) X) (Nat.le_refl _) z0
        go_wp2_with (first
          | (go_at_call 101; refine (unhide CP _).mono ?_; rintro e w5 ⟨rfl, rfl⟩)
          | go_in)
        clear nA CP
        obtain ⟨w6, hw6, hal, ot0, oa0, _, hs6⟩ := box2_new wc (.pointer (some ⟨tb, 0, none⟩)) (.int .i64 r) 101 3
        rw [← hw6]
        clear hw6
        have hI6 := HMD.out.boxes hal hs6
        have hIt : ItIn w6 (wc.heap.size + 1) wc.heap.size tb ge L r := ItIn.of hI6.tm (by omega) oa0 ot0
        have htb0 := (Array.getElem?_eq_some_iff.1 h0.box).1
        have hge0 := (own_lt h0.re ge rfl).2
        have hks : ∀ k ∈ [wc.heap.size + 1, wc.heap.size, tb, ge], k < w6.heap.size := by
          intro k hk
          simp at hk
          rcases hk with rfl | rfl | rfl | rfl <;> omega
        have hnd := HND.out
        refine (wpIn_wide (n := 3)).1 ?_
        refine wpIn_rangeFunc_ownG rfl (by omega) (gf := 121) (lb := #[.pointer (some ⟨wc.heap.size + 1, 0, none⟩), .pointer (some ⟨wc.heap.size, 0, none⟩)]) rfl trivial (enters_of Tryd.func121 (by kernel_rfl) rfl)
          (encs := fun x : PartOf C => #[.int .i64 (x.1 : Nat)]) (Kp := KpB [wc.heap.size + 1, wc.heap.size, tb, ge]) (S := fun xs => xs.map (fun x => x.1) = C) (Sp := fun pre => pre.map (fun x => x.1) <+: C) (N := C.length) (w0 := w6)
          (fun l J Jx W hW hJ hJx hY h0 => by
            have := uParts1_in 2 l (wc.heap.size + 1) wc.heap.size tb ge L r (s, xx) C hCe (by omega) hL hfew hnd J Jx _ hJ hY W (hIt.kept (kpB_below hW hks)) h0
            simpa using this)
          (fun h k => h.trans k) (KpB.put hks) (Below.refl _ _) (fun _ => rfl)
          (fun pre W => WLoop w B tb (.slice (some ⟨gn, 0, none⟩) L.length cn) (.slice (some ⟨ge, 0, none⟩) L.length ce) vl vs vm L F S B1 (.slice (some ⟨gv, 0, none⟩) out.length cv) (out ++ [(s, xx)]) ex (w.heap.size + 1) w6.heap.size (pre.map fun x => x.1) W)
          (fun c pre W => False)
          (WLoop.own (by omega)) (fun c => by intro _ _ _ _ h; cases h) ?h0 ?a1 ?assign ?body ?done ?stop
        case h0 => exact hI6
        case assign =>
          intro l x W K hK
          gi_wp2
          exact hK
        case body =>
          rintro l pre x W hI hln
          obtain ⟨v', hc', hr', hv', hm', hq1, hq2, hq3⟩ := hI.st
          have hxp : x.1 < L.length := ch_lt hL hnd x.1 (by rw [hCe]; exact x.2)
          obtain ⟨g, c, rfl⟩ := own_some hr' hv'
          have hxl := hexl x.1 x.2
          have hpos : ∀ y ∈ C, 1 ≤ (ex y).length := fun y hy => (hex y hy).pos
          have hroom : (out ++ [(s, xx)] ++ ((pre.map fun x => x.1).map ex).flatten).length + (ex x.1).length * (ex x.1).length ≤ 1000000 := by
            obtain ⟨q1, q2⟩ := flat_le hpos
            rw [hexf] at q1 q2
            have q3 := flat_ge (pre := pre.map fun x => x.1) (ex := ex) (M := l'.length + 1 - C.length) (fun y hy => by
              obtain ⟨z, _, rfl⟩ := List.mem_map.1 hy
              have := q2 z.1 z.2
              omega)
            rw [List.length_map] at q3
            have q4 := q2 x.1 x.2
            have q5 := sq_room (j := pre.length) (k := C.length) (M := l'.length + 1 - C.length) (e := (ex x.1).length) (n := l'.length + 1) hln (by omega) (by omega)
            have q6 : out.length + (l'.length + 1) * (l'.length + 1) ≤ 1000000 := by simpa using HSQ.out
            simp only [List.length_append, List.length_cons, List.length_nil]
            omega
          have hBW : B1 ≤ W.heap.size := by have := hI.far.size; omega
          have CJ := hide (IH.out x.1 (ex x.1) _ _ W (by have := HM.out; simp at this; omega) (hex x.1 x.2) hI.tm hr' hv' hBW hroom hxp)
          have hgl := own_lt hr' g rfl
          have hW6 := hI.big
          have hq1' : g ≠ w.heap.size + 1 := by simpa [Value.ownBlock] using hq1
          have hq2' : g ≠ w.heap.size := by simpa [Value.ownBlock] using hq2
          have hq3' : ∀ k, w6.heap.size ≤ k + 2 → k < w6.heap.size → g ≠ k := fun k k1 k2 => by simpa [Value.ownBlock] using hq3 k k1 k2
          have hkk : ∀ k ∈ [wc.heap.size + 1, wc.heap.size, tb, ge], k < W.heap.size ∧ k ≠ g := by
            intro k hk
            simp at hk
            rcases hk with rfl | rfl | rfl | rfl
            · exact ⟨by omega, (hq3' _ (by omega) (by omega)).symm⟩
            · exact ⟨by omega, (hq3' _ (by omega) (by omega)).symm⟩
            · exact ⟨by omega, by omega⟩
            · exact ⟨by omega, by omega⟩
          have hkn : ∀ k ∈ [wc.heap.size + 1, wc.heap.size, tb, ge], k ≠ w.heap.size + 1 := by
            intro k hk
            simp at hk
            rcases hk with rfl | rfl | rfl | rfl <;> omega
          have HNX := hide (fun (W' : World) (v2 : Value) hr => WLoop.next (x := x.1) (W' := W') (v2 := v2) HT.out hI (by omega) (by omega) hc' hm' hq1' hq2' hq3' hr)
          have HKG := hide (fun (W' : World) (hg : W.grownBy W' (some g)) => And.intro (keeps_grown w6.heap.size hg (own_cells hr' rfl)) (kpB_grown hg hkk))
          have HKS := hide (fun (W' : World) (hs : W.heap.size ≤ W'.heap.size) (v : Value) (k : Nat) hk => (grown_setCell W' ⟨w.heap.size + 1, 0, none⟩ v).block k (Nat.lt_of_lt_of_le (hkk k hk).1 hs) (by simpa using hkn k hk))
          have x0' := hI.x0
          clear hI hr' hv' hm' hq1 hq2 hq3 hroom hpos hxl hkk hkn hq1' hq2' hq3' hgl
          generalize (out ++ [(s, xx)] ++ ((pre.map fun x => x.1).map ex).flatten).length = n at *
          gi_wp2_with (first
            | (refine ⟨trivial, ?_⟩; gi_at_call 83; refine (CallsIn.inRound l (callsIn_wide.2 (unhide CJ))).mono ?_; rintro e W' ⟨v2, rfl, hres⟩; obtain ⟨g2, m2, c2, rfl⟩ := own_some' hres.row hres.some; obtain ⟨hnx, hcn, hfn⟩ := HNX.out W' _ hres; obtain ⟨hkf, hkp⟩ := HKG.out W' hres.far; have hsz := HKS.out W' hres.far.size (.slice (some ⟨g2, 0, none⟩) m2 c2); have HNN := hide hnx; have HKF := hide hkf; have HKP := hide hkp; have HSZ := hide hsz; clear hnx hkf hkp hsz hres)
            | fail)
          refine ⟨HKF.out.trans (keeps_set _ hcn _), HKP.out.trans (fun k hk => HSZ.out k hk), ?_⟩
          have hnn := HNN.out
          rw [show (pre.map fun x => x.1) ++ [x.1] = (pre ++ [x]).map fun x => x.1 by simp] at hnn
          exact hnn
        case done =>
          rintro D ys W hD hSy hI hK
          obtain ⟨v', hc', hr', hv', hm', _⟩ := hI.st
          rw [hSy, hexf] at hr'
          have HI := hide hI
          have HR' := hide hr'
          have HK := hide hK
          have HM' := hide hm'
          clear hI hr' hK hm'
          go_wp2
          have hK := HK.out
          refine ⟨by simp, .inl ⟨_, _, rfl, run_takeDeferred hK, ?_⟩⟩
          refine ⟨v', by simp [results, Tryd.results83, go_sem], ?_⟩
          have hot : ∀ r, (some D : Option Nat) = some r → ∃ o : Obj, W.heap[r]? = some o ∧ o.isCells = false := fun r e => by cases e; exact ⟨_, hK, rfl⟩
          have hl : out ++ (s, xx) :: l' = out ++ [(s, xx)] ++ l' := by simp
          refine ⟨v', rfl, ⟨HI.out.tm.others (grownBy_putObj' W D (.deferred none)) hot, by rw [hl]; exact own_others HR'.out (grownBy_putObj' W D (.deferred none)) hot, hv', grown_from HI.out.far (grownBy_putObj' W D (.deferred none)) (fun r e => by cases e; omega), HM'.out⟩⟩
        case stop =>
          rintro D c pre W hD hSy hI hK
          cases hI

end Go.Proofs.YtjnddclkdofgdaaDoor
