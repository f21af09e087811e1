/- The program: a term's variables are numbered; Unify. The program: Unify. -/
import Derived.Test.YtjnddclkdofgdaaDoorUNew
import Derived.Test.YtjnddclkdofgdaaDoorUMadeM
import Derived.Test.YtjnddclkdofgdaaDoorOOrder
import Derived.Test.YtjnddclkdofgdaaDoorUBrM
import Derived.Test.YtjnddclkdofgdaaDoorTPut0M
namespace Go.Proofs.YtjnddclkdofgdaaDoor
open Go.RowKit Go.Shelf Go.WideMaps
set_option maxRecDepth 100000

theorem ordL_one (b : Bool) (l : List Nd) : ordL [(b, l)] = [(b, (renL l []).1)] := by
  have h : memB [] (b, l) = false := rfl
  simp [ordL, dedL, dedStep, litSt, litStep, h]
/-- A row of nodes, as it is read. -/
theorem own_nodesIn {w : World} {B g c n : Nat} {l : List Nd} (h : w.ownsRow B 27 2 (.slice (some ⟨g, 0, none⟩) n c) l.length (nodeCells l)) (hf : l.length ≤ 5864062014805) (hs : ∀ n ∈ l, n.1.size ≤ 140737488355328) : NodesIn w (some ⟨g, 0, none⟩) l := by
  obtain ⟨a, cap, e, hc⟩ := row_nodes h
  simp at e
  obtain ⟨rfl, _, _⟩ := e
  refine ⟨hf, fun k hk => hs _ (List.getElem_mem _), fun k hk => ?_⟩
  obtain ⟨g', e, h1, h2⟩ := hc k _ (List.getElem?_eq_getElem hk)
  simp at e
  subst e
  exact ⟨g, 0, rfl, by simpa using h1, by simpa using h2⟩
theorem lits_one {w : World} {g c n : Nat} {l : List Nd} (h : NodesIn w (some ⟨g, 0, none⟩) l) (hn : n = l.length) : LitsIn (w.alloc (.cells #[.bool false, .slice (some ⟨g, 0, none⟩) n c] 30)) (some ⟨w.heap.size, 0, none⟩) [(false, l)] := by
  subst hn
  refine ⟨by simp, fun k hk => ?_⟩
  have hk0 : k = 0 := by simpa using hk
  subst hk0
  exact ⟨w.heap.size, 0, some ⟨g, 0, none⟩, c, rfl, by simp, by simp, h.below ((Below.refl _ _).alloc (Nat.le_refl _) _) (Nat.le_refl _)⟩

/-- The one literal that Order answers. -/
theorem order_one {w w' : World} {o : Obj} {l : List Nd} {v : Value} {nb : Nat} {Q : List (Lt × Value)} (h : OrderR (w.alloc o) [(false, l)] v nb Q w') : ∃ qv, v = .slice (some ⟨nb, 0, none⟩) 1 1 ∧ w'.cell? ⟨nb, 1, none⟩ = some qv ∧ OwnN w' w.heap.size qv (renL l []).1 ∧ Below w.heap.size w w' := by
  have h1 := h.made
  have h2 := h.val
  have h3 := h.row
  rw [ordL_one] at h1 h2 h3
  obtain ⟨⟨x, qv⟩, rfl⟩ : ∃ q, Q = [q] := by
    match Q, h1 with
    | [q], _ => exact ⟨q, rfl⟩
    | [], h1 => simp at h1
    | _ :: _ :: _, h1 => simp at h1
  simp at h1
  subst h1
  have h4 := h.atoms _ (List.mem_singleton.2 rfl)
  refine ⟨qv, h2, ?_, own_mono h4 (by simp), ((Below.refl _ _).alloc (Nat.le_refl _) _).trans (h.low.mono (by simp))⟩
  rw [h3.cellAt 1 (by simp)]
  simp [litCells]

theorem numbered_any (g c : Nat) (l : List Nd) (w : World) (h : NodesIn w (some ⟨g, 0, none⟩) l) (hv : VarsOk l) (hl : l.length ≤ 500) :
    Calls Tryd.prog 60 #[.slice (some ⟨g, 0, none⟩) l.length c] w fun e w' => ∃ v, e = .returned v ∧ OwnN w' w.heap.size v (renL l []).1 ∧ Below w.heap.size w w' := by
  obtain ⟨n, hn⟩ : ∃ n, n = l.length := ⟨_, rfl⟩
  have CO := hide (order_any (some ⟨w.heap.size, 0, none⟩) 1 [(false, l)] _ (lits_one (c := c) (n := n) h hn) (fun x hx => by simp at hx; subst hx; exact hv) (by simp [countL]; omega) (by simp))
  rw [← hn]
  clear h hv hl hn
  go_enter Tryd.func60, Tryd.ntmps60
  go_wp2_with (first
    | (go_at_call 84; refine (unhide CO).mono ?_; rintro e w1 ⟨v, nb, Q, rfl, hR⟩; obtain ⟨qv, rfl, q1, q2, q3⟩ := order_one hR; have HQ2 := hide q2; have HQ3 := hide q3; clear q2 q3 hR)
    | go_in)
  go_ret
  exact ⟨_, rfl, HQ2.out, HQ3.out⟩

end Go.Proofs.YtjnddclkdofgdaaDoor

namespace Go.Proofs.YtjnddclkdofgdaaDoor
open Go.RowKit Go.Shelf Go.WideMaps
set_option maxRecDepth 100000

/-- The terms that were put. -/
structure AddR (B tb mp : Nat) (M : List Tg) (w : World) : Prop where
  tm : ∃ vn ve vl vs, TmRaw w B tb vn ve vl vs (.map (some mp)) (M.map Prod.snd) (endsL (M.map Prod.snd)) (leadsM M) (List.replicate M.length 0)
  first : FirstIn w mp M
  whole : Whole (M.map Prod.snd)
  big : B ≤ w.heap.size
  ne : mp ≠ tb
  mlow : B ≤ mp
theorem AddR.new {w w' : World} {tb mp : Nat} {vn ve vl vs : Value} (h : NewR w tb mp vn ve vl vs w') : AddR w.heap.size tb mp [] w' :=
  ⟨⟨vn, ve, vl, vs, h.tm⟩, h.first, fun i n e => by simp at e, h.low.size, h.ne, h.mlow⟩
theorem add_more {B tb mp : Nat} {M : List Tg} {w : World} (h : AddR B tb mp M w) (o : Int) (a : Option Addr) (c : Nat) (t : List Nd) (hn : NodesIn w a t) (ht : termGo t 1 = true) (hlow : ∀ p, a = some p → p.block < B) (hlen : M.length + t.length ≤ 1000000) (ho : -1000 ≤ o ∧ o ≤ 1000) :
    Calls Tryd.prog 57 #[.pointer (some ⟨tb, 0, none⟩), .int .i64 o, .slice a t.length c] w fun e w' => e = .returned (.int .i64 M.length) ∧ AddR B tb mp (M ++ tgs o t) w' ∧ Below B w w' := by
  obtain ⟨vn, ve, vl, vs, htm⟩ := h.tm
  have hl : (M.map Prod.snd).length = M.length := by simp
  refine (uAdd_any B tb mp vn ve vl vs (M.map Prod.snd) (leadsM M) (List.replicate M.length 0) M o a c t w htm rfl h.whole h.first (by rw [leadsM_length, hl]) (by rw [List.length_replicate, hl]) h.big h.ne h.mlow ht hn hlow (by rw [hl]; exact hlen) ho).mono ?_
  rintro e w' ⟨vn', ve', vl', vs', rfl, h1, h2, h3⟩
  have hs : (M ++ tgs o t).map Prod.snd = M.map Prod.snd ++ t := by rw [List.map_append, tgs_snd]
  refine ⟨by rw [hl], ⟨⟨vn', ve', vl', vs', ?_⟩, h2, by rw [hs]; exact h.whole.append (whole_term ht), Nat.le_trans h.big h3.size, h.ne, h.mlow⟩, h3⟩
  rw [hs, leadsM_append, List.length_append, List.replicate_append_replicate.symm]
  simpa using h1
/-- They are ready to be made the same. -/
theorem AddR.toIn {B tb mp : Nat} {M : List Tg} {w : World} (h : AddR B tb mp M w) (hf : M.length ≤ 1000000) (hs : ∀ t ∈ M, t.2.1.size ≤ 140737488355328) : ∃ vn ve vl vs, TmIn w B tb vn ve vl vs (.map (some mp)) (M.map Prod.snd) (leadsM M) (List.replicate M.length 0) := by
  obtain ⟨vn, ve, vl, vs, htm⟩ := h.tm
  exact ⟨vn, ve, vl, vs, htm.toIn (by rw [leadsM_length]; simp) (by simp) (by simpa using hf) (fun n hn => by obtain ⟨t, ht, rfl⟩ := List.mem_map.1 hn; exact hs t ht)⟩
/-- What is written has nodes of the terms, and variables that are places. -/
theorem exp_nodes {L : List Nd} (hW : Whole L) {E : Nat → Nat → Prop} {rep : Nat → Nat} {x : List Nat} {l : List Nd} (h : Exp (pgr L) E rep x l) (hx : ∀ i ∈ x, i < L.length) : ∀ n ∈ l, (varB n = true ∧ ∃ i, i < L.length ∧ n = (⟨#[]⟩, (rep i : Int))) ∨ (varB n = false ∧ n ∈ L) := by
  induction h with
  | nil => intro n hn; simp at hn
  | @var i r l h1 _ ih =>
    intro n hn
    rcases List.mem_cons.1 hn with rfl | hn
    · exact Or.inl ⟨varB_new _, i, hx i (by simp), rfl⟩
    · exact ih (fun j hj => hx j (by simp [hj])) n hn
  | @name i j r l h1 h2 _ ih =>
    intro n hn
    obtain ⟨m, hm, hv⟩ := pgr_named h2
    have hjl := (List.getElem?_eq_some_iff.1 hm).1
    rcases List.mem_cons.1 hn with rfl | hn
    · right
      rw [pgr_lab hm]
      exact ⟨hv, List.mem_of_getElem? hm⟩
    · refine ih (fun p hp => ?_) n hn
      rcases List.mem_append.1 hp with hp | hp
      · rw [pgr_ch hm] at hp
        have h4 := (starts_lt _ _ _ (hW j _ hm) p hp).2
        have h5 : endGo (L.drop j) 1 ≤ (L.drop j).length := endGo_le _ _
        rw [List.drop_eq_getElem_cons hjl, (List.getElem?_eq_some_iff.1 hm).2] at h5
        simp [endGo] at h5
        omega
      · exact hx p (by simp [hp])
/-- What Unify answers. -/
structure UR (w : World) (x y : List Nd) (v : Value) (yes : Bool) (e : Int) (w' : World) : Prop where
  out : ∃ l, UOut x y l yes e ∧ OwnN w' w.heap.size v l ∧ l.length ≤ 500 ∧ ∀ n ∈ l, n.1.size ≤ 140737488355328
  low : Below w.heap.size w w'
theorem nodes_low {w : World} {a : Option Addr} {l : List Nd} (h : NodesIn w a l) (ht : termGo l 1 = true) : ∀ p, a = some p → p.block < w.heap.size := by
  intro p hp
  have h0 : 0 < l.length := by
    cases l with
    | nil => simp [termGo] at ht
    | cons => simp
  obtain ⟨b, o, e, h1, _⟩ := h.cell 0 h0
  rw [hp] at e
  simp at e
  rw [e]
  exact World.block_lt_of_cell? w _ h1
theorem UR.nil {w w' : World} {x y : List Nd} {e : Int} (h : UOut x y [] false e) (hb : Below w.heap.size w w') : UR w x y (.slice none 0 0) false e w' := ⟨⟨[], h, World.ownsRow_nil _ _ _ _, by simp, by simp⟩, hb⟩

end Go.Proofs.YtjnddclkdofgdaaDoor
