/- The document: Unify. -/
import Derived.Test.YtjnddclkdofgdaaDoorTPut
import Derived.Test.YtjnddclkdofgdaaDoorUBrM
import Derived.Test.YtjnddclkdofgdaaDoorUNumM
namespace Go.Proofs.YtjnddclkdofgdaaDoor
open Go.RowKit Go.Shelf Go.WideMaps
set_option maxRecDepth 100000

theorem TabP.new (w : World) : TabP (w.alloc (.cells #[.slice none 0 0] 82)) w.heap.size w.heap.size (.slice none 0 0) [] :=
  ⟨heap_alloc_new _ _, Nat.le_refl _, World.ownsRow_nil _ _ _ _, fun p hp => by simp at hp⟩
/-- What is written has the rows' names. -/
theorem exp_rows {Q : Tb} {E : Nat → Nat → Prop} {rep : Nat → Nat} {x : List Nat} {l : List Nd} (h : Exp (grOf Q) E rep x l) : ∀ n ∈ l, n.1 = ⟨#[]⟩ ∨ ∃ i, ∃ h : i < Q.length, n = Q[i].1.node := by
  induction h with
  | nil => intro n hn; simp at hn
  | var _ _ ih =>
    intro n hn
    rcases List.mem_cons.1 hn with rfl | hn
    · exact Or.inl rfl
    · exact ih n hn
  | @name i j r l h1 h2 _ ih =>
    intro n hn
    obtain ⟨hj, _⟩ := grOf_named h2
    rcases List.mem_cons.1 hn with rfl | hn
    · exact Or.inr ⟨j, hj, grOf_lab Q j hj⟩
    · exact ih n hn
/-- The rows' nodes are the terms'. -/
theorem Rows.node {M : List Tg} {R : List Rw} {g : Nat → Nat} {T : Tb} (h : Rows M R g) (hT : T.map Prod.fst = R) {i : Nat} (hi : i < T.length) : ∃ t, t ∈ M ∧ T[i].1.node.1 = t.2.1 ∧ (varB t.2 = true → T[i].1.parts = []) ∧ (varB t.2 = false → T[i].1.parts.length = wants t.2) := by
  have hTl : T.length = R.length := by rw [← hT]; simp
  have hg : R[i]? = some T[i].1 := by rw [← hT, List.getElem?_map, List.getElem?_eq_getElem hi]; rfl
  obtain ⟨p, hp, hgp⟩ := h.onto i (by omega)
  have hm : M[p]? = some M[p] := List.getElem?_eq_getElem hp
  refine ⟨M[p], List.getElem_mem _, ?_⟩
  cases hv : varB M[p].2
  · have := h.name p _ hm hv
    rw [hgp, hg] at this
    simp at this
    refine ⟨by rw [this], (fun e => by cases e), fun _ => ?_⟩
    rw [this]
    have hn : (M.map Prod.snd)[p]? = some M[p].2 := by rw [List.getElem?_map, hm]; rfl
    simp only [List.length_map]
    rw [pgr_ch hn, starts_length]
  · obtain ⟨r, h1, h2⟩ := h.var p _ hm hv
    rw [hgp, hg] at h1
    simp at h1
    subst h1
    refine ⟨by rw [h2], fun _ => (h.fresh i _ hg).2 (by rw [h2]; exact hv), fun e => by cases e⟩
theorem own_nodesAt {w : World} {B n c : Nat} {a : Option Addr} {l : List Nd} (h : w.ownsRow B 27 2 (.slice a n c) l.length (nodeCells l)) (hf : l.length ≤ 5864062014805) (hs : ∀ n ∈ l, n.1.size ≤ 140737488355328) : NodesIn w a l := by
  obtain ⟨a', cap, e, hc⟩ := row_nodes h
  simp at e
  obtain ⟨rfl, _, _⟩ := e
  refine ⟨hf, fun k hk => hs _ (List.getElem_mem _), fun k hk => ?_⟩
  obtain ⟨g', rfl, h1, h2⟩ := hc k _ (List.getElem?_eq_getElem hk)
  exact ⟨g', 0, rfl, by simpa using h1, by simpa using h2⟩
theorem ren_size (l : List Nd) (h : ∀ n ∈ l, n.1.size ≤ 140737488355328) : ∀ n ∈ (renL l []).1, n.1.size ≤ 140737488355328 := by
  intro n hn
  have : n.1 ∈ (renL l []).1.map Prod.fst := List.mem_map_of_mem hn
  rw [renL_names] at this
  obtain ⟨m, hm, e⟩ := List.mem_map.1 this
  rw [← e]
  exact h m hm
/-- Two terms are put. -/
structure TwoR (x y : List Nd) (kx ky : Nat) (P : Tb) : Prop where
  puts : ∃ R1 s1 s2, Put 0 [] 1 x R1 [kx] s1 ∧ Put 0 R1 1 y (P.map Prod.fst) [ky] s2
  ok : TabOk P
  la : kx < P.length
  lb : ky < P.length
  few : P.length ≤ 1000000
  pts : ∀ p ∈ P, p.1.parts.length ≤ 1000000
  short : ∀ i (h : i < P.length), P[i].1.node.1.size ≤ 140737488355328
theorem two_put {x y : List Nd} {w0 w3 w4 w5 : World} {a1 a2 : Option Addr} {B tp kx ky : Nat} {v4 v5 : Value} {P4 P5 : Tb} {s1 s2 : List Nd} (hx : termGo x 1 = true) (hy : termGo y 1 = true) (h1 : NodesIn w0 a1 x) (h2 : NodesIn w0 a2 y) (x60 : x.length ≤ 60) (y60 : y.length ≤ 60)
    (p1 : PutR w3 B tp (.slice none 0 0) [] 0 x kx s1 w4 v4 P4) (p2 : PutR w4 B tp v4 P4 0 y ky s2 w5 v5 P5) : TwoR x y kx ky P5 := by
  obtain ⟨g, hR, g1, g2⟩ := rows_two hx hy p1.put p2.put
  have hmem : ∀ t ∈ tgs 0 x ++ tgs 0 y, t.2 ∈ x ∨ t.2 ∈ y := by
    intro t ht
    rcases List.mem_append.1 ht with hm | hm
    · obtain ⟨n, hn, rfl⟩ := List.mem_map.1 hm
      exact Or.inl hn
    · obtain ⟨n, hn, rfl⟩ := List.mem_map.1 hm
      exact Or.inr hn
  have hok : TabOk P5 := hR.tabOk rfl fun p t ht => by
    rcases hmem t (List.mem_of_getElem? ht) with hm | hm
    · exact term_pos hx _ hm
    · exact term_pos hy _ hm
  have hx0 : 0 < x.length := by
    cases x with
    | nil => simp [termGo] at hx
    | cons => simp
  have hy0 : 0 < y.length := by
    cases y with
    | nil => simp [termGo] at hy
    | cons => simp
  have l1 := hR.lt (p := 0) (by simp; omega)
  have l2 := hR.lt (p := x.length) (by simp; omega)
  rw [g1] at l1
  rw [g2] at l2
  have e1 := p1.len
  have e2 := p2.len
  simp at e1
  refine ⟨⟨_, _, _, p1.put, p2.put⟩, hok, by simpa using l1, by simpa using l2, by omega, ?_, ?_⟩
  · intro p hp
    obtain ⟨i, hi, rfl⟩ := List.getElem_of_mem hp
    obtain ⟨t, ht, _, k1, k2⟩ := hR.node rfl hi
    cases hv : varB t.2
    · rw [k2 hv]
      have hnok : nodeOk t.2 = true := by
        rcases hmem t ht with hm | hm
        · exact termGo_ok hx _ hm
        · exact termGo_ok hy _ hm
      have := (wants_num hnok).2
      omega
    · rw [k1 hv]; simp
  · intro i hi
    obtain ⟨t, ht, k1, _⟩ := hR.node rfl hi
    rw [k1]
    rcases hmem t ht with hm | hm
    · obtain ⟨k, hk, e⟩ := List.getElem_of_mem hm
      rw [← e]; exact h1.short k hk
    · obtain ⟨k, hk, e⟩ := List.getElem_of_mem hm
      rw [← e]; exact h2.short k hk
/-- What the document's Unify answers. -/
structure DR (w : World) (x y : List Nd) (v : Value) (yes : Bool) (e : Int) (w' : World) : Prop where
  out : ∃ l, DOut x y l yes e ∧ OwnN w' w.heap.size v l ∧ l.length ≤ 500 ∧ ∀ n ∈ l, n.1.size ≤ 140737488355328
  low : Below w.heap.size w w'
theorem DR.nil {w w' : World} {x y : List Nd} {e : Int} (h : DOut x y [] false e) (hb : Below w.heap.size w w') : DR w x y (.slice none 0 0) false e w' := ⟨⟨[], h, World.ownsRow_nil _ _ _ _, by simp, by simp⟩, hb⟩
theorem TwoR.out {x y l : List Nd} {kx ky : Nat} {P : Tb} {b : Bool} {e : Int} (h : TwoR x y kx ky P) (hi : isTermL x = true ∧ isTermL y = true) (ha : Ans (grOf P) (Cl (grOf P) (SBase P kx ky)) P.length (fun _ => True) kx l b e) : DOut x y l b e := by
  obtain ⟨R1, s1, s2, h1, h2⟩ := h.puts
  exact Or.inr ⟨hi, R1, _, kx, ky, s1, s2, P, h1, h2, rfl, ha⟩

set_option maxHeartbeats 4000000 in
theorem rUnify_any (a1 a2 : Option Addr) (c1 c2 : Nat) (x y : List Nd) (w : World) (h1 : NodesIn w a1 x) (h2 : NodesIn w a2 y) :
    Calls Tryd.prog 19 #[.slice a1 x.length c1, .slice a2 y.length c2] w fun e w' => ∃ v yes er, e = .returned (.tuple #[v, .bool yes, .int .i64 er]) ∧ DR w x y v yes er w' := by
  have CI1 := hide (rIsTerm_any a1 c1 x w h1)
  have CI2 := hide (fun wx (hx : Below w.heap.size w wx) => rIsTerm_any a2 c2 y wx (h2.below hx (Nat.le_refl _)))
  have H1 := hide h1
  have H2 := hide h2
  clear h1 h2
  by_cases hi : isTermL x = true ∧ isTermL y = true
  · have hxi := hi.1
    have hyi := hi.2
    have t1 : termGo x 1 = true ∧ x.length ≤ 60 := by unfold isTermL at hxi; simpa using hxi
    have t2 : termGo y 1 = true ∧ y.length ≤ 60 := by unfold isTermL at hyi; simpa using hyi
    rw [hxi] at CI1
    rw [hyi] at CI2
    have HI := hide hi
    have hx60 := t1.2
    have hy60 := t2.2
    have HT1 := hide t1.1
    have HT2 := hide t2.1
    clear hi hxi hyi t1 t2
    have CP1 := hide (fun (w2 : World) (hb : Below w.heap.size w w2) => tput_any w2.heap.size w2.heap.size 0 (by omega) a1 c1 x hx60 (fun p hp => Nat.lt_of_lt_of_le (nodes_low H1.out HT1.out p hp) hb.size) x.length 0 0 (.slice none 0 0) [] (w2.alloc (.cells #[.slice none 0 0] 82)) (by simp) (by simpa using HT1.out) (H1.out.below (hb.trans ((Below.refl w.heap.size w2).alloc hb.size _)) (Nat.le_refl _)) (TabP.new w2) (by simp; omega) (by simp))
    have CP2 := hide (fun (B tp : Nat) (v : Value) (P : Tb) (w4 : World) (hB : w.heap.size ≤ B) (hb : Below w.heap.size w w4) (ht : TabP w4 B tp v P) (hP : P.length ≤ 1000) (hB4 : B ≤ w4.heap.size) => tput_any B tp 0 (by omega) a2 c2 y hy60 (fun p hp => Nat.lt_of_lt_of_le (nodes_low H2.out HT2.out p hp) hB) y.length 0 0 v P w4 (by simp) (by simpa using HT2.out) (H2.out.below hb (Nat.le_refl _)) ht (by simp; omega) hB4)
    go_enter Tryd.func19, Tryd.ntmps19
    go_wp2_with (first
      | (go_at_call 39; refine (tSame_any _ _ v5 P5 kx ky HTW.out.la HTW.out.lb w5 HP2.out.tab HTW.out.ok HTW.out.few HTW.out.pts).mono ?_)
      | (go_at_call 38; refine (unhide CP2 w2.heap.size w2.heap.size v4 P4 w4 hb2s HB4.out HP1.out.tab hP4 hw24).mono ?_; rintro e w5 ⟨ky, i5, rfl, hi5, -, ht5, v5, P5, hp5⟩; have HP2 := hide hp5; have HTW := hide (two_put HT1.out HT2.out H1.out H2.out hx60 hy60 HP1.out hp5); clear hp5 hi5 ht5)
      | (go_at_call 38; refine (unhide CP1 w2 HB2.out).mono ?_; rintro e w4 ⟨kx, i4, rfl, hi4, -, ht4, v4, P4, hp4⟩; have HP1 := hide hp4; have hP4 : P4.length ≤ 1000 := (by have := hp4.len; simp at this; omega); have hw24 : w2.heap.size ≤ w4.heap.size := (by have := hp4.far.size; simp at this; omega); have HB4 := hide (HB2.out.trans (((Below.refl w.heap.size w2).alloc hb2s (.cells #[.slice none 0 0] 82)).trans (hp4.far.low hb2s (fun k e => by cases e) (by simp; omega)))); clear hp4 hi4 ht4)
      | (go_at_call 37; refine (unhide CI2 _ HB1.out).mono ?_; rintro e w2 ⟨rfl, hb2⟩; have HB2 := hide (HB1.out.trans (hb2.mono hb1s)); have hb2s := HB2.out.size; clear hb2)
      | (go_at_call 37; refine (unhide CI1).mono ?_; rintro e w1 ⟨rfl, hb1⟩; have HB1 := hide hb1; have hb1s := hb1.size; clear hb1))
    rintro e w6 ⟨r, rfl, ⟨b, rfl, hb1, hb2⟩, hg6⟩
    have hB5 : Below w.heap.size w w5 := HB4.out.trans (HP2.out.far.low (Nat.le_trans hb2s HP1.out.tab.high) (fun k e => Nat.le_trans hb2s (own_lt HP1.out.tab.row k e).1) (Nat.le_trans hb2s hw24))
    have hB6 : Below w.heap.size w w6 := hB5.trans (below_grownB' (fun g e => Nat.le_trans hb2s (own_lt HP2.out.tab.row g e).1) hB5.size hg6)
    have HB6 := hide hB6
    clear hB5 hB6 hg6 CP1 CP2 CI1 CI2 HB4 HB1 HB2 hb1s hP4 hw24
    cases b with
    | false =>
      have HU : Hid (DOut x y [] false 0) := hide (HTW.out.out HI.out (Or.inl ⟨fun hh => (by have := hb1.2 ⟨hh.1, fun i hi => hh.2 i hi trivial⟩; cases this), rfl, rfl, rfl⟩))
      clear hb1 hb2
      go_wp2
      refine bodyPost_ret (v := .tuple #[.slice none 0 0, .bool false, .int .i64 0]) (by simp [results, Tryd.results19, go_sem]) rfl ?_
      exact ⟨_, _, _, rfl, DR.nil HU.out HB6.out⟩
    | true =>
      have hyes := hb1.1 rfl
      obtain ⟨Q, hQt, hSh, hgr, hQok, hcls⟩ := hb2 rfl
      have hcf : clsR Q = Cl (grOf P5) (SBase P5 kx ky) := by funext i j; exact propext (hcls i j)
      have hD : Down (grOf Q) (clsR Q) := by rw [hgr, hcf]; exact Cl.isDown _ _
      have hNC : NoClash (grOf Q) (clsR Q) := by rw [hgr, hcf]; exact hyes.1
      have hlQ : Q.length = P5.length := hSh.len
      obtain ⟨m, hm⟩ := (hyes.2 kx HTW.out.la).exp (rep := rdOf Q)
      have hm' : Exp (grOf Q) (clsR Q) (rdOf Q) [kx] m := by rw [hgr, hcf]; exact hm
      have hsz : ∀ n ∈ m, n.1.size ≤ 140737488355328 := fun n hn => by
        rcases exp_rows hm' n hn with e | ⟨i, hi, rfl⟩
        · rw [e]; exact Nat.zero_le _
        · rw [(hSh.row i (by omega) hi).2.2]
          exact HTW.out.short i (by omega)
      have CN := hide (tNodes_any _ _ v5 Q hQok hD hNC (by rw [hlQ]; exact HTW.out.few) (fun p hp => by
        obtain ⟨i, hi, rfl⟩ := List.getElem_of_mem hp
        rw [(hSh.row i (by omega) hi).2.1]
        exact HTW.out.pts _ (List.getElem_mem _)) w6 hQt w6.heap.size (Nat.le_refl _) (m.length + 1) kx m [] (.slice none 0 0) w6 (by omega) hm' (by rw [hlQ]; exact HTW.out.la) (Below.refl _ _) (Nat.le_refl _) (World.ownsRow_nil _ _ _ _) (by simp))
      rw [List.nil_append] at CN
      have HANS := hide (fun (l : List Nd) (b : Bool) (e : Int) (h : (500 < m.length ∧ l = [] ∧ b = false ∧ e = 4) ∨ (m.length ≤ 500 ∧ l = (renL m []).1 ∧ b = true ∧ e = 0)) => HTW.out.out (l := l) (b := b) (e := e) HI.out (Or.inr ⟨⟨hyes.1, fun i hi _ => hyes.2 i hi⟩, m, rdOf Q, fun p q => (rdOf_iff hQok p q).trans (hcls p q), hm, h⟩))
      have HSZ := hide hsz
      clear hb1 hb2 hyes hQt hSh hgr hQok hcls hcf hD hNC hlQ hm hm' hsz
      go_wp2_with (go_at_call 40; refine (unhide CN).mono ?_)
      rintro e w7 ⟨v7, rfl, ho7, hb7⟩
      clear CN
      have HB7 := hide (HB6.out.trans (hb7.mono HB6.out.size))
      obtain ⟨a7, c7, rfl⟩ := own_shape ho7
      by_cases hbig : 500 < m.length
      · obtain ⟨k7, hk7⟩ : ∃ k7, k7 = (m.take 501).length := ⟨_, rfl⟩
        rw [← hk7]
        have hbi : (500 : Int) < (k7 : Int) := by rw [hk7]; simp; omega
        have HU := hide (HANS.out [] false 4 (Or.inl ⟨hbig, rfl, rfl, rfl⟩))
        clear ho7 hb7 hk7 HANS
        go_wp2
        refine bodyPost_ret (v := .tuple #[.slice none 0 0, .bool false, .int .i64 4]) (by simp [results, Tryd.results19, go_sem]) rfl ?_
        exact ⟨_, _, _, rfl, DR.nil HU.out HB7.out⟩
      · have htk : m.take 501 = m := List.take_of_length_le (by omega)
        rw [htk] at ho7 ⊢
        have hbi : ¬ (500 : Int) < (m.length : Int) := by omega
        have CR := hide (renamed_any w7.heap.size a7 c7 m (.slice none 0 0) [] w7 w7 (own_nodesAt ho7 (by omega) HSZ.out) (Below.refl _ _) (Nat.le_refl _) (Nat.le_refl _) (World.ownsRow_nil _ _ _ _) (by simp; omega))
        have HU := hide (HANS.out _ true 0 (Or.inr ⟨by omega, rfl, rfl, rfl⟩))
        have HL : Hid ((renL m []).1.length ≤ 500) := hide (by rw [(renL_bounds m []).1]; omega)
        clear ho7 hb7 htk HANS
        go_wp2_with (go_at_call 41; refine (unhide CR).mono ?_; rintro e w8 ⟨vo, vs', rfl, ho8, -, hk8⟩; have HO8 := hide ho8; have HB8 := hide (hk8.below (Nat.le_refl _)); clear ho8 hk8)
        refine bodyPost_ret (v := .tuple #[vo, .bool true, .int .i64 0]) (by simp [results, Tryd.results19, go_sem]) rfl ?_
        exact ⟨_, _, _, rfl, ⟨⟨_, HU.out, own_mono HO8.out HB7.out.size, HL.out, ren_size m HSZ.out⟩, HB7.out.trans (HB8.out.mono HB7.out.size)⟩⟩
  · have HR : Hid (DOut x y [] false 5) := hide (Or.inl ⟨hi, rfl, rfl, rfl⟩)
    cases i1 : isTermL x with
    | false =>
      rw [i1] at CI1
      clear i1 hi
      go_enter Tryd.func19, Tryd.ntmps19
      go_wp2_with (first
        | (go_at_call 37; refine (unhide CI2 _ HB1.out).mono ?_; rintro e w2 ⟨rfl, hb2⟩; have HB2 := hide (HB1.out.trans (hb2.mono hb1s)); clear hb2)
        | (go_at_call 37; refine (unhide CI1).mono ?_; rintro e w1 ⟨rfl, hb1⟩; have HB1 := hide hb1; have hb1s := hb1.size; clear hb1))
      refine bodyPost_ret (v := .tuple #[.slice none 0 0, .bool false, .int .i64 5]) (by simp [results, Tryd.results19, go_sem]) rfl ?_
      exact ⟨_, _, _, rfl, DR.nil HR.out HB2.out⟩
    | true =>
      have i2 : isTermL y = false := by
        cases h : isTermL y
        · rfl
        · exact absurd ⟨i1, h⟩ hi
      rw [i1] at CI1
      rw [i2] at CI2
      clear i1 i2 hi
      go_enter Tryd.func19, Tryd.ntmps19
      go_wp2_with (first
        | (go_at_call 37; refine (unhide CI2 _ HB1.out).mono ?_; rintro e w2 ⟨rfl, hb2⟩; have HB2 := hide (HB1.out.trans (hb2.mono hb1s)); clear hb2)
        | (go_at_call 37; refine (unhide CI1).mono ?_; rintro e w1 ⟨rfl, hb1⟩; have HB1 := hide hb1; have hb1s := hb1.size; clear hb1))
      refine bodyPost_ret (v := .tuple #[.slice none 0 0, .bool false, .int .i64 5]) (by simp [results, Tryd.results19, go_sem]) rfl ?_
      exact ⟨_, _, _, rfl, DR.nil HR.out HB2.out⟩

end Go.Proofs.YtjnddclkdofgdaaDoor
