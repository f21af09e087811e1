/- The document's own answer: variables are numbered from 0 on as they stand first. Terms as graphs: what is the same by what was made the same, what has an end, and what is written of it. -/
import Derived.Test.YtjnddclkdofgdaaDoorMem
import Derived.Test.YtjnddclkdofgdaaDoorRTerm
namespace Go.Proofs.YtjnddclkdofgdaaDoor
open Go.RowKit
set_option maxRecDepth 100000

/-- The last place at which a number stands in a list that is handed over from its end; -1: nowhere. -/
def posR : List Int → Int → Int
  | [], _ => -1
  | y :: r, x => if y = x then r.length else posR r x
/-- The last place at which a number stands; -1: nowhere. -/
def posT (l : List Int) (x : Int) : Int := posR l.reverse x
theorem posT_nil (x : Int) : posT [] x = -1 := rfl
theorem posT_snoc (l : List Int) (y x : Int) : posT (l ++ [y]) x = if y = x then (l.length : Int) else posT l x := by simp [posT, posR]
theorem posT_bounds (l : List Int) (x : Int) : -1 ≤ posT l x ∧ posT l x < l.length := by
  unfold posT
  rw [← List.length_reverse]
  generalize l.reverse = r
  induction r with
  | nil => simp [posR]
  | cons y r ih =>
    simp only [posR, List.length_cons]
    split
    · omega
    · omega
/-- One node more. -/
def renStep (st : List Nd × List Int) (n : Nd) : List Nd × List Int :=
  if varB n then (if posT st.2 n.2 < 0 then (st.1 ++ [(n.1, (st.2.length : Int))], st.2 ++ [n.2]) else (st.1 ++ [(n.1, posT st.2 n.2)], st.2))
  else (st.1 ++ [n], st.2)
/-- Nodes whose variables are numbered anew, behind those that stood there. -/
def renL (l : List Nd) (seen : List Int) : List Nd × List Int := l.foldl renStep ([], seen)
theorem renL_take (l : List Nd) (seen : List Int) (k : Nat) (h : k < l.length) : renL (l.take (k + 1)) seen = renStep (renL (l.take k) seen) l[k] := by
  rw [List.take_succ_eq_append_getElem h]; simp only [renL, List.foldl_append, List.foldl_cons, List.foldl_nil]
theorem renL_bounds (l : List Nd) (seen : List Int) : (renL l seen).1.length = l.length ∧ (renL l seen).2.length ≤ seen.length + l.length := by
  unfold renL
  suffices ∀ (l : List Nd) (st : List Nd × List Int), (l.foldl renStep st).1.length = st.1.length + l.length ∧ (l.foldl renStep st).2.length ≤ st.2.length + l.length by
    have := this l ([], seen); simpa using this
  intro l
  induction l with
  | nil => intro st; simp
  | cons x r ih =>
    intro st
    have h := ih (renStep st x)
    have h1 : (renStep st x).1.length = st.1.length + 1 ∧ (renStep st x).2.length ≤ st.2.length + 1 := by
      unfold renStep
      split
      · split <;> simp
      · simp
    simp only [List.foldl_cons, List.length_cons]
    omega

theorem infoNode : (Tryd.prog.info? 27).map (fun i => (i.zero, i.size, i.bytes)) = some (some (.agg #[.string ⟨#[]⟩, .int .i64 0]), 2, 24) := by kernel_rfl
theorem infoInt : (Tryd.prog.info? 3).map (fun i => (i.zero, i.size, i.bytes)) = some (some (.int .i64 0), 1, 8) := by kernel_rfl

theorem new2 (w : World) (s : Value) (x : Value) (t : TypeId) (n : Nat) (hn : n = w.heap.size) : ∀ j u, [s, x][j]? = some u → (w.alloc (.cells #[s, x] t)).cell? ((⟨n, 0, none⟩ : Addr).add j) = some u := by
  subst hn
  intro j u hj
  match j, hj with
  | 0, hj => simp at hj; subst hj; simp [Addr.add]
  | 1, hj => simp at hj; subst hj; simp [Addr.add]
  | j + 2, hj => simp at hj
theorem new1 (w : World) (s : Value) (t : TypeId) (n : Nat) (hn : n = w.heap.size) : ∀ j u, [s][j]? = some u → (w.alloc (.cells #[s] t)).cell? ((⟨n, 0, none⟩ : Addr).add j) = some u := by
  subst hn
  intro j u hj
  match j, hj with
  | 0, hj => simp at hj; subst hj; simp [Addr.add]
  | j + 1, hj => simp at hj
theorem one2 (s : ByteArray) (x : Int) : ∀ u ∈ [Value.string s, Value.int .i64 x], u.oneCell' = true := by
  intro u hu
  simp at hu
  rcases hu with rfl | rfl <;> rfl
theorem one1 (x : Int) : ∀ u ∈ [Value.int .i64 x], u.oneCell' = true := by
  intro u hu
  simp at hu
  subst hu
  rfl
theorem own_ints {w : World} {B : Nat} {v : Value} {l : List Int} (h : w.ownsRow B 3 1 v l.length (l.map (Value.int .i64))) :
    ∃ a cap, v = .slice a l.length cap ∧ ∀ k (h : k < l.length), ∃ g, a = some ⟨g, 0, none⟩ ∧ w.cell? ⟨g, k, none⟩ = some (.int .i64 l[k]) := by
  obtain ⟨h1, ⟨rfl, h2⟩ | ⟨g, cap, cur, rfl, hb, hh, hc, hm, hz, ht⟩⟩ := h
  · exact ⟨none, 0, by rw [h2], fun k hk => by omega⟩
  · have ho : w.ownsRow B 3 1 (.slice (some ⟨g, 0, none⟩) l.length cap) l.length (l.map (Value.int .i64)) := ⟨h1, Or.inr ⟨g, cap, cur, rfl, hb, hh, hc, hm, hz, ht⟩⟩
    refine ⟨_, _, rfl, fun k hk => ⟨g, rfl, ?_⟩⟩
    rw [ho.cellAt k (by omega)]
    simp [hk]

theorem own_drewN {w : World} {B : Nat} {e : TypeId} {size : Nat} {v : Value} {n : Nat} {xs : List Value} (h : w.ownsRow B e size v n xs) (d : Nat) : (w.drewN d).ownsRow B e size v n xs := h
/-- A node more stands behind. -/
theorem ren_out {B : Nat} {w wm w1 : World} {o v' sv : Value} {out : List Nd} {s : ByteArray} {x : Int} {sn : List Int} (ho : wm.ownsRow w.heap.size 27 2 o out.length (nodeCells out)) (hse : wm.ownsRow B 3 1 sv sn.length (sn.map (Value.int .i64))) (hkp : Kept B 3 w wm)
    (ho' : w1.ownsRow w.heap.size 27 2 v' (out.length + 1) (nodeCells out ++ [.string s, .int .i64 x])) (hg : wm.grownBy w1 o.ownBlock) :
    w1.ownsRow w.heap.size 27 2 v' (out ++ [(s, x)]).length (nodeCells (out ++ [(s, x)])) ∧ w1.ownsRow B 3 1 sv sn.length (sn.map (Value.int .i64)) ∧ Kept B 3 w w1 := by
  refine ⟨?_, hse.kept hg (own_apart hse ho (by decide)), hkp.grownNew hg ho (Nat.le_refl _)⟩
  rw [nodeCells_snoc, List.length_append]
  exact ho'
/-- A number more stands among those that were seen. -/
theorem ren_seen {B : Nat} {w wm w1 : World} {o v' sv : Value} {out : List Nd} {x : Int} {sn : List Int} (ho : wm.ownsRow w.heap.size 27 2 o out.length (nodeCells out)) (hse : wm.ownsRow B 3 1 sv sn.length (sn.map (Value.int .i64))) (hkp : Kept B 3 w wm)
    (ho' : w1.ownsRow B 3 1 v' (sn.length + 1) (sn.map (Value.int .i64) ++ [.int .i64 x])) (hg : wm.grownBy w1 sv.ownBlock) :
    w1.ownsRow w.heap.size 27 2 o out.length (nodeCells out) ∧ w1.ownsRow B 3 1 v' (sn ++ [x]).length ((sn ++ [x]).map (Value.int .i64)) ∧ Kept B 3 w w1 := by
  refine ⟨ho.kept hg (own_apart ho hse (by decide)), ?_, hkp.grownOwn hg hse⟩
  rw [List.map_append, List.length_append]
  exact ho'

theorem grown_setCell (w : World) (p : Addr) (u : Value) : w.grownBy (w.setCell p u) (some p.block) :=
  ⟨rfl, rfl, rfl, by simp [World.setCell], fun k _ hne => Below.heap_setCell _ _ _ _ (fun e => hne (by rw [e]))⟩
/-- The box of a node, behind a number more. -/
theorem ren_box {B : Nat} {w wd w1 : World} {o v' sv : Value} {out : List Nd} {s : ByteArray} {x : Int} {sn : List Int} {Y : Obj} (hod : wd.ownsRow w.heap.size 27 2 o out.length (nodeCells out)) (hsd : wd.ownsRow B 3 1 sv sn.length (sn.map (Value.int .i64))) (hkd : Kept B 3 w wd)
    (ho' : w1.ownsRow B 3 1 v' (sn.length + 1) (sn.map (Value.int .i64) ++ [.int .i64 x])) (hg : ((wd.alloc (.cells #[.string s, .int .i64 x] 27)).alloc Y).grownBy w1 sv.ownBlock) :
    wd.heap.size < w1.heap.size ∧ w1.cell? ⟨wd.heap.size, 0, none⟩ = some (.string s) ∧ w1.cell? ⟨wd.heap.size, 1, none⟩ = some (.int .i64 x) ∧ w1.frozen? ⟨wd.heap.size, 1, none⟩ = false ∧
      ∀ u, (w1.setCell ⟨wd.heap.size, 1, none⟩ u).ownsRow w.heap.size 27 2 o out.length (nodeCells out) ∧ (w1.setCell ⟨wd.heap.size, 1, none⟩ u).ownsRow B 3 1 v' (sn ++ [x]).length ((sn ++ [x]).map (Value.int .i64)) ∧ Kept B 3 w (w1.setCell ⟨wd.heap.size, 1, none⟩ u) := by
  have hbx : ((wd.alloc (.cells #[.string s, .int .i64 x] 27)).alloc Y).heap[wd.heap.size]? = some (.cells #[.string s, .int .i64 x] 27) := by
    show ((wd.heap.push _).push Y)[wd.heap.size]? = _
    simp [Array.getElem?_push]
  have hs0 : wd.heap.size + 2 ≤ w1.heap.size := by have := hg.size; simpa using this
  have hw1 : w1.heap[wd.heap.size]? = some (.cells #[.string s, .int .i64 x] 27) := by
    rw [hg.block _ (by simp; omega) ?_, hbx]
    intro e
    have := own_lt hsd _ e.symm
    omega
  have R := ren_seen ((hod.alloc _).alloc _) ((hsd.alloc _).alloc _) ((hkd.alloc _).alloc _) ho' hg
  have hk := hkd.size
  refine ⟨by omega, by simp [World.cell?, hw1], by simp [World.cell?, hw1], by simp [World.frozen?, hw1], fun u => ⟨?_, ?_, ?_⟩⟩
  · refine R.1.kept (grown_setCell _ _ _) (Or.inr fun e => ?_)
    have := own_lt hod _ e
    simp at this
  · refine R.2.1.kept (grown_setCell _ _ _) (Or.inr fun e => ?_)
    obtain ⟨_, ⟨rfl, _⟩ | ⟨g, cap, cur, rfl, hb, hh, _⟩⟩ := R.2.1
    · simp [Value.ownBlock] at e
    · simp [Value.ownBlock] at e
      subst e
      rw [hw1] at hh
      simp at hh
  · exact R.2.2.setCell (by simpa using hk) u

set_option maxHeartbeats 2000000 in
theorem renamed_any (B : Nat) (a : Option Addr) (cp : Nat) (l : List Nd) (vs : Value) (seen : List Int) (w0 w : World) (h : NodesIn w0 a l) (hb : Below B w0 w) (hB : w0.heap.size ≤ B) (hBw : B ≤ w.heap.size)
    (hs : w.ownsRow B 3 1 vs seen.length (seen.map (Value.int .i64))) (hfew : l.length + seen.length ≤ 10000000) :
    Calls Tryd.prog 41 #[.slice a l.length cp, vs] w fun e w' => ∃ vo vs', e = .returned (.tuple #[vo, vs']) ∧ w'.ownsRow w.heap.size 27 2 vo (renL l seen).1.length (nodeCells (renL l seen).1) ∧
      w'.ownsRow B 3 1 vs' (renL l seen).2.length ((renL l seen).2.map (Value.int .i64)) ∧ Kept B 3 w w' := by
  obtain ⟨iN, hN, hN0, hN1, hN2⟩ := info_parts infoNode
  obtain ⟨iI, hI, hI0, hI1, hI2⟩ := info_parts infoInt
  go_enter Tryd.func41, Tryd.ntmps41
  go_wp2
  go_loopw [1, 6, 7] (fun s o i wr => ∃ k : Nat, k ≤ l.length ∧ i = .int .i64 k ∧ wr.ownsRow w.heap.size 27 2 o (renL (l.take k) seen).1.length (nodeCells (renL (l.take k) seen).1) ∧
      wr.ownsRow B 3 1 s (renL (l.take k) seen).2.length ((renL (l.take k) seen).2.map (Value.int .i64)) ∧ Kept B 3 w wr) (fun _ _ i _ => l.length - (intOf i).toNat)
  case atStart => exact ⟨0, Nat.zero_le _, rfl, World.ownsRow_nil _ _ _ _, hs, Kept.refl _ _ _⟩
  case round =>
    obtain ⟨k, hk, rfl, ho, hse, hkp⟩ := hrel
    have hbd := renL_bounds (l.take k) seen
    have hlt' : (l.take k).length ≤ k := List.length_take_le _ _
    by_cases hlt : k < l.length
    · obtain ⟨b, q, rfl, e1, f1⟩ := h.cell k hlt
      have hbr := hb.trans (hkp.below hBw)
      have e2 := Below.at' hbr hB e1
      have f2 := Below.at' hbr hB f1
      have hst := renL_take l seen k hlt
      generalize hR : renL (l.take k) seen = R at *
      generalize l[k] = nd at *
      obtain ⟨out, sn⟩ := R
      obtain ⟨s, x⟩ := nd
      simp only at e2 f2 ho hse hbd
      obtain ⟨hbd1, hbd2⟩ := hbd
      have hbd3 : out.length ≤ k := by omega
      have hbd4 : sn.length + l.length ≤ 20000000 := by omega
      have hhs := hkp.size
      clear e1 f1 h hR hbr hbd1 hbd2
      by_cases hv : s.toList.isEmpty = true
      · obtain ⟨sa, scp, rfl, hsc⟩ := own_ints hse
        have hstN : posT sn x < 0 → renL (l.take (k + 1)) seen = (out ++ [(s, (sn.length : Int))], sn ++ [x]) := fun hp => by rw [hst]; simp [renStep, varB, hv, hp]
        have hstO : ¬ posT sn x < 0 → renL (l.take (k + 1)) seen = (out ++ [(s, posT sn x)], sn) := fun hp => by rw [hst]; simp [renStep, varB, hv, hp]
        have HN := hide hstN
        have HO := hide hstO
        have HSC := hide hsc
        clear hst hstN hstO hsc
        go_wp2
        go_loopw [9, 10] (fun t j wi => ∃ (n : Nat) (p : Int), n ≤ sn.length ∧ j = .int .i64 n ∧ t = .int .i64 p ∧ p = posT (sn.take n) x ∧ -1 ≤ p ∧ p < n ∧ ∃ wd, (∃ d, wd = wr.drewN d) ∧ wi = wd.alloc (.cells #[.string s, .int .i64 x] 27)) (fun _ j _ => sn.length - (intOf j).toNat)
        case atStart => exact ⟨0, -1, Nat.zero_le _, rfl, rfl, rfl, by omega, by omega, wr, ⟨0, rfl⟩, rfl⟩
        case round =>
          obtain ⟨n, p, hn, rfl, rfl, hpe, hp1, hp2, wd, hd, rfl⟩ := hrel
          have hod : wd.ownsRow w.heap.size 27 2 u6 out.length (nodeCells out) := own_below ho (below_drawn hd) (Nat.le_refl _)
          have hsd : wd.ownsRow B 3 1 (.slice sa sn.length scp) sn.length (sn.map (Value.int .i64)) := own_below hse (below_drawn hd) (Nat.le_refl _)
          have hkd : Kept B 3 w wd := hkp.drawn hd
          have hhd := hkd.size
          have hsz : wr.heap.size = wd.heap.size := by obtain ⟨d, rfl⟩ := hd; rfl
          have HSZ := hide hsz
          have HD := hide hd
          clear hsz
          clear hd
          have HPE := hide hpe
          clear hpe
          by_cases hnl : n < sn.length
          · obtain ⟨g, rfl, hc⟩ := HSC.out n hnl
            have hcg : (wd.alloc (.cells #[.string s, .int .i64 x] 27)).cell? ⟨g, n, none⟩ = some (.int .i64 sn[n]) := Below.at' ((Below.refl _ _).alloc (Nat.le_refl _) _) (Nat.le_refl _) (Below.at' (below_drawn HD.out) (Nat.le_refl _) hc)
            have hbx : (wd.alloc (.cells #[.string s, .int .i64 x] 27)).cell? ⟨wr.heap.size, 1, none⟩ = some (.int .i64 x) := by rw [HSZ.out]; exact new2 wd _ _ _ _ rfl 1 _ rfl
            clear hc hod hsd hkd
            go_wp2
            go_quiet (fail)
            go_wp2
            · have he : (sn[n] == x) = true := by assumption
              go_roundw
              case rel => exact ⟨n + 1, n, by omega, by go_num, rfl, by rw [List.take_succ_eq_append_getElem hnl, posT_snoc, if_pos (by simpa using he), List.length_take, Nat.min_eq_left hn], by omega, by omega, _, drawn_trans HD.out ⟨_, rfl⟩, rfl⟩
              case measure => simp [intOf]; omega
            · have he : (sn[n] == x) = false := by assumption
              go_roundw
              case rel => exact ⟨n + 1, p, by omega, by go_num, rfl, by rw [List.take_succ_eq_append_getElem hnl, posT_snoc, if_neg (by simpa using he)]; exact HPE.out, by omega, by omega, _, drawn_trans HD.out ⟨_, rfl⟩, rfl⟩
              case measure => simp [intOf]; omega
          · have hnn : sn.take n = sn := List.take_of_length_le (by omega)
            have HPS : Hid (p = posT sn x) := by rw [← hnn]; exact HPE.out
            have HKP := hide hkd
            have HSE := hide hsd
            clear hnn HPE HSC ho hse hkp hkd HD
            rw [HSZ.out]
            by_cases hp : p < 0
            · have HST := hide (HN.out (by rw [← HPS.out]; exact hp))
              clear HN HO HPS
              go_wp2_with (first
                | (at_builtin; refine wpList_append_own _ rfl (.tmp 42) (.tmp 45) 34 rfl B 3 iI (.int .i64 0) 1 8 Tryd.underlying34 hI hI0 hI1 hI2 rfl (by decide) _ _ _ rfl ((hsd.alloc _).alloc _) ⟨wd.heap.size + 1, 0, none⟩ 1 1 [.int .i64 x] rfl rfl ?d1 ?d2 ?d3 ?d4 ?d5 ?_)
                | go_in)
              case d1 => exact new1 _ _ _ _ (by simp)
              case d2 => exact one1 _
              case d3 => unfold maxLen; omega
              case d4 => omega
              case d5 => simp; omega
              intro v' w1 ho' hg' _
              obtain ⟨hz1, hx0, hx1, hx2, R⟩ := ren_box hod HSE.out HKP.out ho' hg'
              have hr1 := (R (.int .i64 sn.length)).1
              have RR := hide (R (.int .i64 sn.length))
              clear ho' hg' hod R
              go_wp2_with (first
                | (at_builtin; refine wpList_append_own _ rfl (.tmp 49) (.tmp 51) 28 rfl w.heap.size 27 iN (.agg #[.string ⟨#[]⟩, .int .i64 0]) 2 24 Tryd.underlying28 hN hN0 hN1 hN2 rfl (by decide) _ _ _ rfl (hr1.alloc _) ⟨w1.heap.size, 0, none⟩ 1 1 [.string s, .int .i64 sn.length] rfl rfl ?f1 ?f2 ?f3 ?f4 ?f5 ?_)
                | go_in)
              case f1 => exact new2 _ _ _ _ _ (by simp [World.setCell])
              case f2 => first | exact one2 _ _ | exact ⟨rfl, rfl⟩
              case f3 => unfold maxLen; omega
              case f4 => omega
              case f5 => first | omega | (simp [World.setCell]; omega)
              intro v2 w2 ho2 hg2 _
              have R := ren_out (RR.out.1.alloc _) (RR.out.2.1.alloc _) (RR.out.2.2.alloc _) ho2 hg2
              clear ho2 hg2 hr1 hx0 hx1 hx2
              go_wp2
              go_roundw
              case rel => exact ⟨k + 1, by omega, by go_num, by rw [HST.out]; exact R.1, by rw [HST.out]; exact R.2.1, R.2.2⟩
              case measure => simp [intOf]; omega
            · have HST := hide (HO.out (by rw [← HPS.out]; omega))
              clear HN HO
              go_wp2_with (first
                | (at_builtin; refine wpList_append_own _ rfl (.tmp 49) (.tmp 51) 28 rfl w.heap.size 27 iN (.agg #[.string ⟨#[]⟩, .int .i64 0]) 2 24 Tryd.underlying28 hN hN0 hN1 hN2 rfl (by decide) _ _ _ rfl ((hod.alloc _).alloc _) ⟨wd.heap.size + 1, 0, none⟩ 1 1 [.string s, .int .i64 p] rfl rfl ?b1 ?b2 ?b3 ?b4 ?b5 ?_)
                | go_in)
              try case b1 => exact new2 _ _ _ _ _ (by simp)
              case b2 => first | exact one2 _ _ | exact ⟨rfl, rfl⟩
              case b3 => unfold maxLen; omega
              case b4 => omega
              case b5 => first | omega | (simp; omega)
              intro v' w1 ho' hg' _
              have R := ren_out ((hod.alloc _).alloc _) ((HSE.out.alloc _).alloc _) ((HKP.out.alloc _).alloc _) ho' hg'
              clear ho' hg' hod
              go_wp2
              go_roundw
              case rel => exact ⟨k + 1, by omega, by go_num, by rw [HST.out, ← HPS.out]; exact R.1, by rw [HST.out]; exact R.2.1, R.2.2⟩
              case measure => simp [intOf]; omega
      · have hv' : s.toList.isEmpty = false := by simpa using hv
        have hst' : renL (l.take (k + 1)) seen = (out ++ [(s, x)], sn) := by rw [hst]; simp [renStep, varB, hv]
        have HST := hide hst'
        have HKP := hide hkp
        have HSE := hide hse
        clear hst hst' hv hkp hse
        go_wp2_with (first
          | (at_builtin; refine wpList_append_own _ rfl _ _ 28 rfl w.heap.size 27 iN (.agg #[.string ⟨#[]⟩, .int .i64 0]) 2 24 Tryd.underlying28 hN hN0 hN1 hN2 rfl (by decide) _ _ _ rfl ((ho.alloc _).alloc _) ⟨wr.heap.size + 1, 0, none⟩ 1 1 [.string s, .int .i64 x] rfl rfl ?c1 ?c2 ?c3 ?c4 ?c5 ?_)
          | go_in)
        case c1 => exact new2 _ _ _ _ _ (by simp)
        case c2 => exact one2 _ _
        case c3 => unfold maxLen; omega
        case c4 => omega
        case c5 => simp; omega
        intro v' w1 ho' hg' _
        have R := ren_out ((ho.alloc _).alloc _) ((HSE.out.alloc _).alloc _) ((HKP.out.alloc _).alloc _) ho' hg'
        clear ho' hg' ho
        go_wp2
        go_roundw
        case rel => exact ⟨k + 1, by omega, by go_num, by rw [HST.out]; exact R.1, by rw [HST.out]; exact R.2.1, R.2.2⟩
        case measure => simp [intOf]; omega
    · have hk1 : l.take k = l := List.take_of_length_le (by omega)
      rw [hk1] at ho hse
      have HO := hide ho
      have HSE := hide hse
      have HKP := hide hkp
      clear ho hse hkp
      go_wp2
      go_ret2
      exact ⟨_, _, rfl, HO.out, HSE.out, HKP.out⟩

end Go.Proofs.YtjnddclkdofgdaaDoor

namespace Go.Proofs.YtjnddclkdofgdaaDoor
set_option maxRecDepth 100000

inductive All2 {α β : Type} (R : α → β → Prop) : List α → List β → Prop
  | nil : All2 R [] []
  | cons {a b l m} : R a b → All2 R l m → All2 R (a :: l) (b :: m)
namespace All2
variable {α β : Type} {R S : α → β → Prop}
theorem length {l : List α} {m : List β} (h : All2 R l m) : l.length = m.length := by
  induction h with
  | nil => rfl
  | cons _ _ ih => simp [ih]
theorem append {l l' : List α} {m m' : List β} (h : All2 R l m) (k : All2 R l' m') : All2 R (l ++ l') (m ++ m') := by
  induction h with
  | nil => exact k
  | cons h1 _ ih => exact All2.cons h1 ih
theorem mono {l : List α} {m : List β} (h : All2 R l m) (f : ∀ a b, R a b → S a b) : All2 S l m := by
  induction h with
  | nil => exact All2.nil
  | cons h1 _ ih => exact All2.cons (f _ _ h1) ih
theorem snoc {l : List α} {m : List β} {a : α} {b : β} (h : All2 R l m) (k : R a b) : All2 R (l ++ [a]) (m ++ [b]) := h.append (All2.cons k All2.nil)
theorem refl {R : α → α → Prop} (f : ∀ a, R a a) : ∀ l : List α, All2 R l l
  | [] => All2.nil
  | a :: l => All2.cons (f a) (refl f l)
theorem of_get {l : List α} {m : List β} (h : l.length = m.length) (f : ∀ (k : Nat) (a : α) (b : β), l[k]? = some a → m[k]? = some b → R a b) : All2 R l m := by
  induction l generalizing m with
  | nil => cases m with
    | nil => exact All2.nil
    | cons => simp at h
  | cons a l ih => cases m with
    | nil => simp at h
    | cons b m => exact All2.cons (f 0 a b rfl rfl) (ih (by simpa using h) fun k a b h1 h2 => f (k + 1) a b (by simpa using h1) (by simpa using h2))
theorem rev {l : List α} {m : List β} (h : All2 R l m) : All2 R l.reverse m.reverse := by
  induction h with
  | nil => exact All2.nil
  | cons h1 _ ih => rw [List.reverse_cons, List.reverse_cons]; exact ih.snoc h1
end All2

/-- Numbers that go together, one by one. -/
def Pairs (V : Int → Int → Prop) : Prop := ∀ x y x' y', V x y → V x' y' → (x = x' ↔ y = y')
/-- Nodes that are the same but for the variables' numbers. -/
def NdLike (V : Int → Int → Prop) (n m : Nd) : Prop := (varB n = true ∧ varB m = true ∧ n.1 = m.1 ∧ V n.2 m.2) ∨ (varB n = false ∧ n = m)
theorem posR_like {V : Int → Int → Prop} (hV : Pairs V) {s t : List Int} (h : All2 V s t) {x y : Int} (hx : V x y) : posR s x = posR t y := by
  induction h with
  | nil => rfl
  | cons h1 h2 ih =>
    simp only [posR]
    have e := hV _ _ _ _ h1 hx
    have hl := h2.length
    rw [ih, hl]
    by_cases hc : ‹Int› = x <;> simp_all
theorem posT_like {V : Int → Int → Prop} (hV : Pairs V) {s t : List Int} (h : All2 V s t) {x y : Int} (hx : V x y) : posT s x = posT t y := posR_like hV h.rev hx
theorem renStep_like {V : Int → Int → Prop} (hV : Pairs V) {st st' : List Nd × List Int} (h1 : st.1 = st'.1) (h2 : All2 V st.2 st'.2) {n m : Nd} (h : NdLike V n m) : (renStep st n).1 = (renStep st' m).1 ∧ All2 V (renStep st n).2 (renStep st' m).2 := by
  rcases h with ⟨a, b, c, d⟩ | ⟨a, rfl⟩
  · have hp := posT_like hV h2 d
    have hl := h2.length
    unfold renStep
    rw [a, b, hp]
    by_cases hc : posT st'.2 m.2 < 0
    · simp [hc, h1, c, hl]; exact h2.snoc d
    · simp [hc, h1, c]; exact h2
  · unfold renStep
    rw [a]
    simp [h1]; exact h2
theorem renL_like {V : Int → Int → Prop} (hV : Pairs V) {l m : List Nd} (h : All2 (NdLike V) l m) {s t : List Int} (hs : All2 V s t) : (renL l s).1 = (renL m t).1 ∧ All2 V (renL l s).2 (renL m t).2 := by
  unfold renL
  suffices ∀ (st st' : List Nd × List Int), st.1 = st'.1 → All2 V st.2 st'.2 → (l.foldl renStep st).1 = (m.foldl renStep st').1 ∧ All2 V (l.foldl renStep st).2 (m.foldl renStep st').2 from this _ _ rfl hs
  induction h with
  | nil => intro st st' h1 h2; exact ⟨h1, h2⟩
  | cons hc _ ih =>
    intro st st' h1 h2
    obtain ⟨g1, g2⟩ := renStep_like hV h1 h2 hc
    exact ih _ _ g1 g2

/-- A graph of terms: each place has a node and the places of its parts. -/
structure Gr where
  lab : Nat → Nd
  ch : Nat → List Nat
def Gr.named (G : Gr) (i : Nat) : Prop := varB (G.lab i) = false
/-- What is the same by what was made the same. -/
inductive Cl (G : Gr) (B : Nat → Nat → Prop) : Nat → Nat → Prop
  | refl (i) : Cl G B i i
  | base {i j} : B i j → Cl G B i j
  | symm {i j} : Cl G B i j → Cl G B j i
  | trans {i j k} : Cl G B i j → Cl G B j k → Cl G B i k
  | down {i j k p q : Nat} : Cl G B i j → G.named i → G.named j → (G.ch i)[k]? = some p → (G.ch j)[k]? = some q → Cl G B p q
/-- A relation that is the same all the way down. -/
structure Down (G : Gr) (R : Nat → Nat → Prop) : Prop where
  refl : ∀ i, R i i
  symm : ∀ i j, R i j → R j i
  trans : ∀ i j k, R i j → R j k → R i k
  down : ∀ i j k p q : Nat, R i j → G.named i → G.named j → (G.ch i)[k]? = some p → (G.ch j)[k]? = some q → R p q
theorem Cl.isDown (G : Gr) (B : Nat → Nat → Prop) : Down G (Cl G B) := ⟨Cl.refl, fun _ _ => Cl.symm, fun _ _ _ => Cl.trans, fun _ _ _ _ _ => Cl.down⟩
theorem Cl.le {G : Gr} {B R : Nat → Nat → Prop} (hR : Down G R) (hB : ∀ i j, B i j → R i j) {i j : Nat} (h : Cl G B i j) : R i j := by
  induction h with
  | refl i => exact hR.refl i
  | base h => exact hB _ _ h
  | symm _ ih => exact hR.symm _ _ ih
  | trans _ _ h1 h2 => exact hR.trans _ _ _ h1 h2
  | down _ a b c d ih => exact hR.down _ _ _ _ _ ih a b c d
/-- Names that are the same are one name. -/
def NoClash (G : Gr) (R : Nat → Nat → Prop) : Prop := ∀ i j, R i j → G.named i → G.named j → G.lab i = G.lab j
/-- A place has an end: all its parts have. -/
inductive Ends (G : Gr) (R : Nat → Nat → Prop) : Nat → Prop
  | mk (i) : (∀ j, R i j → G.named j → ∀ p ∈ G.ch j, Ends G R p) → Ends G R i
theorem Ends.parts {G : Gr} {R : Nat → Nat → Prop} {i : Nat} (h : Ends G R i) {j p : Nat} (hj : R i j) (hn : G.named j) (hp : p ∈ G.ch j) : Ends G R p := by cases h with | mk _ h => exact h j hj hn p hp
theorem Ends.same {G : Gr} {R : Nat → Nat → Prop} (hR : Down G R) {i j : Nat} (h : Ends G R i) (hj : R i j) : Ends G R j := ⟨_, fun _ hk hn _ hp => h.parts (hR.trans _ _ _ hj hk) hn hp⟩
/-- What is written of places, one behind the other. -/
inductive Exp (G : Gr) (R : Nat → Nat → Prop) (rep : Nat → Nat) : List Nat → List Nd → Prop
  | nil : Exp G R rep [] []
  | var {i r l} : (∀ j, R i j → ¬ G.named j) → Exp G R rep r l → Exp G R rep (i :: r) ((⟨#[]⟩, (rep i : Int)) :: l)
  | name {i j r l} : R i j → G.named j → Exp G R rep (G.ch j ++ r) l → Exp G R rep (i :: r) (G.lab j :: l)
section
variable {G : Gr} {R : Nat → Nat → Prop} {rep : Nat → Nat}
theorem Exp.append {r s : List Nat} {l m : List Nd} (h : Exp G R rep r l) (k : Exp G R rep s m) : Exp G R rep (r ++ s) (l ++ m) := by
  induction h with
  | nil => exact k
  | var h1 _ ih => exact Exp.var h1 ih
  | name h1 h2 _ ih => exact Exp.name h1 h2 (by rw [List.append_assoc] at ih; exact ih)
theorem Exp.split {x : List Nat} {l : List Nd} (h : Exp G R rep x l) : ∀ r s, x = r ++ s → ∃ l1 l2, l = l1 ++ l2 ∧ Exp G R rep r l1 ∧ Exp G R rep s l2 := by
  induction h with
  | nil =>
    intro r s e
    obtain ⟨rfl, rfl⟩ := List.append_eq_nil_iff.1 e.symm
    exact ⟨[], [], rfl, Exp.nil, Exp.nil⟩
  | @var i r0 l h1 h2 ih =>
    intro r s e
    cases r with
    | nil =>
      simp at e; subst e
      exact ⟨[], _, rfl, Exp.nil, Exp.var h1 h2⟩
    | cons y r =>
      simp at e
      obtain ⟨rfl, e⟩ := e
      obtain ⟨l1, l2, rfl, a, b⟩ := ih r s e
      exact ⟨_ :: l1, l2, rfl, Exp.var h1 a, b⟩
  | @name i j r0 l h1 h2 h3 ih =>
    intro r s e
    cases r with
    | nil =>
      simp at e; subst e
      exact ⟨[], _, rfl, Exp.nil, Exp.name h1 h2 h3⟩
    | cons y r =>
      simp at e
      obtain ⟨rfl, e⟩ := e
      obtain ⟨l1, l2, rfl, a, b⟩ := ih (G.ch j ++ r) s (by rw [e, List.append_assoc])
      exact ⟨_ :: l1, l2, rfl, Exp.name h1 h2 a, b⟩
theorem Exp.same (hR : Down G R) (hrep : ∀ i j, R i j → rep i = rep j) {x : List Nat} {l : List Nd} (h : Exp G R rep x l) : ∀ y, All2 R x y → Exp G R rep y l := by
  induction h with
  | nil => intro y hy; cases hy; exact Exp.nil
  | @var i r l h1 _ ih =>
    intro y hy
    cases hy with
    | @cons _ b _ m hb hm =>
      rw [hrep _ _ hb]
      exact Exp.var (fun j hj => h1 j (hR.trans _ _ _ hb hj)) (ih _ hm)
  | @name i j r l h1 h2 _ ih =>
    intro y hy
    cases hy with
    | @cons _ b _ m hb hm =>
      exact Exp.name (hR.trans _ _ _ (hR.symm _ _ hb) h1) h2 (ih _ ((All2.refl hR.refl _).append hm))
/-- Names have as many parts as they say. -/
def Gr.Arity (G : Gr) : Prop := ∀ i j, G.named i → G.named j → G.lab i = G.lab j → (G.ch i).length = (G.ch j).length
theorem ch_same (hR : Down G R) (hN : NoClash G R) (hA : G.Arity) {i j : Nat} (h : R i j) (hi : G.named i) (hj : G.named j) : All2 R (G.ch i) (G.ch j) :=
  All2.of_get (hA i j hi hj (hN i j h hi hj)) fun k a b h1 h2 => hR.down i j k a b h hi hj h1 h2
theorem Exp.one (hR : Down G R) (hN : NoClash G R) (hA : G.Arity) (hrep : ∀ i j, R i j → rep i = rep j) {x : List Nat} {l : List Nd} (h : Exp G R rep x l) : ∀ m, Exp G R rep x m → l = m := by
  induction h with
  | nil => intro m hm; cases hm; rfl
  | @var i r l h1 _ ih =>
    intro m hm
    cases hm with
    | var _ h2 => rw [ih _ h2]
    | name h2 h3 _ => exact absurd h3 (h1 _ h2)
  | @name i j r l h1 h2 _ ih =>
    intro m hm
    cases hm with
    | var h3 _ => exact absurd h2 (h3 _ h1)
    | @name _ j' _ m' h3 h4 h5 =>
      have hjj : R j' j := hR.trans _ _ _ (hR.symm _ _ h3) h1
      rw [hN j' j hjj h4 h2, ih _ (h5.same hR hrep _ ((ch_same hR hN hA hjj h4 h2).append (All2.refl hR.refl _)))]
theorem Exp.exists_of_all {x : List Nat} (h : ∀ i ∈ x, ∃ l, Exp G R rep [i] l) : ∃ l, Exp G R rep x l := by
  induction x with
  | nil => exact ⟨[], Exp.nil⟩
  | cons i r ih =>
    obtain ⟨l, hl⟩ := h i (by simp)
    obtain ⟨m, hm⟩ := ih fun j hj => h j (by simp [hj])
    exact ⟨l ++ m, hl.append hm⟩
theorem Ends.exp {i : Nat} (h : Ends G R i) : ∃ l, Exp G R rep [i] l := by
  induction h with
  | mk i _ ih =>
    by_cases hn : ∃ j, R i j ∧ G.named j
    · obtain ⟨j, h1, h2⟩ := hn
      obtain ⟨l, hl⟩ := Exp.exists_of_all (G := G) (R := R) (rep := rep) fun p hp => ih j h1 h2 p hp
      exact ⟨_, Exp.name h1 h2 (by rw [List.append_nil]; exact hl)⟩
    · exact ⟨_, Exp.var (fun j h1 h2 => hn ⟨j, h1, h2⟩) Exp.nil⟩
theorem Exp.pos {i : Nat} {l : List Nd} (h : Exp G R rep [i] l) : 1 ≤ l.length := by
  cases h with
  | var => simp
  | name => simp
end

theorem varB_new (x : Int) : varB (⟨#[]⟩, x) = true := by
  have he : (⟨#[]⟩ : ByteArray).toList = [] := by rw [ByteArray.toList_eq]
  simp [varB, he]
/-- One graph laid on another: nodes on nodes with the same names and parts. -/
structure Laid (P D : Gr) (BP BD : Nat → Nat → Prop) (f : Nat → Nat) : Prop where
  named : ∀ p, P.named p ↔ D.named (f p)
  lab : ∀ p, P.named p → P.lab p = D.lab (f p)
  ch : ∀ p, P.named p → D.ch (f p) = (P.ch p).map f
  ker : ∀ p q, f p = f q → Cl P BP p q
  base : ∀ p q, BP p q → Cl D BD (f p) (f q)
  back : ∀ r s, BD r s → ∃ p q, f p = r ∧ f q = s ∧ Cl P BP p q
  onto : ∀ r, D.named r → ∃ p, f p = r
section
variable {P D : Gr} {BP BD : Nat → Nat → Prop} {f : Nat → Nat}
theorem Laid.to (h : Laid P D BP BD f) {p q : Nat} (c : Cl P BP p q) : Cl D BD (f p) (f q) := by
  refine Cl.le (R := fun p q => Cl D BD (f p) (f q)) ⟨fun _ => Cl.refl _, fun _ _ => Cl.symm, fun _ _ _ => Cl.trans, ?_⟩ (fun i j hb => h.base i j hb) c
  intro i j k p q c hi hj hp hq
  exact Cl.down (k := k) c ((h.named i).1 hi) ((h.named j).1 hj) (by rw [h.ch i hi]; simp [hp]) (by rw [h.ch j hj]; simp [hq])
theorem Laid.from (h : Laid P D BP BD f) {p q : Nat} (c : Cl D BD (f p) (f q)) : Cl P BP p q := by
  have key : f p = f q ∨ ∃ p' q', f p' = f p ∧ f q' = f q ∧ Cl P BP p' q' := by
    refine Cl.le (R := fun r s => r = s ∨ ∃ p' q', f p' = r ∧ f q' = s ∧ Cl P BP p' q') ⟨fun _ => Or.inl rfl, ?_, ?_, ?_⟩ ?_ c
    · rintro i j (rfl | ⟨a, b, rfl, rfl, h1⟩)
      · exact Or.inl rfl
      · exact Or.inr ⟨b, a, rfl, rfl, h1.symm⟩
    · rintro i j k (rfl | ⟨a, b, rfl, rfl, h1⟩) (rfl | ⟨a', b', h2, rfl, h3⟩)
      · exact Or.inl rfl
      · exact Or.inr ⟨a', b', h2, rfl, h3⟩
      · exact Or.inr ⟨a, b, rfl, rfl, h1⟩
      · exact Or.inr ⟨a, b', rfl, rfl, h1.trans ((h.ker _ _ h2.symm).trans h3)⟩
    · rintro i j k x y (rfl | ⟨a, b, rfl, rfl, h1⟩) hi hj hx hy
      · rw [hx] at hy; exact Or.inl (by simpa using hy)
      · have ha := (h.named a).2 hi
        have hb := (h.named b).2 hj
        rw [h.ch a ha, List.getElem?_map] at hx
        rw [h.ch b hb, List.getElem?_map] at hy
        simp at hx hy
        obtain ⟨x', hx, rfl⟩ := hx
        obtain ⟨y', hy, rfl⟩ := hy
        exact Or.inr ⟨x', y', rfl, rfl, Cl.down h1 ha hb hx hy⟩
    · intro i j hb
      exact Or.inr (h.back i j hb)
  rcases key with e | ⟨p', q', e1, e2, c⟩
  · exact h.ker _ _ e
  · exact (h.ker _ _ e1.symm).trans (c.trans (h.ker _ _ e2))
theorem Laid.clash (h : Laid P D BP BD f) : NoClash P (Cl P BP) ↔ NoClash D (Cl D BD) := by
  constructor
  · intro n r s c hr hs
    obtain ⟨p, rfl⟩ := h.onto r hr
    obtain ⟨q, rfl⟩ := h.onto s hs
    have hp := (h.named p).2 hr
    have hq := (h.named q).2 hs
    rw [← h.lab p hp, ← h.lab q hq]
    exact n p q (h.from c) hp hq
  · intro n p q c hp hq
    rw [h.lab p hp, h.lab q hq]
    exact n _ _ (h.to c) ((h.named p).1 hp) ((h.named q).1 hq)
theorem Laid.ends_to (h : Laid P D BP BD f) {p : Nat} (e : Ends P (Cl P BP) p) : Ends D (Cl D BD) (f p) := by
  induction e with
  | mk i _ ih =>
    refine ⟨_, fun j hj hn x hx => ?_⟩
    obtain ⟨q, rfl⟩ := h.onto j hn
    have hq := (h.named q).2 hn
    rw [h.ch q hq] at hx
    obtain ⟨y, hy, rfl⟩ := List.mem_map.1 hx
    exact ih q (h.from hj) hq y hy
theorem Laid.ends_from (h : Laid P D BP BD f) {r : Nat} (e : Ends D (Cl D BD) r) : ∀ p, f p = r → Ends P (Cl P BP) p := by
  induction e with
  | mk i _ ih =>
    rintro p rfl
    refine ⟨_, fun q hq hn x hx => ?_⟩
    exact ih (f q) (h.to hq) ((h.named q).1 hn) (f x) (by rw [h.ch q hn]; exact List.mem_map_of_mem hx) x rfl
/-- What is written of one is written of the other, but for the variables' numbers. -/
theorem Laid.exp (h : Laid P D BP BD f) {rp rd : Nat → Nat} {x : List Nat} {l : List Nd} (e : Exp P (Cl P BP) rp x l) :
    ∃ m, Exp D (Cl D BD) rd (x.map f) m ∧ All2 (NdLike fun a b => ∃ p, a = (rp p : Int) ∧ b = (rd (f p) : Int)) l m := by
  induction e with
  | nil => exact ⟨[], Exp.nil, All2.nil⟩
  | @var i r l h1 _ ih =>
    obtain ⟨m, a, b⟩ := ih
    refine ⟨_, Exp.var (i := f i) (fun j hj hn => ?_) a, All2.cons (Or.inl ⟨varB_new _, varB_new _, rfl, i, rfl, rfl⟩) b⟩
    obtain ⟨q, rfl⟩ := h.onto j hn
    exact h1 q (h.from hj) ((h.named q).2 hn)
  | @name i j r l h1 h2 _ ih =>
    obtain ⟨m, a, b⟩ := ih
    refine ⟨_, Exp.name (i := f i) (j := f j) (h.to h1) ((h.named j).1 h2) (by rw [h.ch j h2, ← List.map_append]; exact a), All2.cons (Or.inr ⟨h2, h.lab j h2⟩) b⟩
theorem Laid.pairs (h : Laid P D BP BD f) {rp rd : Nat → Nat} (hp : ∀ p q, rp p = rp q ↔ Cl P BP p q) (hd : ∀ p q, rd p = rd q ↔ Cl D BD p q) : Pairs fun a b => ∃ p, a = (rp p : Int) ∧ b = (rd (f p) : Int) := by
  rintro x y x' y' ⟨p, rfl, rfl⟩ ⟨q, rfl, rfl⟩
  constructor
  · intro e
    have : rd (f p) = rd (f q) := (hd _ _).2 (h.to ((hp p q).1 (by omega)))
    omega
  · intro e
    have : rp p = rp q := (hp _ _).2 (h.from ((hd _ _).1 (by omega)))
    omega
end

end Go.Proofs.YtjnddclkdofgdaaDoor
