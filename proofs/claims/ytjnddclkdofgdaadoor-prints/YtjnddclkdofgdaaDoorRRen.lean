/- The document's own answer: variables are numbered from 0 on as they stand first. -/
import Derived.Test.YtjnddclkdofgdaaDoorMem
import Derived.Test.YtjnddclkdofgdaaDoorRTerm
namespace Go.Proofs.YtjnddclkdofgdaaDoor
open Go.RowKit
set_option maxRecDepth 100000

/-- The last place at which a number stands in a list that is handed over from its end; -1: nowhere. -/
def posR : List Int → Int → Int
  | [], _ => -1
  | y :: r, x => if y = x then r.length else posR r x
/-- The last place at which a number stands; -1: nowhere. -/
def posT (l : List Int) (x : Int) : Int := posR l.reverse x
theorem posT_nil (x : Int) : posT [] x = -1 := rfl
theorem posT_snoc (l : List Int) (y x : Int) : posT (l ++ [y]) x = if y = x then (l.length : Int) else posT l x := by simp [posT, posR]
theorem posT_bounds (l : List Int) (x : Int) : -1 ≤ posT l x ∧ posT l x < l.length := by
  unfold posT
  rw [← List.length_reverse]
  generalize l.reverse = r
  induction r with
  | nil => simp [posR]
  | cons y r ih =>
    simp only [posR, List.length_cons]
    split
    · omega
    · omega
/-- One node more. -/
def renStep (st : List Nd × List Int) (n : Nd) : List Nd × List Int :=
  if varB n then (if posT st.2 n.2 < 0 then (st.1 ++ [(n.1, (st.2.length : Int))], st.2 ++ [n.2]) else (st.1 ++ [(n.1, posT st.2 n.2)], st.2))
  else (st.1 ++ [n], st.2)
/-- Nodes whose variables are numbered anew, behind those that stood there. -/
def renL (l : List Nd) (seen : List Int) : List Nd × List Int := l.foldl renStep ([], seen)
theorem renL_take (l : List Nd) (seen : List Int) (k : Nat) (h : k < l.length) : renL (l.take (k + 1)) seen = renStep (renL (l.take k) seen) l[k] := by
  rw [List.take_succ_eq_append_getElem h]; simp only [renL, List.foldl_append, List.foldl_cons, List.foldl_nil]
theorem renL_bounds (l : List Nd) (seen : List Int) : (renL l seen).1.length = l.length ∧ (renL l seen).2.length ≤ seen.length + l.length := by
  unfold renL
  suffices ∀ (l : List Nd) (st : List Nd × List Int), (l.foldl renStep st).1.length = st.1.length + l.length ∧ (l.foldl renStep st).2.length ≤ st.2.length + l.length by
    have := this l ([], seen); simpa using this
  intro l
  induction l with
  | nil => intro st; simp
  | cons x r ih =>
    intro st
    have h := ih (renStep st x)
    have h1 : (renStep st x).1.length = st.1.length + 1 ∧ (renStep st x).2.length ≤ st.2.length + 1 := by
      unfold renStep
      split
      · split <;> simp
      · simp
    simp only [List.foldl_cons, List.length_cons]
    omega

theorem infoNode : (Tryd.prog.info? 27).map (fun i => (i.zero, i.size, i.bytes)) = some (some (.agg #[.string ⟨#[]⟩, .int .i64 0]), 2, 24) := by kernel_rfl
theorem infoInt : (Tryd.prog.info? 3).map (fun i => (i.zero, i.size, i.bytes)) = some (some (.int .i64 0), 1, 8) := by kernel_rfl

theorem new2 (w : World) (s : Value) (x : Value) (t : TypeId) (n : Nat) (hn : n = w.heap.size) : ∀ j u, [s, x][j]? = some u → (w.alloc (.cells #[s, x] t)).cell? ((⟨n, 0, none⟩ : Addr).add j) = some u := by
  subst hn
  intro j u hj
  match j, hj with
  | 0, hj => simp at hj; subst hj; simp [Addr.add]
  | 1, hj => simp at hj; subst hj; simp [Addr.add]
  | j + 2, hj => simp at hj
theorem new1 (w : World) (s : Value) (t : TypeId) (n : Nat) (hn : n = w.heap.size) : ∀ j u, [s][j]? = some u → (w.alloc (.cells #[s] t)).cell? ((⟨n, 0, none⟩ : Addr).add j) = some u := by
  subst hn
  intro j u hj
  match j, hj with
  | 0, hj => simp at hj; subst hj; simp [Addr.add]
  | j + 1, hj => simp at hj
theorem one2 (s : ByteArray) (x : Int) : ∀ u ∈ [Value.string s, Value.int .i64 x], u.oneCell' = true := by
  intro u hu
  simp at hu
  rcases hu with rfl | rfl <;> rfl
theorem one1 (x : Int) : ∀ u ∈ [Value.int .i64 x], u.oneCell' = true := by
  intro u hu
  simp at hu
  subst hu
  rfl
theorem own_ints {w : World} {B : Nat} {v : Value} {l : List Int} (h : w.ownsRow B 3 1 v l.length (l.map (Value.int .i64))) :
    ∃ a cap, v = .slice a l.length cap ∧ ∀ k (h : k < l.length), ∃ g, a = some ⟨g, 0, none⟩ ∧ w.cell? ⟨g, k, none⟩ = some (.int .i64 l[k]) := by
  obtain ⟨h1, ⟨rfl, h2⟩ | ⟨g, cap, cur, rfl, hb, hh, hc, hm, hz, ht⟩⟩ := h
  · exact ⟨none, 0, by rw [h2], fun k hk => by omega⟩
  · have ho : w.ownsRow B 3 1 (.slice (some ⟨g, 0, none⟩) l.length cap) l.length (l.map (Value.int .i64)) := ⟨h1, Or.inr ⟨g, cap, cur, rfl, hb, hh, hc, hm, hz, ht⟩⟩
    refine ⟨_, _, rfl, fun k hk => ⟨g, rfl, ?_⟩⟩
    rw [ho.cellAt k (by omega)]
    simp [hk]

theorem own_drewN {w : World} {B : Nat} {e : TypeId} {size : Nat} {v : Value} {n : Nat} {xs : List Value} (h : w.ownsRow B e size v n xs) (d : Nat) : (w.drewN d).ownsRow B e size v n xs := h
/-- A node more stands behind. -/
theorem ren_out {B : Nat} {w wm w1 : World} {o v' sv : Value} {out : List Nd} {s : ByteArray} {x : Int} {sn : List Int} (ho : wm.ownsRow w.heap.size 27 2 o out.length (nodeCells out)) (hse : wm.ownsRow B 3 1 sv sn.length (sn.map (Value.int .i64))) (hkp : Kept B 3 w wm)
    (ho' : w1.ownsRow w.heap.size 27 2 v' (out.length + 1) (nodeCells out ++ [.string s, .int .i64 x])) (hg : wm.grownBy w1 o.ownBlock) :
    w1.ownsRow w.heap.size 27 2 v' (out ++ [(s, x)]).length (nodeCells (out ++ [(s, x)])) ∧ w1.ownsRow B 3 1 sv sn.length (sn.map (Value.int .i64)) ∧ Kept B 3 w w1 := by
  refine ⟨?_, hse.kept hg (own_apart hse ho (by decide)), hkp.grownNew hg ho (Nat.le_refl _)⟩
  rw [nodeCells_snoc, List.length_append]
  exact ho'
/-- A number more stands among those that were seen. -/
theorem ren_seen {B : Nat} {w wm w1 : World} {o v' sv : Value} {out : List Nd} {x : Int} {sn : List Int} (ho : wm.ownsRow w.heap.size 27 2 o out.length (nodeCells out)) (hse : wm.ownsRow B 3 1 sv sn.length (sn.map (Value.int .i64))) (hkp : Kept B 3 w wm)
    (ho' : w1.ownsRow B 3 1 v' (sn.length + 1) (sn.map (Value.int .i64) ++ [.int .i64 x])) (hg : wm.grownBy w1 sv.ownBlock) :
    w1.ownsRow w.heap.size 27 2 o out.length (nodeCells out) ∧ w1.ownsRow B 3 1 v' (sn ++ [x]).length ((sn ++ [x]).map (Value.int .i64)) ∧ Kept B 3 w w1 := by
  refine ⟨ho.kept hg (own_apart ho hse (by decide)), ?_, hkp.grownOwn hg hse⟩
  rw [List.map_append, List.length_append]
  exact ho'

theorem grown_setCell (w : World) (p : Addr) (u : Value) : w.grownBy (w.setCell p u) (some p.block) :=
  ⟨rfl, rfl, rfl, by simp [World.setCell], fun k _ hne => Below.heap_setCell _ _ _ _ (fun e => hne (by rw [e]))⟩
/-- The box of a node, behind a number more. -/
theorem ren_box {B : Nat} {w wd w1 : World} {o v' sv : Value} {out : List Nd} {s : ByteArray} {x : Int} {sn : List Int} {Y : Obj} (hod : wd.ownsRow w.heap.size 27 2 o out.length (nodeCells out)) (hsd : wd.ownsRow B 3 1 sv sn.length (sn.map (Value.int .i64))) (hkd : Kept B 3 w wd)
    (ho' : w1.ownsRow B 3 1 v' (sn.length + 1) (sn.map (Value.int .i64) ++ [.int .i64 x])) (hg : ((wd.alloc (.cells #[.string s, .int .i64 x] 27)).alloc Y).grownBy w1 sv.ownBlock) :
    wd.heap.size < w1.heap.size ∧ w1.cell? ⟨wd.heap.size, 0, none⟩ = some (.string s) ∧ w1.cell? ⟨wd.heap.size, 1, none⟩ = some (.int .i64 x) ∧ w1.frozen? ⟨wd.heap.size, 1, none⟩ = false ∧
      ∀ u, (w1.setCell ⟨wd.heap.size, 1, none⟩ u).ownsRow w.heap.size 27 2 o out.length (nodeCells out) ∧ (w1.setCell ⟨wd.heap.size, 1, none⟩ u).ownsRow B 3 1 v' (sn ++ [x]).length ((sn ++ [x]).map (Value.int .i64)) ∧ Kept B 3 w (w1.setCell ⟨wd.heap.size, 1, none⟩ u) := by
  have hbx : ((wd.alloc (.cells #[.string s, .int .i64 x] 27)).alloc Y).heap[wd.heap.size]? = some (.cells #[.string s, .int .i64 x] 27) := by
    show ((wd.heap.push _).push Y)[wd.heap.size]? = _
    simp [Array.getElem?_push]
  have hs0 : wd.heap.size + 2 ≤ w1.heap.size := by have := hg.size; simpa using this
  have hw1 : w1.heap[wd.heap.size]? = some (.cells #[.string s, .int .i64 x] 27) := by
    rw [hg.block _ (by simp; omega) ?_, hbx]
    intro e
    have := own_lt hsd _ e.symm
    omega
  have R := ren_seen ((hod.alloc _).alloc _) ((hsd.alloc _).alloc _) ((hkd.alloc _).alloc _) ho' hg
  have hk := hkd.size
  refine ⟨by omega, by simp [World.cell?, hw1], by simp [World.cell?, hw1], by simp [World.frozen?, hw1], fun u => ⟨?_, ?_, ?_⟩⟩
  · refine R.1.kept (grown_setCell _ _ _) (Or.inr fun e => ?_)
    have := own_lt hod _ e
    simp at this
  · refine R.2.1.kept (grown_setCell _ _ _) (Or.inr fun e => ?_)
    obtain ⟨_, ⟨rfl, _⟩ | ⟨g, cap, cur, rfl, hb, hh, _⟩⟩ := R.2.1
    · simp [Value.ownBlock] at e
    · simp [Value.ownBlock] at e
      subst e
      rw [hw1] at hh
      simp at hh
  · exact R.2.2.setCell (by simpa using hk) u

set_option maxHeartbeats 2000000 in
theorem renamed_any (B : Nat) (a : Option Addr) (cp : Nat) (l : List Nd) (vs : Value) (seen : List Int) (w0 w : World) (h : NodesIn w0 a l) (hb : Below B w0 w) (hB : w0.heap.size ≤ B) (hBw : B ≤ w.heap.size)
    (hs : w.ownsRow B 3 1 vs seen.length (seen.map (Value.int .i64))) (hfew : l.length + seen.length ≤ 10000000) :
    Calls Tryd.prog 41 #[.slice a l.length cp, vs] w fun e w' => ∃ vo vs', e = .returned (.tuple #[vo, vs']) ∧ w'.ownsRow w.heap.size 27 2 vo (renL l seen).1.length (nodeCells (renL l seen).1) ∧
      w'.ownsRow B 3 1 vs' (renL l seen).2.length ((renL l seen).2.map (Value.int .i64)) ∧ Kept B 3 w w' := by
  obtain ⟨iN, hN, hN0, hN1, hN2⟩ := info_parts infoNode
  obtain ⟨iI, hI, hI0, hI1, hI2⟩ := info_parts infoInt
  go_enter Tryd.func41, Tryd.ntmps41
  go_wp2
  go_loopw [1, 6, 7] (fun s o i wr => ∃ k : Nat, k ≤ l.length ∧ i = .int .i64 k ∧ wr.ownsRow w.heap.size 27 2 o (renL (l.take k) seen).1.length (nodeCells (renL (l.take k) seen).1) ∧
      wr.ownsRow B 3 1 s (renL (l.take k) seen).2.length ((renL (l.take k) seen).2.map (Value.int .i64)) ∧ Kept B 3 w wr) (fun _ _ i _ => l.length - (intOf i).toNat)
  case atStart => exact ⟨0, Nat.zero_le _, rfl, World.ownsRow_nil _ _ _ _, hs, Kept.refl _ _ _⟩
  case round =>
    obtain ⟨k, hk, rfl, ho, hse, hkp⟩ := hrel
    have hbd := renL_bounds (l.take k) seen
    have hlt' : (l.take k).length ≤ k := List.length_take_le _ _
    by_cases hlt : k < l.length
    · obtain ⟨b, q, rfl, e1, f1⟩ := h.cell k hlt
      have hbr := hb.trans (hkp.below hBw)
      have e2 := Below.at' hbr hB e1
      have f2 := Below.at' hbr hB f1
      have hst := renL_take l seen k hlt
      generalize hR : renL (l.take k) seen = R at *
      generalize l[k] = nd at *
      obtain ⟨out, sn⟩ := R
      obtain ⟨s, x⟩ := nd
      simp only at e2 f2 ho hse hbd
      obtain ⟨hbd1, hbd2⟩ := hbd
      have hbd3 : out.length ≤ k := by omega
      have hbd4 : sn.length + l.length ≤ 20000000 := by omega
      have hhs := hkp.size
      clear e1 f1 h hR hbr hbd1 hbd2
      by_cases hv : s.toList.isEmpty = true
      · obtain ⟨sa, scp, rfl, hsc⟩ := own_ints hse
        have hstN : posT sn x < 0 → renL (l.take (k + 1)) seen = (out ++ [(s, (sn.length : Int))], sn ++ [x]) := fun hp => by rw [hst]; simp [renStep, varB, hv, hp]
        have hstO : ¬ posT sn x < 0 → renL (l.take (k + 1)) seen = (out ++ [(s, posT sn x)], sn) := fun hp => by rw [hst]; simp [renStep, varB, hv, hp]
        have HN := hide hstN
        have HO := hide hstO
        have HSC := hide hsc
        clear hst hstN hstO hsc
        go_wp2
        go_loopw [9, 10] (fun t j wi => ∃ (n : Nat) (p : Int), n ≤ sn.length ∧ j = .int .i64 n ∧ t = .int .i64 p ∧ p = posT (sn.take n) x ∧ -1 ≤ p ∧ p < n ∧ ∃ wd, (∃ d, wd = wr.drewN d) ∧ wi = wd.alloc (.cells #[.string s, .int .i64 x] 27)) (fun _ j _ => sn.length - (intOf j).toNat)
        case atStart => exact ⟨0, -1, Nat.zero_le _, rfl, rfl, rfl, by omega, by omega, wr, ⟨0, rfl⟩, rfl⟩
        case round =>
          obtain ⟨n, p, hn, rfl, rfl, hpe, hp1, hp2, wd, hd, rfl⟩ := hrel
          have hod : wd.ownsRow w.heap.size 27 2 u6 out.length (nodeCells out) := own_below ho (below_drawn hd) (Nat.le_refl _)
          have hsd : wd.ownsRow B 3 1 (.slice sa sn.length scp) sn.length (sn.map (Value.int .i64)) := own_below hse (below_drawn hd) (Nat.le_refl _)
          have hkd : Kept B 3 w wd := hkp.drawn hd
          have hhd := hkd.size
          have hsz : wr.heap.size = wd.heap.size := by obtain ⟨d, rfl⟩ := hd; rfl
          have HSZ := hide hsz
          have HD := hide hd
          clear hsz
          clear hd
          have HPE := hide hpe
          clear hpe
          by_cases hnl : n < sn.length
          · obtain ⟨g, rfl, hc⟩ := HSC.out n hnl
            have hcg : (wd.alloc (.cells #[.string s, .int .i64 x] 27)).cell? ⟨g, n, none⟩ = some (.int .i64 sn[n]) := Below.at' ((Below.refl _ _).alloc (Nat.le_refl _) _) (Nat.le_refl _) (Below.at' (below_drawn HD.out) (Nat.le_refl _) hc)
            have hbx : (wd.alloc (.cells #[.string s, .int .i64 x] 27)).cell? ⟨wr.heap.size, 1, none⟩ = some (.int .i64 x) := by rw [HSZ.out]; exact new2 wd _ _ _ _ rfl 1 _ rfl
            clear hc hod hsd hkd
            go_wp2
            go_quiet (fail)
            go_wp2
            · have he : (sn[n] == x) = true := by assumption
              go_roundw
              case rel => exact ⟨n + 1, n, by omega, by go_num, rfl, by rw [List.take_succ_eq_append_getElem hnl, posT_snoc, if_pos (by simpa using he), List.length_take, Nat.min_eq_left hn], by omega, by omega, _, drawn_trans HD.out ⟨_, rfl⟩, rfl⟩
              case measure => simp [intOf]; omega
            · have he : (sn[n] == x) = false := by assumption
              go_roundw
              case rel => exact ⟨n + 1, p, by omega, by go_num, rfl, by rw [List.take_succ_eq_append_getElem hnl, posT_snoc, if_neg (by simpa using he)]; exact HPE.out, by omega, by omega, _, drawn_trans HD.out ⟨_, rfl⟩, rfl⟩
              case measure => simp [intOf]; omega
          · have hnn : sn.take n = sn := List.take_of_length_le (by omega)
            have HPS : Hid (p = posT sn x) := by rw [← hnn]; exact HPE.out
            have HKP := hide hkd
            have HSE := hide hsd
            clear hnn HPE HSC ho hse hkp hkd HD
            rw [HSZ.out]
            by_cases hp : p < 0
            · have HST := hide (HN.out (by rw [← HPS.out]; exact hp))
              clear HN HO HPS
              go_wp2_with (first
                | (at_builtin; refine wpList_append_own _ rfl (.tmp 42) (.tmp 45) 34 rfl B 3 iI (.int .i64 0) 1 8 Tryd.underlying34 hI hI0 hI1 hI2 rfl (by decide) _ _ _ rfl ((hsd.alloc _).alloc _) ⟨wd.heap.size + 1, 0, none⟩ 1 1 [.int .i64 x] rfl rfl ?d1 ?d2 ?d3 ?d4 ?d5 ?_)
                | go_in)
              case d1 => exact new1 _ _ _ _ (by simp)
              case d2 => exact one1 _
              case d3 => unfold maxLen; omega
              case d4 => omega
              case d5 => simp; omega
              intro v' w1 ho' hg' _
              obtain ⟨hz1, hx0, hx1, hx2, R⟩ := ren_box hod HSE.out HKP.out ho' hg'
              have hr1 := (R (.int .i64 sn.length)).1
              have RR := hide (R (.int .i64 sn.length))
              clear ho' hg' hod R
              go_wp2_with (first
                | (at_builtin; refine wpList_append_own _ rfl (.tmp 49) (.tmp 51) 28 rfl w.heap.size 27 iN (.agg #[.string ⟨#[]⟩, .int .i64 0]) 2 24 Tryd.underlying28 hN hN0 hN1 hN2 rfl (by decide) _ _ _ rfl (hr1.alloc _) ⟨w1.heap.size, 0, none⟩ 1 1 [.string s, .int .i64 sn.length] rfl rfl ?f1 ?f2 ?f3 ?f4 ?f5 ?_)
                | go_in)
              case f1 => exact new2 _ _ _ _ _ (by simp [World.setCell])
              case f2 => first | exact one2 _ _ | exact ⟨rfl, rfl⟩
              case f3 => unfold maxLen; omega
              case f4 => omega
              case f5 => first | omega | (simp [World.setCell]; omega)
              intro v2 w2 ho2 hg2 _
              have R := ren_out (RR.out.1.alloc _) (RR.out.2.1.alloc _) (RR.out.2.2.alloc _) ho2 hg2
              clear ho2 hg2 hr1 hx0 hx1 hx2
              go_wp2
              go_roundw
              case rel => exact ⟨k + 1, by omega, by go_num, by rw [HST.out]; exact R.1, by rw [HST.out]; exact R.2.1, R.2.2⟩
              case measure => simp [intOf]; omega
            · have HST := hide (HO.out (by rw [← HPS.out]; omega))
              clear HN HO
              go_wp2_with (first
                | (at_builtin; refine wpList_append_own _ rfl (.tmp 49) (.tmp 51) 28 rfl w.heap.size 27 iN (.agg #[.string ⟨#[]⟩, .int .i64 0]) 2 24 Tryd.underlying28 hN hN0 hN1 hN2 rfl (by decide) _ _ _ rfl ((hod.alloc _).alloc _) ⟨wd.heap.size + 1, 0, none⟩ 1 1 [.string s, .int .i64 p] rfl rfl ?b1 ?b2 ?b3 ?b4 ?b5 ?_)
                | go_in)
              try case b1 => exact new2 _ _ _ _ _ (by simp)
              case b2 => first | exact one2 _ _ | exact ⟨rfl, rfl⟩
              case b3 => unfold maxLen; omega
              case b4 => omega
              case b5 => first | omega | (simp; omega)
              intro v' w1 ho' hg' _
              have R := ren_out ((hod.alloc _).alloc _) ((HSE.out.alloc _).alloc _) ((HKP.out.alloc _).alloc _) ho' hg'
              clear ho' hg' hod
              go_wp2
              go_roundw
              case rel => exact ⟨k + 1, by omega, by go_num, by rw [HST.out, ← HPS.out]; exact R.1, by rw [HST.out]; exact R.2.1, R.2.2⟩
              case measure => simp [intOf]; omega
      · have hv' : s.toList.isEmpty = false := by simpa using hv
        have hst' : renL (l.take (k + 1)) seen = (out ++ [(s, x)], sn) := by rw [hst]; simp [renStep, varB, hv]
        have HST := hide hst'
        have HKP := hide hkp
        have HSE := hide hse
        clear hst hst' hv hkp hse
        go_wp2_with (first
          | (at_builtin; refine wpList_append_own _ rfl _ _ 28 rfl w.heap.size 27 iN (.agg #[.string ⟨#[]⟩, .int .i64 0]) 2 24 Tryd.underlying28 hN hN0 hN1 hN2 rfl (by decide) _ _ _ rfl ((ho.alloc _).alloc _) ⟨wr.heap.size + 1, 0, none⟩ 1 1 [.string s, .int .i64 x] rfl rfl ?c1 ?c2 ?c3 ?c4 ?c5 ?_)
          | go_in)
        case c1 => exact new2 _ _ _ _ _ (by simp)
        case c2 => exact one2 _ _
        case c3 => unfold maxLen; omega
        case c4 => omega
        case c5 => simp; omega
        intro v' w1 ho' hg' _
        have R := ren_out ((ho.alloc _).alloc _) ((HSE.out.alloc _).alloc _) ((HKP.out.alloc _).alloc _) ho' hg'
        clear ho' hg' ho
        go_wp2
        go_roundw
        case rel => exact ⟨k + 1, by omega, by go_num, by rw [HST.out]; exact R.1, by rw [HST.out]; exact R.2.1, R.2.2⟩
        case measure => simp [intOf]; omega
    · have hk1 : l.take k = l := List.take_of_length_le (by omega)
      rw [hk1] at ho hse
      have HO := hide ho
      have HSE := hide hse
      have HKP := hide hkp
      clear ho hse hkp
      go_wp2
      go_ret2
      exact ⟨_, _, rfl, HO.out, HSE.out, HKP.out⟩

end Go.Proofs.YtjnddclkdofgdaaDoor
