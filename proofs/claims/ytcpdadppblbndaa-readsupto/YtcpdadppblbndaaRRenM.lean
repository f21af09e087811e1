/- The document's own answer: variables are numbered from 0 on as they stand first. The document's own answer: are two lists of nodes the same, are two clauses, how many nodes has a clause, does it fit. -/
import Derived.Test.YtcpdadppblbndaaBase0M
import Derived.Test.YtcpdadppblbndaaCharM
namespace Go.Proofs.Ytcpdadppblbndaa
open Go.RowKit
set_option maxRecDepth 100000

/-- The last place at which a number stands in a list that is handed over from its end; -1: nowhere. -/
def posR : List Int → Int → Int
  | [], _ => -1
  | y :: r, x => if y = x then r.length else posR r x
/-- The last place at which a number stands; -1: nowhere. -/
def posT (l : List Int) (x : Int) : Int := posR l.reverse x
theorem posT_nil (x : Int) : posT [] x = -1 := rfl
theorem posT_snoc (l : List Int) (y x : Int) : posT (l ++ [y]) x = if y = x then (l.length : Int) else posT l x := by simp [posT, posR]
theorem posT_bounds (l : List Int) (x : Int) : -1 ≤ posT l x ∧ posT l x < l.length := by
  unfold posT
  rw [← List.length_reverse]
  generalize l.reverse = r
  induction r with
  | nil => simp [posR]
  | cons y r ih =>
    simp only [posR, List.length_cons]
    split
    · omega
    · omega
/-- One node more. -/
def renStep (st : List Nd × List Int) (n : Nd) : List Nd × List Int :=
  if varB n then (if posT st.2 n.2 < 0 then (st.1 ++ [(n.1, (st.2.length : Int))], st.2 ++ [n.2]) else (st.1 ++ [(n.1, posT st.2 n.2)], st.2))
  else (st.1 ++ [n], st.2)
/-- Nodes whose variables are numbered anew, behind those that stood there. -/
def renL (l : List Nd) (seen : List Int) : List Nd × List Int := l.foldl renStep ([], seen)
theorem renL_take (l : List Nd) (seen : List Int) (k : Nat) (h : k < l.length) : renL (l.take (k + 1)) seen = renStep (renL (l.take k) seen) l[k] := by
  rw [List.take_succ_eq_append_getElem h]; simp only [renL, List.foldl_append, List.foldl_cons, List.foldl_nil]
theorem renL_bounds (l : List Nd) (seen : List Int) : (renL l seen).1.length = l.length ∧ (renL l seen).2.length ≤ seen.length + l.length := by
  unfold renL
  suffices ∀ (l : List Nd) (st : List Nd × List Int), (l.foldl renStep st).1.length = st.1.length + l.length ∧ (l.foldl renStep st).2.length ≤ st.2.length + l.length by
    have := this l ([], seen); simpa using this
  intro l
  induction l with
  | nil => intro st; simp
  | cons x r ih =>
    intro st
    have h := ih (renStep st x)
    have h1 : (renStep st x).1.length = st.1.length + 1 ∧ (renStep st x).2.length ≤ st.2.length + 1 := by
      unfold renStep
      split
      · split <;> simp
      · simp
    simp only [List.foldl_cons, List.length_cons]
    omega

theorem infoNode : (Try.prog.info? 46).map (fun i => (i.zero, i.size, i.bytes)) = some (some (.agg #[.string ⟨#[]⟩, .int .i64 0]), 2, 24) := by kernel_rfl
theorem infoInt : (Try.prog.info? 3).map (fun i => (i.zero, i.size, i.bytes)) = some (some (.int .i64 0), 1, 8) := by kernel_rfl

theorem new2 (w : World) (s : Value) (x : Value) (t : TypeId) (n : Nat) (hn : n = w.heap.size) : ∀ j u, [s, x][j]? = some u → (w.alloc (.cells #[s, x] t)).cell? ((⟨n, 0, none⟩ : Addr).add j) = some u := by
  subst hn
  intro j u hj
  match j, hj with
  | 0, hj => simp at hj; subst hj; simp [Addr.add]
  | 1, hj => simp at hj; subst hj; simp [Addr.add]
  | j + 2, hj => simp at hj
theorem new1 (w : World) (s : Value) (t : TypeId) (n : Nat) (hn : n = w.heap.size) : ∀ j u, [s][j]? = some u → (w.alloc (.cells #[s] t)).cell? ((⟨n, 0, none⟩ : Addr).add j) = some u := by
  subst hn
  intro j u hj
  match j, hj with
  | 0, hj => simp at hj; subst hj; simp [Addr.add]
  | j + 1, hj => simp at hj
theorem one2 (s : ByteArray) (x : Int) : ∀ u ∈ [Value.string s, Value.int .i64 x], u.oneCell' = true := by
  intro u hu
  simp at hu
  rcases hu with rfl | rfl <;> rfl
theorem one1 (x : Int) : ∀ u ∈ [Value.int .i64 x], u.oneCell' = true := by
  intro u hu
  simp at hu
  subst hu
  rfl
theorem own_ints {w : World} {B : Nat} {v : Value} {l : List Int} (h : w.ownsRow B 3 1 v l.length (l.map (Value.int .i64))) :
    ∃ a cap, v = .slice a l.length cap ∧ ∀ k (h : k < l.length), ∃ g, a = some ⟨g, 0, none⟩ ∧ w.cell? ⟨g, k, none⟩ = some (.int .i64 l[k]) := by
  obtain ⟨h1, ⟨rfl, h2⟩ | ⟨g, cap, cur, rfl, hb, hh, hc, hm, hz, ht⟩⟩ := h
  · exact ⟨none, 0, by rw [h2], fun k hk => by omega⟩
  · have ho : w.ownsRow B 3 1 (.slice (some ⟨g, 0, none⟩) l.length cap) l.length (l.map (Value.int .i64)) := ⟨h1, Or.inr ⟨g, cap, cur, rfl, hb, hh, hc, hm, hz, ht⟩⟩
    refine ⟨_, _, rfl, fun k hk => ⟨g, rfl, ?_⟩⟩
    rw [ho.cellAt k (by omega)]
    simp [hk]

theorem own_drewN {w : World} {B : Nat} {e : TypeId} {size : Nat} {v : Value} {n : Nat} {xs : List Value} (h : w.ownsRow B e size v n xs) (d : Nat) : (w.drewN d).ownsRow B e size v n xs := h
/-- A node more stands behind. -/
theorem ren_out {B : Nat} {w wm w1 : World} {o v' sv : Value} {out : List Nd} {s : ByteArray} {x : Int} {sn : List Int} (ho : wm.ownsRow w.heap.size 46 2 o out.length (nodeCells out)) (hse : wm.ownsRow B 3 1 sv sn.length (sn.map (Value.int .i64))) (hkp : Kept B 3 w wm)
    (ho' : w1.ownsRow w.heap.size 46 2 v' (out.length + 1) (nodeCells out ++ [.string s, .int .i64 x])) (hg : wm.grownBy w1 o.ownBlock) :
    w1.ownsRow w.heap.size 46 2 v' (out ++ [(s, x)]).length (nodeCells (out ++ [(s, x)])) ∧ w1.ownsRow B 3 1 sv sn.length (sn.map (Value.int .i64)) ∧ Kept B 3 w w1 := by
  refine ⟨?_, hse.kept hg (own_apart hse ho (by decide)), hkp.grownNew hg ho (Nat.le_refl _)⟩
  rw [nodeCells_snoc, List.length_append]
  exact ho'
/-- A number more stands among those that were seen. -/
theorem ren_seen {B : Nat} {w wm w1 : World} {o v' sv : Value} {out : List Nd} {x : Int} {sn : List Int} (ho : wm.ownsRow w.heap.size 46 2 o out.length (nodeCells out)) (hse : wm.ownsRow B 3 1 sv sn.length (sn.map (Value.int .i64))) (hkp : Kept B 3 w wm)
    (ho' : w1.ownsRow B 3 1 v' (sn.length + 1) (sn.map (Value.int .i64) ++ [.int .i64 x])) (hg : wm.grownBy w1 sv.ownBlock) :
    w1.ownsRow w.heap.size 46 2 o out.length (nodeCells out) ∧ w1.ownsRow B 3 1 v' (sn ++ [x]).length ((sn ++ [x]).map (Value.int .i64)) ∧ Kept B 3 w w1 := by
  refine ⟨ho.kept hg (own_apart ho hse (by decide)), ?_, hkp.grownOwn hg hse⟩
  rw [List.map_append, List.length_append]
  exact ho'

theorem grown_setCell (w : World) (p : Addr) (u : Value) : w.grownBy (w.setCell p u) (some p.block) :=
  ⟨rfl, rfl, rfl, by simp [World.setCell], fun k _ hne => Below.heap_setCell _ _ _ _ (fun e => hne (by rw [e]))⟩
/-- The box of a node, behind a number more. -/
theorem ren_box {B : Nat} {w wd w1 : World} {o v' sv : Value} {out : List Nd} {s : ByteArray} {x : Int} {sn : List Int} {Y : Obj} (hod : wd.ownsRow w.heap.size 46 2 o out.length (nodeCells out)) (hsd : wd.ownsRow B 3 1 sv sn.length (sn.map (Value.int .i64))) (hkd : Kept B 3 w wd)
    (ho' : w1.ownsRow B 3 1 v' (sn.length + 1) (sn.map (Value.int .i64) ++ [.int .i64 x])) (hg : ((wd.alloc (.cells #[.string s, .int .i64 x] 46)).alloc Y).grownBy w1 sv.ownBlock) :
    wd.heap.size < w1.heap.size ∧ w1.cell? ⟨wd.heap.size, 0, none⟩ = some (.string s) ∧ w1.cell? ⟨wd.heap.size, 1, none⟩ = some (.int .i64 x) ∧ w1.frozen? ⟨wd.heap.size, 1, none⟩ = false ∧
      ∀ u, (w1.setCell ⟨wd.heap.size, 1, none⟩ u).ownsRow w.heap.size 46 2 o out.length (nodeCells out) ∧ (w1.setCell ⟨wd.heap.size, 1, none⟩ u).ownsRow B 3 1 v' (sn ++ [x]).length ((sn ++ [x]).map (Value.int .i64)) ∧ Kept B 3 w (w1.setCell ⟨wd.heap.size, 1, none⟩ u) := by
  have hbx : ((wd.alloc (.cells #[.string s, .int .i64 x] 46)).alloc Y).heap[wd.heap.size]? = some (.cells #[.string s, .int .i64 x] 46) := by
    show ((wd.heap.push _).push Y)[wd.heap.size]? = _
    simp [Array.getElem?_push]
  have hs0 : wd.heap.size + 2 ≤ w1.heap.size := by have := hg.size; simpa using this
  have hw1 : w1.heap[wd.heap.size]? = some (.cells #[.string s, .int .i64 x] 46) := by
    rw [hg.block _ (by simp; omega) ?_, hbx]
    intro e
    have := own_lt hsd _ e.symm
    omega
  have R := ren_seen ((hod.alloc _).alloc _) ((hsd.alloc _).alloc _) ((hkd.alloc _).alloc _) ho' hg
  have hk := hkd.size
  refine ⟨by omega, by simp [World.cell?, hw1], by simp [World.cell?, hw1], by simp [World.frozen?, hw1], fun u => ⟨?_, ?_, ?_⟩⟩
  · refine R.1.kept (grown_setCell _ _ _) (Or.inr fun e => ?_)
    have := own_lt hod _ e
    simp at this
  · refine R.2.1.kept (grown_setCell _ _ _) (Or.inr fun e => ?_)
    obtain ⟨_, ⟨rfl, _⟩ | ⟨g, cap, cur, rfl, hb, hh, _⟩⟩ := R.2.1
    · simp [Value.ownBlock] at e
    · simp [Value.ownBlock] at e
      subst e
      rw [hw1] at hh
      simp at hh
  · exact R.2.2.setCell (by simpa using hk) u

set_option maxHeartbeats 2000000 in
theorem renamed_any (B : Nat) (a : Option Addr) (cp : Nat) (l : List Nd) (vs : Value) (seen : List Int) (w0 w : World) (h : NodesIn w0 a l) (hb : Below B w0 w) (hB : w0.heap.size ≤ B) (hBw : B ≤ w.heap.size)
    (hs : w.ownsRow B 3 1 vs seen.length (seen.map (Value.int .i64))) (hfew : l.length + seen.length ≤ 10000000) :
    Calls Try.prog 44 #[.slice a l.length cp, vs] w fun e w' => ∃ vo vs', e = .returned (.tuple #[vo, vs']) ∧ w'.ownsRow w.heap.size 46 2 vo (renL l seen).1.length (nodeCells (renL l seen).1) ∧
      w'.ownsRow B 3 1 vs' (renL l seen).2.length ((renL l seen).2.map (Value.int .i64)) ∧ Kept B 3 w w' := by
  obtain ⟨iN, hN, hN0, hN1, hN2⟩ := info_parts infoNode
  obtain ⟨iI, hI, hI0, hI1, hI2⟩ := info_parts infoInt
  go_enter Try.func44, Try.ntmps44
  go_wp2
  go_loopw [1, 6, 7] (fun s o i wr => ∃ k : Nat, k ≤ l.length ∧ i = .int .i64 k ∧ wr.ownsRow w.heap.size 46 2 o (renL (l.take k) seen).1.length (nodeCells (renL (l.take k) seen).1) ∧
      wr.ownsRow B 3 1 s (renL (l.take k) seen).2.length ((renL (l.take k) seen).2.map (Value.int .i64)) ∧ Kept B 3 w wr) (fun _ _ i _ => l.length - (intOf i).toNat)
  case atStart => exact ⟨0, Nat.zero_le _, rfl, World.ownsRow_nil _ _ _ _, hs, Kept.refl _ _ _⟩
  case round =>
    obtain ⟨k, hk, rfl, ho, hse, hkp⟩ := hrel
    have hbd := renL_bounds (l.take k) seen
    have hlt' : (l.take k).length ≤ k := List.length_take_le _ _
    by_cases hlt : k < l.length
    · obtain ⟨b, q, rfl, e1, f1⟩ := h.cell k hlt
      have hbr := hb.trans (hkp.below hBw)
      have e2 := Below.at' hbr hB e1
      have f2 := Below.at' hbr hB f1
      have hst := renL_take l seen k hlt
      generalize hR : renL (l.take k) seen = R at *
      generalize l[k] = nd at *
      obtain ⟨out, sn⟩ := R
      obtain ⟨s, x⟩ := nd
      simp only at e2 f2 ho hse hbd
      obtain ⟨hbd1, hbd2⟩ := hbd
      have hbd3 : out.length ≤ k := by omega
      have hbd4 : sn.length + l.length ≤ 20000000 := by omega
      have hhs := hkp.size
      clear e1 f1 h hR hbr hbd1 hbd2
      by_cases hv : s.toList.isEmpty = true
      · obtain ⟨sa, scp, rfl, hsc⟩ := own_ints hse
        have hstN : posT sn x < 0 → renL (l.take (k + 1)) seen = (out ++ [(s, (sn.length : Int))], sn ++ [x]) := fun hp => by rw [hst]; simp [renStep, varB, hv, hp]
        have hstO : ¬ posT sn x < 0 → renL (l.take (k + 1)) seen = (out ++ [(s, posT sn x)], sn) := fun hp => by rw [hst]; simp [renStep, varB, hv, hp]
        have HN := hide hstN
        have HO := hide hstO
        have HSC := hide hsc
        clear hst hstN hstO hsc
        go_wp2
        go_loopw [9, 10] (fun t j wi => ∃ (n : Nat) (p : Int), n ≤ sn.length ∧ j = .int .i64 n ∧ t = .int .i64 p ∧ p = posT (sn.take n) x ∧ -1 ≤ p ∧ p < n ∧ ∃ wd, (∃ d, wd = wr.drewN d) ∧ wi = wd.alloc (.cells #[.string s, .int .i64 x] 46)) (fun _ j _ => sn.length - (intOf j).toNat)
        case atStart => exact ⟨0, -1, Nat.zero_le _, rfl, rfl, rfl, by omega, by omega, wr, ⟨0, rfl⟩, rfl⟩
        case round =>
          obtain ⟨n, p, hn, rfl, rfl, hpe, hp1, hp2, wd, hd, rfl⟩ := hrel
          have hod : wd.ownsRow w.heap.size 46 2 u6 out.length (nodeCells out) := own_below ho (below_drawn hd) (Nat.le_refl _)
          have hsd : wd.ownsRow B 3 1 (.slice sa sn.length scp) sn.length (sn.map (Value.int .i64)) := own_below hse (below_drawn hd) (Nat.le_refl _)
          have hkd : Kept B 3 w wd := hkp.drawn hd
          have hhd := hkd.size
          have hsz : wr.heap.size = wd.heap.size := by obtain ⟨d, rfl⟩ := hd; rfl
          have HSZ := hide hsz
          have HD := hide hd
          clear hsz
          clear hd
          have HPE := hide hpe
          clear hpe
          by_cases hnl : n < sn.length
          · obtain ⟨g, rfl, hc⟩ := HSC.out n hnl
            have hcg : (wd.alloc (.cells #[.string s, .int .i64 x] 46)).cell? ⟨g, n, none⟩ = some (.int .i64 sn[n]) := Below.at' ((Below.refl _ _).alloc (Nat.le_refl _) _) (Nat.le_refl _) (Below.at' (below_drawn HD.out) (Nat.le_refl _) hc)
            have hbx : (wd.alloc (.cells #[.string s, .int .i64 x] 46)).cell? ⟨wr.heap.size, 1, none⟩ = some (.int .i64 x) := by rw [HSZ.out]; exact new2 wd _ _ _ _ rfl 1 _ rfl
            clear hc hod hsd hkd
            go_wp2
            go_quiet (fail)
            go_wp2
            · have he : (sn[n] == x) = true := by assumption
              go_roundw
              case rel => exact ⟨n + 1, n, by omega, by go_num, rfl, by rw [List.take_succ_eq_append_getElem hnl, posT_snoc, if_pos (by simpa using he), List.length_take, Nat.min_eq_left hn], by omega, by omega, _, drawn_trans HD.out ⟨_, rfl⟩, rfl⟩
              case measure => simp [intOf]; omega
            · have he : (sn[n] == x) = false := by assumption
              go_roundw
              case rel => exact ⟨n + 1, p, by omega, by go_num, rfl, by rw [List.take_succ_eq_append_getElem hnl, posT_snoc, if_neg (by simpa using he)]; exact HPE.out, by omega, by omega, _, drawn_trans HD.out ⟨_, rfl⟩, rfl⟩
              case measure => simp [intOf]; omega
          · have hnn : sn.take n = sn := List.take_of_length_le (by omega)
            have HPS : Hid (p = posT sn x) := by rw [← hnn]; exact HPE.out
            have HKP := hide hkd
            have HSE := hide hsd
            clear hnn HPE HSC ho hse hkp hkd HD
            rw [HSZ.out]
            by_cases hp : p < 0
            · have HST := hide (HN.out (by rw [← HPS.out]; exact hp))
              clear HN HO HPS
              go_wp2_with (first
                | (at_builtin; refine wpList_append_own _ rfl (.tmp 42) (.tmp 45) 25 rfl B 3 iI (.int .i64 0) 1 8 Try.underlying25 hI hI0 hI1 hI2 rfl (by decide) _ _ _ rfl ((hsd.alloc _).alloc _) ⟨wd.heap.size + 1, 0, none⟩ 1 1 [.int .i64 x] rfl rfl ?d1 ?d2 ?d3 ?d4 ?d5 ?_)
                | go_in)
              case d1 => exact new1 _ _ _ _ (by simp)
              case d2 => exact one1 _
              case d3 => unfold maxLen; omega
              case d4 => omega
              case d5 => simp; omega
              intro v' w1 ho' hg' _
              obtain ⟨hz1, hx0, hx1, hx2, R⟩ := ren_box hod HSE.out HKP.out ho' hg'
              have hr1 := (R (.int .i64 sn.length)).1
              have RR := hide (R (.int .i64 sn.length))
              clear ho' hg' hod R
              go_wp2_with (first
                | (at_builtin; refine wpList_append_own _ rfl (.tmp 49) (.tmp 51) 44 rfl w.heap.size 46 iN (.agg #[.string ⟨#[]⟩, .int .i64 0]) 2 24 Try.underlying44 hN hN0 hN1 hN2 rfl (by decide) _ _ _ rfl (hr1.alloc _) ⟨w1.heap.size, 0, none⟩ 1 1 [.string s, .int .i64 sn.length] rfl rfl ?f1 ?f2 ?f3 ?f4 ?f5 ?_)
                | go_in)
              case f1 => exact new2 _ _ _ _ _ (by simp [World.setCell])
              case f2 => first | exact one2 _ _ | exact ⟨rfl, rfl⟩
              case f3 => unfold maxLen; omega
              case f4 => omega
              case f5 => first | omega | (simp [World.setCell]; omega)
              intro v2 w2 ho2 hg2 _
              have R := ren_out (RR.out.1.alloc _) (RR.out.2.1.alloc _) (RR.out.2.2.alloc _) ho2 hg2
              clear ho2 hg2 hr1 hx0 hx1 hx2
              go_wp2
              go_roundw
              case rel => exact ⟨k + 1, by omega, by go_num, by rw [HST.out]; exact R.1, by rw [HST.out]; exact R.2.1, R.2.2⟩
              case measure => simp [intOf]; omega
            · have HST := hide (HO.out (by rw [← HPS.out]; omega))
              clear HN HO
              go_wp2_with (first
                | (at_builtin; refine wpList_append_own _ rfl (.tmp 49) (.tmp 51) 44 rfl w.heap.size 46 iN (.agg #[.string ⟨#[]⟩, .int .i64 0]) 2 24 Try.underlying44 hN hN0 hN1 hN2 rfl (by decide) _ _ _ rfl ((hod.alloc _).alloc _) ⟨wd.heap.size + 1, 0, none⟩ 1 1 [.string s, .int .i64 p] rfl rfl ?b1 ?b2 ?b3 ?b4 ?b5 ?_)
                | go_in)
              try case b1 => exact new2 _ _ _ _ _ (by simp)
              case b2 => first | exact one2 _ _ | exact ⟨rfl, rfl⟩
              case b3 => unfold maxLen; omega
              case b4 => omega
              case b5 => first | omega | (simp; omega)
              intro v' w1 ho' hg' _
              have R := ren_out ((hod.alloc _).alloc _) ((HSE.out.alloc _).alloc _) ((HKP.out.alloc _).alloc _) ho' hg'
              clear ho' hg' hod
              go_wp2
              go_roundw
              case rel => exact ⟨k + 1, by omega, by go_num, by rw [HST.out, ← HPS.out]; exact R.1, by rw [HST.out]; exact R.2.1, R.2.2⟩
              case measure => simp [intOf]; omega
      · have hv' : s.toList.isEmpty = false := by simpa using hv
        have hst' : renL (l.take (k + 1)) seen = (out ++ [(s, x)], sn) := by rw [hst]; simp [renStep, varB, hv]
        have HST := hide hst'
        have HKP := hide hkp
        have HSE := hide hse
        clear hst hst' hv hkp hse
        go_wp2_with (first
          | (at_builtin; refine wpList_append_own _ rfl _ _ 44 rfl w.heap.size 46 iN (.agg #[.string ⟨#[]⟩, .int .i64 0]) 2 24 Try.underlying44 hN hN0 hN1 hN2 rfl (by decide) _ _ _ rfl ((ho.alloc _).alloc _) ⟨wr.heap.size + 1, 0, none⟩ 1 1 [.string s, .int .i64 x] rfl rfl ?c1 ?c2 ?c3 ?c4 ?c5 ?_)
          | go_in)
        case c1 => exact new2 _ _ _ _ _ (by simp)
        case c2 => exact one2 _ _
        case c3 => unfold maxLen; omega
        case c4 => omega
        case c5 => simp; omega
        intro v' w1 ho' hg' _
        have R := ren_out ((ho.alloc _).alloc _) ((HSE.out.alloc _).alloc _) ((HKP.out.alloc _).alloc _) ho' hg'
        clear ho' hg' ho
        go_wp2
        go_roundw
        case rel => exact ⟨k + 1, by omega, by go_num, by rw [HST.out]; exact R.1, by rw [HST.out]; exact R.2.1, R.2.2⟩
        case measure => simp [intOf]; omega
    · have hk1 : l.take k = l := List.take_of_length_le (by omega)
      rw [hk1] at ho hse
      have HO := hide ho
      have HSE := hide hse
      have HKP := hide hkp
      clear ho hse hkp
      go_wp2
      go_ret2
      exact ⟨_, _, rfl, HO.out, HSE.out, HKP.out⟩

end Go.Proofs.Ytcpdadppblbndaa

namespace Go.Proofs.Ytcpdadppblbndaa
open Go.RowKit

set_option maxHeartbeats 400000 in
theorem sameNodes_any (a1 a2 : Option Addr) (c1 c2 : Nat) (l1 l2 : List (ByteArray × Int)) (w : World) (h1 : NodesIn w a1 l1) (h2 : NodesIn w a2 l2) :
    Calls Try.prog 20 #[.slice a1 l1.length c1, .slice a2 l2.length c2] w fun e w' => e = .returned (.bool (decide (l1 = l2))) ∧ ∃ n, w' = w.drewN n := by
  have b1 := h1.few
  have b2 := h2.few
  by_cases hl : l1.length = l2.length
  · have hn : ((l1.length : Int) != (l2.length : Int)) = false := by rw [hl]; simp
    have HL : Hid (l1.length = l2.length) := hl
    clear hl
    go_enter Try.func20, Try.ntmps20
    go_wp2
    go_loopw [5] (fun i wr => ∃ k : Nat, k ≤ l1.length ∧ i = .int .i64 k ∧ (∃ n, wr = w.drewN n) ∧ l1.take k = l2.take k) (fun i _ => l1.length - (intOf i).toNat)
    case atStart => exact ⟨0, Nat.zero_le _, rfl, ⟨0, rfl⟩, rfl⟩
    case round =>
      obtain ⟨k, hk, rfl, ⟨n, rfl⟩, ht⟩ := hrel
      by_cases hlt : k < l1.length
      · obtain ⟨p1, o1, rfl, e1, f1⟩ := h1.cell k hlt
        have hlt2 : (k : Int) < (l2.length : Int) := by have := HL.out; omega
        have hlt3 : k < l2.length := by omega
        obtain ⟨p2, o2, rfl, e2, f2⟩ := h2.cell k hlt3
        have hb := nodeB_eq l1[k] l2[k]
        have g := guard46
        have q := eqNode l1[k].1 l2[k].1 l1[k].2 l2[k].2
        clear h1 h2
        by_cases he : l1[k] = l2[k]
        · rw [decide_eq_true he] at hb
          have HE : Hid (l1[k] = l2[k]) := he
          clear he
          go_wp2
          go_quiet (fail)
          go_wp2
          go_roundw
          case rel => exact ⟨k + 1, by omega, by go_num, (by first | exact draw2 _ _ _ | exact ⟨_, rfl⟩), by rw [List.take_succ_eq_append_getElem hlt, List.take_succ_eq_append_getElem hlt3, ht, HE.out]⟩
          case measure => simp [intOf]; omega
        · rw [decide_eq_false he] at hb
          have HE : Hid (¬ l1[k] = l2[k]) := he
          clear he
          go_wp2
          go_quiet (fail)
          go_wp2
          go_ret
          refine ⟨?_, (by first | exact draw2 _ _ _ | exact ⟨_, rfl⟩)⟩
          have : ¬ l1 = l2 := fun h => HE.out (by subst h; rfl)
          simp [this]
      · go_wp2
        go_ret
        refine ⟨?_, ⟨_, rfl⟩⟩
        have hk1 : l1.take k = l1 := List.take_of_length_le (by omega)
        have hk2 : l2.take k = l2 := List.take_of_length_le (by have := HL.out; omega)
        rw [hk1, hk2] at ht
        simp [ht]
  · have hn : ((l1.length : Int) != (l2.length : Int)) = true := by rw [bne_iff_ne]; omega
    have hne : ¬ l1 = l2 := fun h => hl (by rw [h])
    have HN : Hid (¬ l1 = l2) := hne
    clear hne hl
    go_enter Try.func20, Try.ntmps20
    go_wp2
    go_ret
    exact ⟨by simp [HN.out], 0, rfl⟩

/-- Are two literals the same? -/
def litB (x y : Lt) : Bool := decide (x.2 = y.2) && x.1 == y.1
theorem litB_eq (x y : Lt) : litB x y = decide (x = y) := by
  rw [Bool.eq_iff_iff]
  simp [litB, Prod.ext_iff, and_comm]

set_option maxHeartbeats 400000 in
theorem sameClause_any (a1 a2 : Option Addr) (c1 c2 : Nat) (l1 l2 : List Lt) (w : World) (h1 : LitsIn w a1 l1) (h2 : LitsIn w a2 l2) :
    Calls Try.prog 9 #[.slice a1 l1.length c1, .slice a2 l2.length c2] w fun e w' => e = .returned (.bool (decide (l1 = l2))) ∧ ∃ n, w' = w.drewN n := by
  have b1 := h1.few
  have b2 := h2.few
  by_cases hl : l1.length = l2.length
  · have hn : ((l1.length : Int) != (l2.length : Int)) = false := by rw [hl]; simp
    have HL : Hid (l1.length = l2.length) := hl
    clear hl
    go_enter Try.func9, Try.ntmps9
    go_wp2
    go_loopw [5] (fun i wr => ∃ k : Nat, k ≤ l1.length ∧ i = .int .i64 k ∧ (∃ n, wr = w.drewN n) ∧ l1.take k = l2.take k) (fun i _ => l1.length - (intOf i).toNat)
    case atStart => exact ⟨0, Nat.zero_le _, rfl, ⟨0, rfl⟩, rfl⟩
    case round =>
      obtain ⟨k, hk, rfl, hq, ht⟩ := hrel
      replace h1 := h1.drawn hq
      replace h2 := h2.drawn hq
      have HQ := hide hq
      clear hq
      by_cases hlt : k < l1.length
      · obtain ⟨p1, o1, aa1, cp1, rfl, e1, f1, g1⟩ := h1.cell k hlt
        have hlt2 : (k : Int) < (l2.length : Int) := by have := HL.out; omega
        have hlt3 : k < l2.length := by omega
        obtain ⟨p2, o2, aa2, cp2, rfl, e2, f2, g2⟩ := h2.cell k hlt3
        have cS := fun m => sameNodes_any aa1 aa2 cp1 cp2 l1[k].2 l2[k].2 (wr.drewN m) (g1.drewN m) (g2.drewN m)
        clear h1 h2 g1 g2
        by_cases hs : l1[k].2 = l2[k].2
        · rw [decide_eq_true hs] at cS
          have HC := hide cS
          have HS := hide hs
          clear cS hs
          go_wp2
          go_quiet ((go_at_call 20; exact Calls.quiet_of (unhide HC _)))
          go_wp2
          go_quiet (fail)
          go_wp2
          · go_ret
            refine ⟨?_, drawn_trans HQ.out (by first | exact draw2 _ _ _ | exact ⟨_, rfl⟩)⟩
            have hne : (!l1[k].1 == l2[k].1) = true := by assumption
            have : ¬ l1 = l2 := fun h => by subst h; simp at hne
            simp [this]
          · have heq : (!l1[k].1 == l2[k].1) = false := by assumption
            have he : l1[k] = l2[k] := Prod.ext (by simpa using heq) HS.out
            go_roundw
            case rel => exact ⟨k + 1, by omega, by go_num, drawn_trans HQ.out (by first | exact draw2 _ _ _ | exact ⟨_, rfl⟩), by rw [List.take_succ_eq_append_getElem hlt, List.take_succ_eq_append_getElem hlt3, ht, he]⟩
            case measure => simp [intOf]; omega
        · rw [decide_eq_false hs] at cS
          have HC := hide cS
          have HS := hide hs
          clear cS hs
          go_wp2
          go_quiet ((go_at_call 20; exact Calls.quiet_of (unhide HC _)))
          go_wp2
          go_quiet (fail)
          go_wp2
          go_ret
          refine ⟨?_, drawn_trans HQ.out (by first | exact draw2 _ _ _ | exact ⟨_, rfl⟩)⟩
          have : ¬ l1 = l2 := fun h => HS.out (by subst h; rfl)
          simp [this]
      · go_wp2
        go_ret
        refine ⟨?_, HQ.out⟩
        have hk1 : l1.take k = l1 := List.take_of_length_le (by omega)
        have hk2 : l2.take k = l2 := List.take_of_length_le (by have := HL.out; omega)
        rw [hk1, hk2] at ht
        simp [ht]
  · have hn : ((l1.length : Int) != (l2.length : Int)) = true := by rw [bne_iff_ne]; omega
    have hne : ¬ l1 = l2 := fun h => hl (by rw [h])
    have HN : Hid (¬ l1 = l2) := hne
    clear hne hl
    go_enter Try.func9, Try.ntmps9
    go_wp2
    go_ret
    exact ⟨by simp [HN.out], 0, rfl⟩

/-- How many nodes literals have. -/
def countL (c : List Lt) : Nat := (c.map fun l => l.2.length).sum
theorem countL_snoc (c : List Lt) (x : Lt) : countL (c ++ [x]) = countL c + x.2.length := by simp [countL]
theorem countL_le (c : List Lt) (h : ∀ k (h : k < c.length), (c[k]).2.length ≤ 5864062014805) : countL c ≤ c.length * 5864062014805 := by
  induction c with
  | nil => simp [countL]
  | cons x r ih =>
    have h0 := h 0 (by simp)
    have hr := ih (fun k hk => by have := h (k + 1) (by simpa using hk); simpa using this)
    simp [countL] at h0 hr ⊢
    omega
theorem countL_take_le (c : List Lt) (k : Nat) : countL (c.take k) ≤ countL c := by
  have h := congrArg countL (List.take_append_drop k c)
  simp only [countL, List.map_append, List.sum_append] at h ⊢
  omega

set_option maxHeartbeats 400000 in
theorem count_any (a : Option Addr) (cp : Nat) (c : List Lt) (w : World) (h : LitsIn w a c) (h8 : c.length ≤ 8) :
    Calls Try.prog 33 #[.slice a c.length cp] w fun e w' => e = .returned (.int .i64 (countL c)) ∧ w' = w := by
  have hc : countL c ≤ 8 * 5864062014805 := Nat.le_trans (countL_le c fun k hk => by obtain ⟨_, _, _, _, _, _, _, g⟩ := h.cell k hk; exact g.few) (Nat.mul_le_mul_right _ h8)
  go_enter Try.func33, Try.ntmps33
  go_wp2
  go_loop [3, 4] (fun s i => ∃ k : Nat, k ≤ c.length ∧ i = .int .i64 k ∧ s = .int .i64 (countL (c.take k))) (fun _ i => c.length - (intOf i).toNat)
  case atStart => exact ⟨0, Nat.zero_le _, rfl, rfl⟩
  case round =>
    obtain ⟨k, hk, rfl, rfl⟩ := hrel
    have hct := countL_take_le c k
    by_cases hlt : k < c.length
    · obtain ⟨p1, o1, aa1, cp1, rfl, e1, f1, g1⟩ := h.cell k hlt
      have hg := g1.few
      have HS : Hid (countL (c.take (k + 1)) = countL (c.take k) + c[k].2.length) := by
        rw [List.take_succ_eq_append_getElem hlt, countL_snoc]
        exact rfl
      clear h g1
      go_wp2
      go_round
      case rel => exact ⟨k + 1, by omega, by go_num, by rw [HS.out]; go_num⟩
      case measure => simp [intOf]; omega
    · go_wp2
      go_ret
      have hk1 : c.take k = c := List.take_of_length_le (by omega)
      rw [hk1]
      exact ⟨rfl, rfl⟩

/-- Is a clause not above its size? -/
def fitsL (c : List Lt) : Bool := decide (c.length ≤ 8) && decide (countL c ≤ 60)

set_option maxHeartbeats 400000 in
theorem rFits_any (a : Option Addr) (cp : Nat) (c : List Lt) (w : World) (h : LitsIn w a c) :
    Calls Try.prog 19 #[.slice a c.length cp] w fun e w' => e = .returned (.bool (fitsL c)) ∧ w' = w := by
  have b := h.few
  by_cases h8 : c.length ≤ 8
  · have cC := count_any a cp c w h h8
    have HF := hide (show fitsL c = decide ((countL c : Int) ≤ 60) by simp [fitsL, h8]; omega)
    go_enter Try.func19, Try.ntmps19
    go_wp2_with (go_at_call 33; refine cC.mono ?_; rintro e w' ⟨rfl, rfl⟩)
    go_ret
    exact ⟨ret_bool HF.out.symm, rfl⟩
  · have hf : fitsL c = false := by simp [fitsL, h8]
    rw [hf]
    clear hf
    go_enter Try.func19, Try.ntmps19
    go_wp2
    go_ret
    exact ⟨rfl, rfl⟩

end Go.Proofs.Ytcpdadppblbndaa
