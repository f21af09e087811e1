/- Pure: which classes have an end. The document's table: has each class an end? -/
import Derived.Test.YtjnddclkdofgdaaDoorUTabM
namespace Go.Proofs.YtjnddclkdofgdaaDoor
open Go.RowKit Go.Shelf Go.WideMaps
set_option maxRecDepth 100000

/-- Is a row's class done? -/
def dn (P : Tb) (D : List Bool) (i : Nat) : Bool := match P[i]? with | some p => D.getD p.1.cls false | none => false
theorem dn_at (P : Tb) (D : List Bool) (i : Nat) (h : i < P.length) : dn P D i = D.getD P[i].1.cls false := by simp [dn, h]
def DSound (P : Tb) (D : List Bool) : Prop := ∀ i, i < P.length → dn P D i = true → Ends (grOf P) (clsR P) i
def QuietAt (P : Tb) (D : List Bool) (i : Nat) : Prop := dn P D i = true ∨ ∃ h, ∃ hl : h < P.length, clsR P i h ∧ varB P[h].1.node = false ∧ ∃ p ∈ P[h].1.parts, dn P D p = false
/-- Names of one class have parts of one class. -/
def Closed (P : Tb) : Prop := ∀ i j, clsR P i j → (grOf P).named i → (grOf P).named j → All2 (clsR P) ((grOf P).ch i) ((grOf P).ch j)
theorem All2.mem_right {α β : Type} {R : α → β → Prop} {l : List α} {m : List β} (h : All2 R l m) {b : β} (hb : b ∈ m) : ∃ a ∈ l, R a b := by
  induction h with
  | nil => simp at hb
  | cons h1 _ ih =>
    rcases List.mem_cons.1 hb with rfl | hb
    · exact ⟨_, by simp, h1⟩
    · obtain ⟨a, ha, hr⟩ := ih hb
      exact ⟨a, by simp [ha], hr⟩
theorem clsR_down {P : Tb} (h : Closed P) : Down (grOf P) (clsR P) := by
  refine ⟨clsR.refl P, fun _ _ => clsR.symm, fun _ _ _ => clsR.trans, fun i j k p q hij hi hj hp hq => ?_⟩
  have ha := h i j hij hi hj
  clear hij hi hj
  generalize (grOf P).ch i = l at *
  generalize (grOf P).ch j = m at *
  induction ha generalizing k with
  | nil => simp at hp
  | cons h1 _ ih =>
    cases k with
    | zero => simp at hp hq; subst hp; subst hq; exact h1
    | succ k => exact ih k (by simpa using hp) (by simpa using hq)
theorem grOf_isNamed {P : Tb} {i : Nat} (h : i < P.length) (hv : varB P[i].1.node = false) : (grOf P).named i := by show varB ((grOf P).lab i) = false; rw [grOf_lab P i h]; exact hv
theorem ends_one {P : Tb} (hcl : Closed P) (hok : TabOk P) {D : List Bool} (hs : DSound P D) {i : Nat} (hi : i < P.length) {r : Int} (hh : HeadR P P[i].1.cls r)
    (hall : ∀ h : Nat, r = h → ∀ hl : h < P.length, ∀ p ∈ P[h].1.parts, dn P D p = true) : Ends (grOf P) (clsR P) i := by
  refine ⟨_, fun j hij hj p hp => ?_⟩
  obtain ⟨hjl, hjv⟩ := grOf_named hj
  rcases hh with ⟨_, hno⟩ | ⟨h, hr, hl, hc, hv⟩
  · exact absurd ⟨((clsR.iff hi hjl).1 hij).symm, hjv⟩ (hno j hjl)
  · have hih : clsR P i h := (clsR.iff hi hl).2 hc.symm
    have ha := hcl h j (hih.symm.trans hij) (grOf_isNamed hl hv) hj
    obtain ⟨q, hq, hqp⟩ := ha.mem_right hp
    rw [grOf_ch P h hl] at hq
    exact (hs q (hok.parts h hl q hq) (hall h hr hl q hq)).same (clsR_down hcl) hqp
theorem DSound.set {P : Tb} (hcl : Closed P) {D : List Bool} (hs : DSound P D) {i : Nat} (hi : i < P.length) (he : Ends (grOf P) (clsR P) i) : DSound P (D.set P[i].1.cls true) := by
  intro k hk hd
  by_cases e : P[i].1.cls = P[k].1.cls
  · exact he.same (clsR_down hcl) ((clsR.iff hi hk).2 e)
  · refine hs k hk ?_
    rw [dn_at _ _ _ hk] at hd ⊢
    simpa [List.getD, List.getElem?_set, e] using hd
theorem quiet_all {P : Tb} (hok : TabOk P) {D : List Bool} (h : ∀ i, i < P.length → QuietAt P D i) {i : Nat} (e : Ends (grOf P) (clsR P) i) : i < P.length → dn P D i = true := by
  induction e with
  | mk i _ ih =>
    intro hi
    rcases h i hi with hd | ⟨k, hk, hik, hv, p, hp, hd⟩
    · exact hd
    · have := ih k hik (grOf_isNamed hk hv) p (by rw [grOf_ch P k hk]; exact hp) (hok.parts k hk p hp)
      rw [this] at hd
      cases hd
theorem fN_set (D : List Bool) (c : Nat) (h : c < D.length) (hc : D.getD c false = false) : (D.set c true).countP (fun b => !b) < D.countP fun b => !b := by
  induction D generalizing c with
  | nil => simp at h
  | cons b r ih =>
    cases c with
    | zero =>
      simp [List.getD] at hc
      subst hc
      simp
    | succ c =>
      have := ih c (by simpa using h) (by simpa [List.getD] using hc)
      rw [List.set_cons_succ, List.countP_cons, List.countP_cons]
      omega
theorem own_bools {w : World} {B : Nat} {g n : Nat} {D : List Bool} (h : w.ownsRow B 4 1 (.slice (some ⟨g, 0, none⟩) n n) n (D.map Value.bool)) (hn : D.length = n) (k : Nat) (hk : k < D.length) : w.cell? ⟨g, k, none⟩ = some (.bool (D.getD k false)) := by
  rw [h.cellAt k (by omega)]
  simp [List.getD, hk]
/-- What is done, as memory has it. -/
def doneOf (w : World) (g n : Nat) : List Bool := (List.range n).map fun i => match w.cell? ⟨g, i, none⟩ with | some (.bool b) => b | _ => false
theorem doneOf_eq {w : World} {g n : Nat} {D : List Bool} (hn : D.length = n) (h : ∀ k, k < D.length → w.cell? ⟨g, k, none⟩ = some (.bool (D.getD k false))) : doneOf w g n = D := by
  apply List.ext_getElem?
  intro k
  by_cases hk : k < n
  · have := h k (by omega)
    simp [doneOf, hk, this]
    simp [show k < D.length by omega]
  · simp [doneOf, hk]
    omega
theorem TabP.below {w wr : World} {B tp : Nat} {v : Value} {P : Tb} (h : TabP w B tp v P) (k : Below w.heap.size w wr) : TabP wr B tp v P :=
  ⟨by rw [k.block tp (Array.getElem?_eq_some_iff.1 h.box).1, h.box], h.high, own_below h.row k (Nat.le_refl _), fun p hp => own_below (h.parts p hp) k (Nat.le_refl _)⟩
/-- The words of what is done. -/
structure EndSt (w : World) (g n : Nat) (D : List Bool) (wr : World) : Prop where
  len : D.length = n
  row : wr.ownsRow w.heap.size 4 1 (.slice (some ⟨g, 0, none⟩) n n) n (D.map Value.bool)
  low : Below w.heap.size w wr
theorem EndSt.drewN {w : World} {g n : Nat} {D : List Bool} {wr : World} (h : EndSt w g n D wr) (d : Nat) : EndSt w g n D (wr.drewN d) := ⟨h.len, h.row, h.low.trans ((below_drawn ⟨d, rfl⟩).mono h.low.size)⟩
theorem EndSt.set {w : World} {g n : Nat} {D : List Bool} {wr : World} (h : EndSt w g n D wr) (hg : w.heap.size ≤ g) (c : Nat) : EndSt w g n (D.set c true) (wr.setCell ⟨g, c, none⟩ (.bool true)) := by
  have r := (h.row.stored c (.bool true)).1
  refine ⟨by simp [h.len], ?_, h.low.setCell (by simpa using hg) _⟩
  rw [List.map_set]
  exact r

end Go.Proofs.YtjnddclkdofgdaaDoor

namespace Go.Proofs.YtjnddclkdofgdaaDoor
open Go.RowKit Go.Shelf Go.WideMaps
set_option maxRecDepth 100000

theorem infoBool : (Tryd.prog.info? 4).map (fun i => (i.zero, i.size, i.bytes)) = some (some (.bool false), 1, 1) := by kernel_rfl
theorem made_bools (n : Nat) : (madeCells #[.bool false] (n * 1)).toList = (List.replicate n false).map Value.bool := by
  apply List.ext_getElem?
  intro j
  by_cases hj : j < n
  · simp [madeCells, hj, Nat.mod_one]
  · simp [madeCells, hj]
def flagOf : Value → Nat
  | .bool true => 1
  | _ => 0
/-- Are the first parts done? -/
def partsDone (P : Tb) (D : List Bool) (l : List Nat) : Bool := l.all fun x => dn P D x

theorem partsDone_take (P : Tb) (D : List Bool) (l : List Nat) (q : Nat) (h : q < l.length) : partsDone P D (l.take (q + 1)) = (partsDone P D (l.take q) && dn P D l[q]) := by
  simp only [partsDone, List.take_succ_eq_append_getElem h, List.all_append, List.all_cons, List.all_nil, Bool.and_true]
theorem own_nats {w : World} {B : Nat} {v : Value} {l : List Nat} (h : w.ownsRow B 3 1 v l.length (l.map fun x : Nat => Value.int .i64 x)) :
    ∃ a cap, v = .slice a l.length cap ∧ ∀ k (h : k < l.length), ∃ g, a = some ⟨g, 0, none⟩ ∧ w.cell? ⟨g, k, none⟩ = some (.int .i64 l[k]) := by
  have h' : w.ownsRow B 3 1 v (l.map fun x : Nat => (x : Int)).length ((l.map fun x : Nat => (x : Int)).map (Value.int .i64)) := by
    simpa [List.map_map, Function.comp_def] using h
  obtain ⟨a, cap, e, hc⟩ := own_ints h'
  refine ⟨a, cap, by simpa using e, fun k hk => ?_⟩
  obtain ⟨g, h1, h2⟩ := hc k (by simpa using hk)
  exact ⟨g, h1, by simpa using h2⟩

def EndsV (P : Tb) (v : Value) : Prop := ∃ b : Bool, v = .bool b ∧ (b = true ↔ ∀ i, i < P.length → Ends (grOf P) (clsR P) i)

set_option maxHeartbeats 4000000 in
theorem tends_any (B tp : Nat) (v : Value) (P : Tb) (w : World) (h : TabP w B tp v P) (hf : P.length ≤ 1000000) (hok : TabOk P) (hcl : Closed P) (hps : ∀ p ∈ P, p.1.parts.length ≤ 1000000) :
    Calls Tryd.prog 63 #[.pointer (some ⟨tp, 0, none⟩)] w fun e w' => ∃ v, e = .returned v ∧ EndsV P v ∧ Below w.heap.size w w' := by
  obtain ⟨iB, hB, hB0, hB1, hB2⟩ := info_parts infoBool
  obtain ⟨a, cap, rfl, _⟩ := h.shape
  have hcell := h.cell
  have HT := hide h
  have HOK := hide hok
  have HCL := hide hcl
  have HPS := hide hps
  clear h hok hcl hps
  go_enter Tryd.func63, Tryd.ntmps63
  go_wp2_with (first
    | (at_make; refine wpList_make_full _ rfl _ _ 128 rfl w.heap.size 4 iB (.bool false) 1 Tryd.underlying128 hB hB0 hB1 .i64 .i64 _ _ P.length rfl rfl rfl rfl ?m1 ?m2 ?m3 ?_)
    | go_in)
  case m1 => rw [hB2]; omega
  case m2 => unfold maxLen; omega
  case m3 => simp
  intro w2 ho2 hg2
  have HE0 : Hid (EndSt w w.heap.size P.length (List.replicate P.length false) w2) := hide (by
    refine ⟨by simp, ?_, (Below.refl _ _).grown hg2 (Nat.le_refl _) (by simp)⟩
    have e := made_bools P.length
    rw [Nat.mul_one] at e
    rw [e] at ho2
    exact ho2)
  clear ho2 hg2
  have HS0 : Hid (DSound P (List.replicate P.length false)) := hide (by
    intro i hi hd
    rw [dn_at _ _ _ hi] at hd
    simp [List.getD, HOK.out.cls i hi] at hd)
  go_wp2
  go_loopw [4] (fun m wr => ∃ (b : Bool) (D : List Bool), m = .bool b ∧ EndSt w w.heap.size P.length D wr ∧ DSound P D ∧ (b = false → ∀ i, i < P.length → QuietAt P D i)) (fun m wr => 2 * (doneOf wr w.heap.size P.length).countP (fun b => !b) + flagOf m)
  case atStart => exact ⟨true, _, rfl, HE0.out, HS0.out, by simp⟩
  case round =>
    obtain ⟨b, D, rfl, hE, hS, hQ⟩ := hrel
    cases b with
    | true =>
      have HE := hide hE
      have HS := hide hS
      have HD := hide (doneOf_eq hE.len fun k hk => own_bools hE.row hE.len k hk)
      clear hE hS hQ
      rename World => wo
      go_wp2
      go_loopw [4, 5] (fun m i wi => ∃ (b : Bool) (k : Nat) (D' : List Bool), k ≤ P.length ∧ m = .bool b ∧ i = .int .i64 k ∧ EndSt w w.heap.size P.length D' wi ∧ DSound P D' ∧ (b = false → D' = D ∧ ∀ j, j < k → QuietAt P D j) ∧ (b = true → (D'.countP fun b => !b) < D.countP fun b => !b) ∧ ((D'.countP fun b => !b) ≤ D.countP fun b => !b)) (fun _ i _ => P.length - (intOf i).toNat)
      case atStart => exact ⟨false, 0, D, Nat.zero_le _, rfl, rfl, HE.out, HS.out, fun _ => ⟨rfl, fun j h => by omega⟩, by simp, Nat.le_refl _⟩
      case round =>
        obtain ⟨b, k, D', hk, rfl, rfl, hE, hS, hb0, hb1, hb2⟩ := hrel
        have hT := HT.out.below hE.low
        have c1 := hT.cell
        by_cases hlt : k < P.length
        · have hlti : (k : Int) < (P.length : Int) := by omega
          obtain ⟨a', cap', e', hc⟩ := hT.shape
          obtain ⟨g, rfl, q1, q2, q3, e3⟩ := hc k hlt
          simp at e'
          obtain ⟨rfl, rfl⟩ := e'
          clear q1 q2 q3
          have hcb := HOK.out.cls k hlt
          have hlen := hE.len
          have f3 := own_bools hE.row hE.len P[k].1.cls (by omega)
          have hdn := dn_at P D' k hlt
          have HDS := fun (he : Ends (grOf P) (clsR P) k) => DSound.set HCL.out hS hlt he
          have HEO := fun (r : Int) => ends_one (r := r) HCL.out HOK.out hS hlt
          have hfn := fN_set D' P[k].1.cls (by omega)
          have HC := hide hc
          have CT := hide (thead_any B tp _ P P[k].1.cls wr hT hf)
          have fz := hE.row.frozenAt P[k].1.cls
          have HHD := hide (show ∀ (h : Nat) (hl : h < P.length), P[h].1.cls = P[k].1.cls → clsR P k h from fun h hl e => (clsR.iff hlt hl).2 e.symm)
          generalize P[k].1.cls = c at *
          have HE1 := hide hE
          have HS1 := hide hS
          have HB0 := hide hb0
          have HB1 := hide hb1
          have HB2 := hide hb2
          have HDN := hide hdn
          have HDS' := hide HDS
          have HEO' := hide HEO
          have HFN := hide hfn
          have hci : (c : Int) < (P.length : Int) := by omega
          clear hE hS hb0 hb1 hb2 hdn HDS HEO hfn hT hc
          cases hd : D'.getD c false with
          | true =>
            rw [hd] at f3
            have HDT := hide (HDN.out.trans hd)
            clear hd
            go_wp2
            go_roundw
            case rel =>
              refine ⟨b, k + 1, D', by omega, rfl, by go_num, HE1.out, HS1.out, fun e => ⟨(HB0.out e).1, fun j hj => ?_⟩, HB1.out, HB2.out⟩
              by_cases hjk : j < k
              · exact (HB0.out e).2 j hjk
              · have : j = k := by omega
                subst this
                rw [← (HB0.out e).1]
                exact Or.inl HDT.out
            case measure => simp [intOf]; omega
          | false =>
            rw [hd] at f3
            have HFL := hide (HFN.out hd)
            have HDF := hide hd
            clear hd
            go_wp2_with (first
              | (go_at_call 64; refine (unhide CT).mono ?_)
              | go_in)
            rename World => wi
            rintro e w1 ⟨r, rfl, hr, d, rfl⟩
            rcases hr with ⟨rfl, hno⟩ | ⟨h, rfl, hl, hc, hv⟩
            · have HEK := hide (HEO'.out (-1) (Or.inl ⟨rfl, hno⟩) (fun h e => by omega))
              clear hno
              go_wp2
              go_roundw
              case rel =>
                have := HFL.out
                have := HB2.out
                exact ⟨true, k + 1, D'.set c true, by omega, rfl, by go_num, (HE1.out.drewN d).set (Nat.le_refl _) c, HDS'.out HEK.out, by simp, fun _ => by omega, by omega⟩
              case measure => simp [intOf]; omega
            · have hhi : (h : Int) < (P.length : Int) := by omega
              obtain ⟨g', hg', q1, q2, e4, q5⟩ := HC.out h hl
              simp at hg'
              subst hg'
              clear q1 q2 q5
              have hT1 := HT.out.below HE1.out.low
              have hpp := hT1.parts P[h] (List.getElem_mem _)
              have hpb := HPS.out P[h] (List.getElem_mem _)
              have hpl := HOK.out.parts h hl
              have hek : (∀ p ∈ P[h].1.parts, dn P D' p = true) → Ends (grOf P) (clsR P) k := fun ha => HEO'.out h (Or.inr ⟨h, rfl, hl, hc, hv⟩) (fun h' e hl' => by
                have : h = h' := by omega
                subst this
                exact ha)
              have HEK := hide hek
              clear hek
              have HQ := hide (fun (p : Nat) (hp : p ∈ P[h].1.parts) (hd : dn P D' p = false) => (Or.inr ⟨h, hl, HHD.out h hl hc, hv, p, hp, hd⟩ : QuietAt P D' k))
              obtain ⟨pa, pcap, hpv, hpc⟩ := own_nats hpp
              rw [hpv] at e4
              generalize P[h].1.parts = l at *
              have HPC := hide hpc
              have HPL := hide hpl
              clear hpp hpv hT1 hpc hpl hc hv
              go_wp2
              go_loopw [8, 9] (fun a p wx => ∃ q : Nat, q ≤ l.length ∧ p = .int .i64 q ∧ a = .bool (partsDone P D' (l.take q)) ∧ ∃ d', wx = wi.drewN d') (fun _ p _ => l.length - (intOf p).toNat)
              case atStart => exact ⟨0, Nat.zero_le _, rfl, rfl, _, rfl⟩
              case round =>
                obtain ⟨q, hq, rfl, rfl, d', rfl⟩ := hrel
                by_cases hql : q < l.length
                · have hqli : (q : Int) < (l.length : Int) := by omega
                  obtain ⟨g5, rfl, e5⟩ := HPC.out q hql
                  have hpn := HPL.out l[q] (List.getElem_mem _)
                  obtain ⟨g', hg', q1, q2, q3, e6⟩ := HC.out l[q] hpn
                  simp at hg'
                  subst hg'
                  have hcq := HOK.out.cls l[q] hpn
                  have hl1 := HE1.out.len
                  have f6 := own_bools HE1.out.row HE1.out.len P[l[q]].1.cls (by omega)
                  have HPT := hide (partsDone_take P D' l q hql)
                  rw [← dn_at P D' l[q] hpn] at f6
                  generalize P[l[q]].1.cls = cq at *
                  generalize dn P D' l[q] = dq at *
                  generalize l[q] = pq at *
                  have hpni : (pq : Int) < (P.length : Int) := by omega
                  have hcqi : (cq : Int) < (P.length : Int) := by omega
                  clear q1 q2 q3
                  cases hpd : partsDone P D' (l.take q) with
                  | true =>
                    rw [hpd] at HPT
                    go_wp2
                    go_quiet (fail)
                    go_wp2
                    go_roundw
                    case rel => exact ⟨q + 1, by omega, by go_num, by rw [HPT.out]; simp, by first | exact draw2 _ _ _ | exact ⟨_, rfl⟩⟩
                    case measure => simp [intOf]; omega
                  | false =>
                    rw [hpd] at HPT
                    go_wp2
                    go_quiet (fail)
                    go_wp2
                    go_roundw
                    case rel => exact ⟨q + 1, by omega, by go_num, by rw [HPT.out]; simp, by first | exact draw2 _ _ _ | exact ⟨_, rfl⟩⟩
                    case measure => simp [intOf]; omega
                · have hqli : ¬ ((q : Int) < (l.length : Int)) := by omega
                  have hqe : q = l.length := by omega
                  rw [hqe, List.take_length]
                  cases hpd : partsDone P D' l with
                  | true =>
                    have HA : Hid (∀ p ∈ l, dn P D' p = true) := hide (by simpa [partsDone] using hpd)
                    clear hpd
                    go_wp2
                    go_roundw
                    case rel =>
                      have := HFL.out
                      have := HB2.out
                      exact ⟨true, k + 1, D'.set c true, by omega, rfl, by go_num, (HE1.out.drewN d').set (Nat.le_refl _) c, HDS'.out (HEK.out HA.out), by simp, fun _ => by omega, by omega⟩
                    case measure => simp [intOf]; omega
                  | false =>
                    have HA : Hid (∃ p ∈ l, dn P D' p = false) := hide (by simpa [partsDone] using hpd)
                    clear hpd
                    go_wp2
                    go_roundw
                    case rel =>
                      refine ⟨b, k + 1, D', by omega, rfl, by go_num, HE1.out.drewN d', HS1.out, fun e => ⟨(HB0.out e).1, fun j hj => ?_⟩, HB1.out, HB2.out⟩
                      by_cases hjk : j < k
                      · exact (HB0.out e).2 j hjk
                      · have : j = k := by omega
                        subst this
                        rw [← (HB0.out e).1]
                        obtain ⟨p, hp, hd⟩ := HA.out
                        exact HQ.out p hp hd
                    case measure => simp [intOf]; omega
        · have hlti : ¬ ((k : Int) < (P.length : Int)) := by omega
          have HE1 := hide hE
          have HS1 := hide hS
          have HB0 := hide hb0
          have HB1 := hide hb1
          have HB2 := hide hb2
          clear hE hS hb0 hb1 hb2 hT
          go_wp2
          go_roundw
          case rel => exact ⟨b, D', rfl, HE1.out, HS1.out, fun e i hi => by rw [(HB0.out e).1]; exact (HB0.out e).2 i (by omega)⟩
          case measure =>
            rw [HD.out, doneOf_eq HE1.out.len fun k hk => own_bools HE1.out.row HE1.out.len k hk]
            have := HB2.out
            cases b with
            | true => have := HB1.out rfl; simp [flagOf]; omega
            | false => simp [flagOf]; omega
    | false =>
      have HE := hide hE
      have HS := hide hS
      have HQ := hide (hQ rfl)
      have hT := HT.out.below hE.low
      have c1 := hT.cell
      clear hE hS hQ
      rename World => wo
      have HT1 := hide hT
      clear hT
      go_wp2
      go_loopw [10] (fun i wi => ∃ k : Nat, k ≤ P.length ∧ i = .int .i64 k ∧ (∀ j, j < k → dn P D j = true) ∧ wi = wo) (fun i _ => P.length - (intOf i).toNat)
      case atStart => exact ⟨0, Nat.zero_le _, rfl, fun j h => by omega, rfl⟩
      case round =>
        obtain ⟨k, hk, rfl, hall, rfl⟩ := hrel
        by_cases hlt : k < P.length
        · have hlti : (k : Int) < (P.length : Int) := by omega
          obtain ⟨a', cap', e', hc⟩ := HT1.out.shape
          obtain ⟨g, rfl, q1, q2, q3, e3⟩ := hc k hlt
          simp at e'
          obtain ⟨rfl, rfl⟩ := e'
          clear q1 q2 q3
          have hcb := HOK.out.cls k hlt
          have hlen := HE.out.len
          have f3 := own_bools HE.out.row HE.out.len P[k].1.cls (by omega)
          rw [← dn_at P D k hlt] at f3
          have HA := hide hall
          generalize P[k].1.cls = c at *
          have hci : (c : Int) < (P.length : Int) := by omega
          clear hc hall
          cases hd : dn P D k with
          | true =>
            rw [hd] at f3
            have HD := hide hd
            clear hd
            go_wp2
            go_roundw
            case rel =>
              refine ⟨k + 1, by omega, by go_num, fun j hj => ?_, by first | rfl | trivial⟩
              by_cases hjk : j < k
              · exact HA.out j hjk
              · have : j = k := by omega
                subst this; exact HD.out
            case measure => simp [intOf]; omega
          | false =>
            rw [hd] at f3
            have HD := hide hd
            clear hd
            go_wp2
            go_ret
            refine ⟨_, rfl, ⟨_, rfl, fun e => by simp at e, fun e => ?_⟩, HE.out.low⟩
            have := quiet_all HOK.out HQ.out (e k hlt) hlt
            rw [HD.out] at this
            cases this
        · have hlti : ¬ ((k : Int) < (P.length : Int)) := by omega
          have HA := hide hall
          clear hall
          go_wp2
          go_ret
          exact ⟨_, rfl, ⟨_, rfl, fun _ i hi => HS.out i hi (HA.out i (by omega)), fun _ => rfl⟩, HE.out.low⟩

end Go.Proofs.YtjnddclkdofgdaaDoor
