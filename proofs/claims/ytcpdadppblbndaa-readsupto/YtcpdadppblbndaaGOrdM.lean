/- The program: the clauses are brought to order. Pure: the places of a text are the uses of its names; its variables' numbers; its sizes. The program's parser is made. -/
import Derived.Test.YtcpdadppblbndaaPUse0M
import Derived.Test.YtcpdadppblbndaaONumberM
import Derived.Test.YtcpdadppblbndaaSRd1
import Derived.Test.YtcpdadppblbndaaGClM
namespace Go.Proofs.Ytcpdadppblbndaa
open Go.RowKit Go.WideMaps
set_option maxRecDepth 100000

/-- What ordered answers. -/
def OrdR (CV : List Pc) (w : World) (e : Ending) (w' : World) : Prop :=
  ∃ v QV at' er, e = .returned (.tuple #[v, .int .i64 at', .int .i64 er]) ∧ ManyR (CV.map pcOf) (QV.map fun p => p.1.map Prod.fst) at' er ∧ OrdMem w.heap.size w' v QV ∧ Below w.heap.size w w'
/-- While the clauses are brought to order. -/
structure OLp (CV : List Pc) (w : World) (k : Nat) (v : Value) (wr : World) (QV : List (List (Lt × Value) × Value)) : Prop where
  le : k ≤ CV.length
  made : QV.map (fun p => p.1.map Prod.fst) = (CV.take k).map fun p => ordL (p.1.2.map Prod.fst)
  good : ∀ j h, j < k → ¬ badCl (CV.map pcOf) j h
  mem : OrdMem w.heap.size wr v QV
  low : Below w.heap.size w wr
theorem bad_at {CV : List Pc} {k : Nat} (h : k < CV.length) (h' : k < (CV.map pcOf).length) : badCl (CV.map pcOf) k h' ↔ (40 ≤ k ∨ fitsL (ordL (CV[k].1.2.map Prod.fst)) = false) := by
  unfold badCl
  rw [List.getElem_map]
  exact Iff.rfl
theorem nodup_some {α : Type} {f : α → Option Nat} {l : List α} (h : (l.map f).Nodup) : (l.filterMap f).Nodup := by
  unfold List.Nodup at h ⊢
  rw [List.pairwise_map] at h
  refine List.Pairwise.filterMap f (fun a a' hr b hb b' hb' e => hr ?_) h
  subst e
  rw [hb, hb']
section
variable {CV : List Pc} {w wr : World} {k : Nat} {v : Value} {QV : List (List (Lt × Value) × Value)}
/-- The clause in order, with its memory. -/
theorem ord_cl {w1 w2 : World} {B : Nat} {c : List Lt} {vo : Value} {nb : Nat} {Q : List (Lt × Value)} (hO : OrderR w1 c vo nb Q w2) (hB : B ≤ w1.heap.size) (hs : ∀ x ∈ c, ShortN x.2) (hc : countL c ≤ 100000) (hl : c.length ≤ 100000) :
    ClR w2 B (Q, vo) ∧ ((∀ q ∈ Q, ShortN q.1.2) ∧ countL (Q.map Prod.fst) ≤ 1000000 ∧ Q.length ≤ 1000000) ∧ LitsIn w2 (some ⟨nb, 0, none⟩) (ordL c) := by
  obtain ⟨o1, o2, o3⟩ := ordL_small c hs
  have hql : Q.length = (ordL c).length := by rw [← hO.made]; simp
  have hr : ClR w2 B (Q, vo) := by
    refine ⟨?_, fun q hq => own_mono (hO.atoms q hq) hB⟩
    rw [hO.val, hql]
    exact own_mono hO.row hB
  have hsh : ∀ q ∈ Q, ShortN q.1.2 := fun q hq => o1 q.1 (by rw [← hO.made]; exact List.mem_map.2 ⟨q, hq, rfl⟩)
  have hct : countL (Q.map Prod.fst) ≤ 1000000 := by rw [hO.made]; omega
  refine ⟨hr, ⟨hsh, hct, by omega⟩, ?_⟩
  obtain ⟨a, cap, hv, hlit⟩ := lits_in (P := Q) hr.1 hr.2 hsh hct (by omega)
  rw [hO.val] at hv
  simp at hv
  rw [← hO.made]
  rw [hv.1]
  exact hlit
/-- A clause in order is put behind. -/
theorem ord_put {w2 w3 w4 : World} {c : List Lt} {vo v' : Value} {nb : Nat} {Q : List (Lt × Value)} {X Y : Obj} (h : OLp CV w k v wr QV) (hk : k < CV.length) (hcv : CV[k].1.2.map Prod.fst = c) (hO : OrderR (wr.alloc X) c vo nb Q w2) (hb3 : Below w2.heap.size w2 w3) (hs : ∀ x ∈ c, ShortN x.2) (hc : countL c ≤ 100000) (hl : c.length ≤ 100000) (hgood : k < 40 ∧ fitsL (ordL c) = true) (ho : w4.ownsRow w.heap.size 42 1 v' (QV.length + 1) (QV.map Prod.snd ++ [vo])) (hg : (w3.alloc Y).grownBy w4 v.ownBlock) :
    OLp CV w (k + 1) v' w4 (QV ++ [(Q, vo)]) := by
  have hz := h.low.size
  have hA := (Below.refl wr.heap.size wr).alloc (Nat.le_refl _) X
  have hz2 := hO.low.size
  have hz3 := hb3.size
  have hn3 : Below w2.heap.size w2 (w3.alloc Y) := hb3.alloc hz3 Y
  simp at hz2
  have hch : Below wr.heap.size wr (w3.alloc Y) := (hA.trans (hO.low.mono (by simp))).trans (hn3.mono (by omega))
  have hrow := own_below h.mem.mem.1 hch (Nat.le_refl _)
  obtain ⟨hcl, hsm, _⟩ := ord_cl (B := w.heap.size) hO (by simp; omega) hs hc hl
  have hvb : vo.ownBlock = some nb := by rw [hO.val]; rfl
  have hnb : wr.heap.size < nb + 1 := by
    have := (own_lt hO.row nb rfl).1
    simp at this
    omega
  refine ⟨hk, ?_, fun j hj hjk => ?_, ⟨⟨?_, fun p hp => ?_⟩, ?_, ?_⟩, ?_⟩
  · rw [List.map_append, h.made, List.map_singleton, List.take_succ_eq_append_getElem hk, List.map_append, List.map_singleton, hO.made, hcv]
  · by_cases hjk' : j = k
    · subst hjk'
      rw [bad_at hk, hcv, hgood.2]
      rintro (h1 | h1)
      · omega
      · simp at h1
    · exact h.good j hj (by omega)
  · rw [List.length_append, List.map_append, List.map_singleton]
    exact ho
  · rcases List.mem_append.1 hp with hp | hp
    · obtain ⟨h1, h2⟩ := h.mem.mem.2 p hp
      refine ⟨⟨?_, fun q hq => ?_⟩, h2⟩
      · have := own_below h1.1 hch (Nat.le_refl _)
        exact this.kept hg (own_apart this hrow (by decide))
      · have := own_below (h1.2 q hq) hch (Nat.le_refl _)
        exact this.kept hg (own_apart this hrow (by decide))
    · simp at hp
      subst hp
      refine ⟨⟨?_, fun q hq => ?_⟩, hsm⟩
      · have := own_below hcl.1 hn3 (Nat.le_refl _)
        exact this.kept hg (own_apart this hrow (by decide))
      · have := own_below (hcl.2 q hq) hn3 (Nat.le_refl _)
        exact this.kept hg (own_apart this hrow (by decide))
  · rw [List.map_append, List.map_singleton, List.nodup_append]
    refine ⟨h.mem.once, by simp, fun a ha b hb => ?_⟩
    simp at hb
    subst hb
    obtain ⟨p, hp, rfl⟩ := List.mem_map.1 ha
    rw [hvb]
    intro e
    have := (own_lt (h.mem.mem.2 p hp).1.1 nb e).2
    omega
  · rw [List.flatMap_append, List.flatMap_singleton, List.nodup_append]
    refine ⟨h.mem.atoms, nodup_some hO.once, fun a ha b hb => ?_⟩
    obtain ⟨p, hp, ha⟩ := List.mem_flatMap.1 ha
    obtain ⟨q, hq, hqa⟩ := List.mem_filterMap.1 ha
    obtain ⟨q', hq', hqb⟩ := List.mem_filterMap.1 hb
    intro e
    subst e
    have h1 := (own_lt ((h.mem.mem.2 p hp).1.2 q hq) a hqa).2
    have h2 := (own_lt (hO.atoms q' hq') a hqb).1
    simp at h2
    omega
  · exact (h.low.trans (hch.mono hz)).grown hg (by have := hch.size; omega) (fun j e => (own_lt hrow j e).1)

set_option maxHeartbeats 4000000 in
theorem sOrdered_any {B : Nat} {vC : Value} (h : CsIn B w vC CV) (hs : ∀ p ∈ CV, PcSmall p) (hv : ∀ p ∈ CV, ∀ q ∈ p.1.2, VarsOk q.1.2) (hl : CV.length ≤ 1000000) :
    Calls Try.prog 26 #[vC] w fun e w' => OrdR CV w e w' := by
  obtain ⟨iM, hM, hM0, hM1, hM2⟩ := info_parts infoLits
  obtain ⟨va, vac, rfl⟩ := own_shape h.row
  have HH := hide h
  have HS := hide hs
  have HV := hide hv
  clear h hs hv
  go_enter Try.func26, Try.ntmps26
  go_wp2
  go_loopw [5, 11] (fun o i wr => ∃ (k : Nat) (QV : List (List (Lt × Value) × Value)), i = .int .i64 k ∧ OLp CV w k o wr QV) (fun _ i _ => CV.length - (intOf i).toNat)
  case atStart => exact ⟨0, [], rfl, ⟨Nat.zero_le _, rfl, fun j h hj => by omega, OrdMem.nil _ _, Below.refl _ _⟩⟩
  case round =>
    obtain ⟨k, QV, rfl, hL⟩ := hrel
    have hk := hL.le
    have hz := hL.low.size
    obtain ⟨oa, oc, rfl⟩ := own_shape hL.mem.mem.1
    have hQl : QV.length = k := by
      have := congrArg List.length hL.made
      simp at this
      omega
    have hq1 : QV.length ≤ 1000000 := by omega
    clear hQl
    by_cases hlt : k < CV.length
    · have hm : CV[k] ∈ CV := List.getElem_mem _
      have hsm := HS.out _ hm
      obtain ⟨aa, cap, hv, hlit⟩ := lits_in (P := CV[k].1.2) (HH.out.each _ hm).1 (HH.out.each _ hm).2 hsm.short (by have := hsm.count; omega) (by have := hsm.len; omega)
      obtain ⟨gC, cC, hva⟩ := own_at HH.out.row (by omega)
      simp at hva
      obtain ⟨rfl, rfl⟩ := hva
      have e1 : w.cell? ⟨gC, k * 2, none⟩ = some (.int .i64 CV[k].1.1) := by rw [HH.out.row.cellAt _ (by omega), (pcCells_at CV k hlt).1]
      have e2 : w.cell? ⟨gC, k * 2 + 1, none⟩ = some (.slice aa CV[k].1.2.length cap) := by rw [HH.out.row.cellAt _ (by omega), (pcCells_at CV k hlt).2, hv]
      have f1 := Below.at' hL.low (Nat.le_refl _) e1
      have f2 := Below.at' hL.low (Nat.le_refl _) e2
      have hcnt := hsm.count
      have hln := hsm.len
      have hpl : (CV[k].1.2.map Prod.fst).length = CV[k].1.2.length := by simp
      rw [← hpl] at f2 hln
      have hsh : ∀ x ∈ CV[k].1.2.map Prod.fst, ShortN x.2 := fun x hx => by obtain ⟨q, hq, rfl⟩ := List.mem_map.1 hx; exact hsm.short q hq
      have hvo : ∀ x ∈ CV[k].1.2.map Prod.fst, VarsOk x.2 := fun x hx => by obtain ⟨q, hq, rfl⟩ := List.mem_map.1 hx; exact HV.out _ hm q hq
      have hbad := bad_at hlt (by simpa using hlt)
      obtain ⟨c, hcv⟩ : ∃ c, CV[k].1.2.map Prod.fst = c := ⟨_, rfl⟩
      obtain ⟨at0, hat⟩ : ∃ a, CV[k].1.1 = a := ⟨_, rfl⟩
      rw [hcv] at f2 hln hcnt hsh hvo hbad hlit
      rw [hat] at f1
      have HBAD : Hid (40 ≤ k ∨ fitsL (ordL c) = false → ManyR (CV.map pcOf) [] at0 4) := hide fun hx => Or.inl ⟨k, by simpa using hlt, hbad.2 hx, hL.good, rfl, by rw [List.getElem_map]; simp [pcOf, hat], rfl⟩
      have HPUT := hide (fun (w2 w3 w4 : World) (vo v' : Value) (nb : Nat) (Q : List (Lt × Value)) (X Y : Obj) hO hb3 hg ho hgr => ord_put (w2 := w2) (w3 := w3) (w4 := w4) (vo := vo) (v' := v') (nb := nb) (Q := Q) (X := X) (Y := Y) hL hlt hcv hO hb3 hsh hcnt hln hg ho hgr)
      have CO := hide (fun wx (hx : LitsIn wx aa c) => order_any aa cap c wx hx hvo hcnt hln)
      have HOC := hide (fun (w1 w2 : World) (vo : Value) (nb : Nat) (Q : List (Lt × Value)) (hO : OrderR w1 c vo nb Q w2) => (ord_cl (B := 0) hO (Nat.zero_le _) hsh hcnt hln).2.2)
      have HLI := hide (hlit.below hL.low (Nat.le_refl _))
      have HR := hide hL.mem.mem.1
      have HL := hide hL
      clear e1 e2 hv hsm hm hpl hbad hcv hat hL hlit hsh hvo
      have X0 : Hid ((wr.alloc (.cells #[.int .i64 at0, .slice aa c.length cap] 100)).cell? ⟨wr.heap.size, 0, none⟩ = some (.int .i64 at0)) := hide (by simp)
      by_cases h40 : k < 40
      · cases hfit : fitsL (ordL c) with
        | false =>
          have HBR := hide (HBAD.out (Or.inr hfit))
          have CF := hide (fun wx nb (hx : LitsIn wx (some ⟨nb, 0, none⟩) (ordL c)) => lFits_any (some ⟨nb, 0, none⟩) (ordL c).length (ordL c) wx hx)
          rw [hfit] at CF
          clear HPUT HBAD hfit
          go_wp2_with (first
            | (go_at_call 40; refine (CF.out _ nb (HOC.out _ _ _ _ _ HO.out)).mono ?_; rintro e w3 ⟨rfl, hb3⟩; have HB3 := hide hb3; have x3 := Below.at' hb3 (Nat.le_refl _) x0; have HR3 := hide (own_below HR2.out hb3 (Nat.le_refl _)); have hz3 := hb3.size; clear hb3)
            | (go_at_call 39; refine (CO.out _ (HLI.out.below ((Below.refl _ _).alloc (Nat.le_refl _) _) (Nat.le_refl _))).mono ?_; rintro e w2 ⟨vo, nb, Q, rfl, hO⟩; have hvo := hO.val; subst hvo; have x0 := Below.at' hO.low (Nat.le_refl _) X0.out; have HO := hide hO; have HB2 := hide (HL.out.low.trans (((Below.refl wr.heap.size wr).alloc (Nat.le_refl _) (.cells #[.int .i64 at0, .slice aa c.length cap] 100)).mono hz |>.trans (hO.low.mono (by simp; omega)))); have HR2 := hide (own_below (HR.out.alloc _) hO.low (Nat.le_refl _)); have hz2 := hO.low.size; simp at hz2; clear hO)
            | go_in)
          go_quiet (fail)
          go_wp2
          go_returns
          exact ⟨_, [], at0, 4, rfl, HBR.out, OrdMem.nil _ _, (HB2.out.trans (HB3.out.mono (by omega))).trans ((below_drawn ⟨_, rfl⟩).mono (by omega))⟩
        | true =>
          have CF := hide (fun wx nb (hx : LitsIn wx (some ⟨nb, 0, none⟩) (ordL c)) => lFits_any (some ⟨nb, 0, none⟩) (ordL c).length (ordL c) wx hx)
          rw [hfit] at CF
          have HP2 := hide (fun w2 w3 w4 vo v' nb Q X Y hO hb3 ho hgr => HPUT.out w2 w3 w4 vo v' nb Q X Y hO hb3 ⟨h40, hfit⟩ ho hgr)
          clear HPUT HBAD hfit
          go_wp2_with (first
            | (at_builtin; refine wpList_append_own _ rfl (.tmp 28) (.tmp 30) 26 rfl w.heap.size 42 iM (.slice none 0 0) 1 24 Try.underlying26 hM hM0 hM1 hM2 rfl (by decide) _ _ _ rfl (HR3.out.alloc _) ⟨_, 0, none⟩ 1 1 [.slice (some ⟨nb, 0, none⟩) (ordL c).length (ordL c).length] rfl rfl (new1 w3 _ _ _ rfl) (by intro u hu; simp at hu; subst hu; rfl) (by unfold maxLen; omega) (by omega) (by simp; omega) ?_; intro v4 w4 ho4 hg4 _; have HL4 := hide (HP2.out _ _ _ _ _ _ _ _ _ HO.out HB3.out ho4 hg4); clear ho4 hg4)
            | (go_at_call 40; refine (CF.out _ nb (HOC.out _ _ _ _ _ HO.out)).mono ?_; rintro e w3 ⟨rfl, hb3⟩; have HB3 := hide hb3; have x3 := Below.at' hb3 (Nat.le_refl _) x0; have HR3 := hide (own_below HR2.out hb3 (Nat.le_refl _)); have hz3 := hb3.size; clear hb3)
            | (go_at_call 39; refine (CO.out _ (HLI.out.below ((Below.refl _ _).alloc (Nat.le_refl _) _) (Nat.le_refl _))).mono ?_; rintro e w2 ⟨vo, nb, Q, rfl, hO⟩; have hvo := hO.val; subst hvo; have x0 := Below.at' hO.low (Nat.le_refl _) X0.out; have HO := hide hO; have HB2 := hide (HL.out.low.trans (((Below.refl wr.heap.size wr).alloc (Nat.le_refl _) (.cells #[.int .i64 at0, .slice aa c.length cap] 100)).mono hz |>.trans (hO.low.mono (by simp; omega)))); have HR2 := hide (own_below (HR.out.alloc _) hO.low (Nat.le_refl _)); have hz2 := hO.low.size; simp at hz2; clear hO)
            | go_in)
          go_roundw
          case rel => exact ⟨k + 1, _, by go_num, HL4.out⟩
          case measure => simp [intOf]; omega
      · have HBR := hide (HBAD.out (Or.inl (by omega)))
        clear HPUT HBAD
        go_wp2_with (first
          | (go_at_call 39; refine (CO.out _ (HLI.out.below ((Below.refl _ _).alloc (Nat.le_refl _) _) (Nat.le_refl _))).mono ?_; rintro e w2 ⟨vo, nb, Q, rfl, hO⟩; have hvo := hO.val; subst hvo; have x0 := Below.at' hO.low (Nat.le_refl _) X0.out; have HO := hide hO; have HB2 := hide (HL.out.low.trans (((Below.refl wr.heap.size wr).alloc (Nat.le_refl _) (.cells #[.int .i64 at0, .slice aa c.length cap] 100)).mono hz |>.trans (hO.low.mono (by simp; omega)))); have HR2 := hide (own_below (HR.out.alloc _) hO.low (Nat.le_refl _)); have hz2 := hO.low.size; simp at hz2; clear hO)
          | go_in)
        go_quiet (fail)
        go_wp2
        go_returns
        exact ⟨_, [], at0, 4, rfl, HBR.out, OrdMem.nil _ _, HB2.out.trans ((below_drawn ⟨_, rfl⟩).mono (by omega))⟩
    · have hk' : k = CV.length := by omega
      have HF : Hid (ManyR (CV.map pcOf) (QV.map fun p => p.1.map Prod.fst) 0 0) := hide (Or.inr ⟨fun j hj => hL.good j hj (by simp at hj; omega), by rw [hL.made, hk', List.take_length, List.map_map]; rfl, rfl, rfl⟩)
      have HL := hide hL
      clear hL hk'
      go_wp2
      go_returns
      exact ⟨_, QV, 0, 0, rfl, HF.out, HL.out.mem, HL.out.low⟩
end

end Go.Proofs.Ytcpdadppblbndaa

namespace Go.Proofs.Ytcpdadppblbndaa
open Go.RowKit Go.WideMaps
set_option maxRecDepth 100000

/-- What the names of nodes are, the first of which has a number. -/
def usesFrom : Nat → List Nd → List Us
  | _, [] => []
  | k, n :: r => useOf k n ++ usesFrom (k + 1) r
theorem usesFrom_append (a b : List Nd) : ∀ k, usesFrom k (a ++ b) = usesFrom k a ++ usesFrom (k + a.length) b := by
  induction a with
  | nil => intro k; simp [usesFrom]
  | cons x r ih => intro k; simp only [List.cons_append, usesFrom, ih, List.append_assoc, List.length_cons]; rw [show k + 1 + r.length = k + (r.length + 1) by omega]
theorem plTo_from (l : List Nd) : ∀ k, k ≤ l.length → plTo l k = usesFrom 0 (l.take k) := by
  intro k
  induction k with
  | zero => intro _; simp [plTo, usesFrom]
  | succ k ih =>
    intro hk
    rw [plTo_succ l k hk, ih (by omega), List.take_succ_eq_append_getElem hk, usesFrom_append]
    simp [usesFrom, Nat.min_eq_left (show k ≤ l.length by omega)]
theorem usesTo_flat (c : List Lt) : ∀ k, k ≤ c.length → usesTo c k = (c.take k).flatMap fun x => usesFrom 0 x.2 := by
  intro k
  induction k with
  | zero => intro _; simp [usesTo]
  | succ k ih =>
    intro hk
    rw [usesTo_succ c k hk, ih (by omega), List.take_succ_eq_append_getElem hk, List.flatMap_append, List.flatMap_singleton, plTo_from _ _ (Nat.le_refl _), List.take_length]
theorem usesL_flat (c : List Lt) : usesL c = c.flatMap fun x => usesFrom 0 x.2 := by
  unfold usesL
  rw [usesTo_flat c _ (Nat.le_refl _), List.take_length]
/-- Variables' numbers. -/
def VarsIn (m : Nat) (l : List Nd) : Prop := ∀ n ∈ l, varB n = true → 0 ≤ n.2 ∧ n.2 ≤ m
theorem VarsIn.mono {m m' : Nat} {l : List Nd} (h : VarsIn m l) (hm : m ≤ m') : VarsIn m' l := fun n hn hv => by have := h n hn hv; omega
theorem VarsIn.append {m : Nat} {a b : List Nd} (h : VarsIn m a) (k : VarsIn m b) : VarsIn m (a ++ b) := fun n hn => by
  rcases List.mem_append.1 hn with hn | hn
  · exact h n hn
  · exact k n hn
theorem numV_bounds (l : List ByteArray) (x : ByteArray) : 0 ≤ numV l x ∧ numV l x ≤ (addV l x).length := by
  have := posS_bounds l x
  unfold numV addV
  split
  · simp; omega
  · omega
theorem modify_at {α : Type} (f : α → α) (p : α) (b : List α) : ∀ a : List α, (a ++ [p] ++ b).modify a.length f = a ++ [f p] ++ b := by
  intro a
  induction a with
  | nil => rfl
  | cons x r ih => simp only [List.cons_append, List.length_cons, List.modify_succ_cons, ih]
theorem setParts_at (a b : List Pl) (p : Pl) (n : Nat) : setParts (a ++ [p] ++ b) a.length n = a ++ [(p.1, p.2.1, (n : Int), p.2.2.2)] ++ b := modify_at _ _ _ _
theorem setN_at' (a b : List Nd) (p : Nd) (n : Nat) : setN (a ++ [p] ++ b) a.length n = a ++ [(p.1, (n : Int))] ++ b := modify_at _ _ _ _
/-- What a term, and parts, put behind. -/
structure Put2 (st st' : PSt) (l l' : List Nd) (Q : List Pl) (M : List Nd) : Prop where
  pl : st'.places = st.places ++ Q
  nd : l' = l ++ M
  us : Q.map noAt = usesFrom l.length M
  vs : VarsIn st'.vars.length M
  ps : ∀ p ∈ Q, 0 ≤ p.2.2.2
theorem pTermG_put {T : List Tk} (hN : ∀ i, (tkA T i).kind = 110 → (tkA T i).txt.toList.isEmpty = false) : ∀ f, (∀ atom st l st' l', pTermG T f atom st l = .ok (st', l') → atom = decide (l.length = 0) → ∃ Q M, Put2 st st' l l' Q M) ∧
    (∀ st l n st' l' n', pPartsG T f st l n = .ok (st', l', n') → 0 < l.length → ∃ Q M, Put2 st st' l l' Q M) := by
  intro f
  induction f with
  | zero => exact ⟨fun atom st l st' l' h => by simp [pTermG] at h, fun st l n st' l' n' h => by simp [pPartsG] at h⟩
  | succ f ih =>
    obtain ⟨ih1, ih2⟩ := ih
    constructor
    · intro atom st l st' l' h ha
      rw [pTermG] at h
      split at h
      · simp only [Except.ok.injEq, Prod.mk.injEq] at h
        obtain ⟨rfl, rfl⟩ := h
        refine ⟨[], [(⟨#[]⟩, numV st.vars (tkA T st.i).txt)], by simp, rfl, ?_, ?_, fun p hp => by simp at hp⟩
        · simp [usesFrom, useOf, varB]
        · intro n hn _
          simp at hn
          subst hn
          exact numV_bounds _ _
      · split at h
        · simp at h
        · rename_i hk110
          simp only [ne_eq, Decidable.not_not] at hk110
          have hne := hN _ hk110
          have huse : ∀ m : Int, useOf l.length ((tkA T st.i).txt, m) = [((tkA T st.i).txt, atom, m)] := by
            intro m
            unfold useOf varB
            simp only
            rw [hne, ha]
            rfl
          have hvar : ∀ m : Int, varB ((tkA T st.i).txt, m) = false := fun m => hne
          split at h
          · split at h
            · simp at h
            · rename_i st1 l1 n1 hq
              simp only [Except.ok.injEq, Prod.mk.injEq] at h
              obtain ⟨rfl, rfl⟩ := h
              obtain ⟨Q, M, hp⟩ := ih2 _ _ _ _ _ _ hq (by simp)
              have hpl := hp.pl
              have hnd := hp.nd
              have hus := hp.us
              have hps := hp.ps
              simp only at hpl
              refine ⟨((tkA T st.i).txt, atom, (n1 : Int), ((tkA T st.i).pos : Int)) :: Q, ((tkA T st.i).txt, (n1 : Int)) :: M, ?_, ?_, ?_, ?_, fun p hp => ?_⟩
              · simp only
                rw [hpl, setParts_at]
                simp
              · rw [hnd, setN_at']
                simp
              · rw [List.map_cons, hus, usesFrom, huse]
                simp [noAt]
              · intro n hn hv
                rcases List.mem_cons.1 hn with rfl | hn
                · rw [hvar] at hv; cases hv
                · exact hp.vs n hn hv
              · rcases List.mem_cons.1 hp with rfl | hp
                · simp
                · exact hps p hp
          · simp only [Except.ok.injEq, Prod.mk.injEq] at h
            obtain ⟨rfl, rfl⟩ := h
            refine ⟨[((tkA T st.i).txt, atom, 0, ((tkA T st.i).pos : Int))], [((tkA T st.i).txt, 0)], rfl, rfl, ?_, ?_, fun p hp => by simp at hp; subst hp; simp⟩
            · rw [usesFrom, huse]
              rfl
            · intro n hn hv
              simp at hn
              subst hn
              rw [hvar] at hv
              cases hv
    · intro st l n st' l' n' h hl
      rw [pPartsG] at h
      split at h
      · simp at h
      · rename_i st1 l1 hp
        obtain ⟨Q, M, q⟩ := ih1 _ _ _ _ _ hp (decide_eq_false (by omega)).symm
        have hon := (pTermG_on T f).1 _ _ _ _ _ hp
        have q1 := q.pl
        have q2 := q.nd
        have q3 := q.us
        simp only at q1
        split at h
        · have hl1 : 0 < l1.length := by omega
          have hon2 := (pTermG_on T f).2 _ _ _ _ _ _ h
          obtain ⟨Q2, M2, r⟩ := ih2 _ _ _ _ _ _ h hl1
          refine ⟨Q ++ Q2, M ++ M2, ?_, ?_, ?_, ?_, fun p hp => (List.mem_append.1 hp).elim (q.ps p) (r.ps p)⟩
          · rw [r.pl, q1, List.append_assoc]
          · rw [r.nd, q2, List.append_assoc]
          · rw [List.map_append, q3, r.us, usesFrom_append, q2, List.length_append]
          · exact (q.vs.mono (by omega)).append r.vs
        · split at h
          · simp only [Except.ok.injEq, Prod.mk.injEq] at h
            obtain ⟨rfl, rfl, rfl⟩ := h
            exact ⟨Q, M, q1, q2, q3, q.vs, q.ps⟩
          · simp at h
/-- Literals. -/
theorem pLitsG_put {T : List Tk} (hN : ∀ i, (tkA T i).kind = 110 → (tkA T i).txt.toList.isEmpty = false) : ∀ f st c st' c', pLitsG T f st c = .ok (st', c') → (∀ x ∈ c, VarsIn st.vars.length x.2) → ∃ Q C, st'.places = st.places ++ Q ∧ c' = c ++ C ∧ Q.map noAt = usesL C ∧ (∀ x ∈ c', VarsIn st'.vars.length x.2) ∧ st.vars.length ≤ st'.vars.length ∧ st.i ≤ st'.i ∧ st'.vars.length + st.i ≤ st.vars.length + st'.i ∧ ∀ p ∈ Q, 0 ≤ p.2.2.2 := by
  intro f
  induction f with
  | zero => intro st c st' c' h; simp [pLitsG] at h
  | succ f ih =>
    intro st c st' c' h hv
    cases hq : pTermG T (T.length + 1) true (sgn T st) [] with
    | error p => rw [lits_err hq] at h; simp at h
    | ok r =>
      obtain ⟨s2, l2⟩ := r
      obtain ⟨q1, q2, q3, q4⟩ := sgn_i T st
      obtain ⟨Q, M, hp⟩ := (pTermG_put hN (T.length + 1)).1 _ _ _ _ _ hq rfl
      have hon := (pTermG_on T (T.length + 1)).1 _ _ _ _ _ hq
      have hpl := hp.pl
      have hnd := hp.nd
      have hus := hp.us
      rw [q4] at hpl
      rw [q3] at hon
      simp only [List.nil_append] at hnd
      subst hnd
      have hv2 : ∀ x ∈ c ++ [(decide ((tkA T st.i).kind = 126), l2)], VarsIn s2.vars.length x.2 := by
        intro x hx
        rcases List.mem_append.1 hx with hx | hx
        · exact (hv x hx).mono (by omega)
        · simp at hx; subst hx; exact hp.vs
      by_cases hk : (tkA T s2.i).kind = 124
      · rw [lits_more hq hk] at h
        obtain ⟨Q2, C2, r1, r2, r3, r4, r5, r6, r7, r8⟩ := ih _ _ _ _ h hv2
        simp only at r1 r5 r6 r7
        refine ⟨Q ++ Q2, (decide ((tkA T st.i).kind = 126), l2) :: C2, ?_, ?_, ?_, r4, by omega, by omega, by omega, fun p hq' => (List.mem_append.1 hq').elim (hp.ps p) (r8 p)⟩
        · rw [r1, hpl, List.append_assoc]
        · rw [r2, List.append_assoc]; rfl
        · rw [List.map_append, hus, r3, usesL_flat, usesL_flat, List.flatMap_cons]; rfl
      · rw [lits_stop hq hk] at h
        simp only [Except.ok.injEq, Prod.mk.injEq] at h
        obtain ⟨rfl, rfl⟩ := h
        refine ⟨Q, [(decide ((tkA T st.i).kind = 126), l2)], hpl, rfl, ?_, hv2, by omega, by omega, by omega, hp.ps⟩
        rw [hus, usesL_flat, List.flatMap_singleton]
        rfl
/-- A clause. -/
theorem pClauseG_put {T : List Tk} (hN : ∀ i, (tkA T i).kind = 110 → (tkA T i).txt.toList.isEmpty = false) {st st' : PSt} {c : List Lt} (h : pClauseG T st = .ok (st', c)) : ∃ Q, st'.places = st.places ++ Q ∧ Q.map noAt = usesL c ∧ (∀ x ∈ c, VarsIn st'.i x.2) ∧ ∀ p ∈ Q, 0 ≤ p.2.2.2 := by
  unfold pClauseG at h
  cases hq : pBodyG T st with
  | error p => rw [hq] at h; simp at h
  | ok r =>
    obtain ⟨s1, c1⟩ := r
    rw [hq] at h
    simp only at h
    split at h
    · simp only [Except.ok.injEq, Prod.mk.injEq] at h
      obtain ⟨rfl, rfl⟩ := h
      unfold pBodyG at hq
      split at hq
      · simp only [Except.ok.injEq, Prod.mk.injEq] at hq
        obtain ⟨rfl, rfl⟩ := hq
        exact ⟨[], by simp, rfl, fun x hx => by simp at hx, fun p hp => by simp at hp⟩
      · obtain ⟨Q, C, r1, r2, r3, r4, r5, r6, r7, r8⟩ := pLitsG_put hN _ _ _ _ _ hq (fun x hx => by simp at hx)
        simp only [List.nil_append] at r2
        subst r2
        simp only [List.length_nil] at r7
        exact ⟨Q, r1, r3, fun x hx => (r4 x hx).mono (by simp; omega), r8⟩
    · simp at h
/-- What is known of a clause that was read. -/
structure ClOk (T : List Tk) (c : List Lt) : Prop where
  short : ∀ x ∈ c, ShortN x.2
  count : countL c ≤ T.length
  len : c.length ≤ T.length
  vars : ∀ x ∈ c, VarsIn T.length x.2
/-- A text. -/
theorem pTextG_put {L T : List Tk} {brk : Int} (ht : TL L T brk) (hx : TLx L T) (hN : ∀ i, (tkA T i).kind = 110 → (tkA T i).txt.toList.isEmpty = false) : ∀ f st cs st' cs', pTextG T f st cs = .ok (st', cs') → st.i < T.length → ∃ Q C, st'.places = st.places ++ Q ∧ cs' = cs ++ C ∧ Q.map noAt = (C.flatMap fun p => usesL p.2) ∧ (∀ p ∈ C, ClOk T p.2) ∧ st'.i < T.length ∧ st.i + C.length ≤ st'.i ∧ st'.places.length + st.i ≤ st.places.length + st'.i ∧ ∀ p ∈ Q, 0 ≤ p.2.2.2 := by
  intro f
  induction f with
  | zero => intro st cs st' cs' h; simp [pTextG] at h
  | succ f ih =>
    intro st cs st' cs' h hi
    rw [pTextG] at h
    split at h
    · simp only [Except.ok.injEq, Prod.mk.injEq] at h
      obtain ⟨rfl, rfl⟩ := h
      exact ⟨[], [], by simp, by simp, rfl, fun p hp => by simp at hp, hi, by simp, by omega, fun p hp => by simp at hp⟩
    · split at h
      · simp at h
      · rename_i s1 c hq
        obtain ⟨o1, o2, o3, o4, o5, o6, o7⟩ := pClauseG_ok ht hx hq hi
        obtain ⟨Q, p1, p2, p3, p4⟩ := pClauseG_put hN hq
        obtain ⟨Q2, C, r1, r2, r3, r4, r5, r6, r7, r8⟩ := ih _ _ _ _ h o3
        refine ⟨Q ++ Q2, ((tkA T st.i).pos, c) :: C, ?_, ?_, ?_, ?_, r5, by simp; omega, by omega, fun p hp => (List.mem_append.1 hp).elim (p4 p) (r8 p)⟩
        · rw [r1, p1, List.append_assoc]
        · rw [r2, List.append_assoc]; rfl
        · rw [List.map_append, p2, r3, List.flatMap_cons]
        · intro p hp
          rcases List.mem_cons.1 hp with rfl | hp
          · exact ⟨o1, o4, o5, fun x hx => (p3 x hx).mono (by omega)⟩
          · exact r4 p hp
/-- Names are not empty. -/
theorem size_ne {x : ByteArray} (h : 0 < x.size) : x.toList.isEmpty = false := by
  cases he : x.toList.isEmpty with
  | false => rfl
  | true =>
    rw [List.isEmpty_iff] at he
    have : x = ⟨#[]⟩ := toList_inj.1 (by rw [he]; simp)
    subst this
    rw [size_e] at h
    omega
theorem isNameL_ne {x : ByteArray} (h : isNameL x = true) : 0 < x.size := by
  rcases Nat.eq_zero_or_pos x.size with hx | hx
  · unfold isNameL at h
    rw [nameGo_end _ _ _ _ (by omega)] at h
    simp at h
  · exact hx
theorem quoGo_ne (s : ByteArray) : ∀ f name p n e, quoGo s f name p = some (n, e) → 0 < n.size := by
  intro f
  induction f with
  | zero => intro name p n e h; simp [quoGo] at h
  | succ f ih =>
    intro name p n e h
    rw [quoGo] at h
    split at h
    · split at h
      · split at h
        · rename_i hn
          simp only [Option.some.injEq, Prod.mk.injEq] at h
          rw [← h.1]
          exact isNameL_ne hn
        · simp at h
      · split at h
        · split at h
          · exact ih _ _ _ _ h
          · simp at h
        · split at h
          · simp at h
          · exact ih _ _ _ _ h
    · simp at h
theorem tokAt_ne {s : ByteArray} {k e : Nat} {t : Tk} (hk : k < s.size) (h : tokAt s k = .tok t e) (h110 : t.kind = 110) : 0 < t.txt.size := by
  unfold tokAt at h
  split at h
  · rename_i hl
    split at h
    · cases h
    · simp only [Nx.tok.injEq] at h
      rw [← h.1]
      simp only
      have hin := tok_word hl
      have hr := runP_on hk hin
      have hb := runGo_bounds s (s.size - (k + 1)) (k + 1)
      have hb2 : k + 1 ≤ runP s (k + 1) ∧ (k + 1 ≤ s.size → runP s (k + 1) ≤ s.size) := hb
      rw [hr, ByteArray.size_extract]
      omega
  · split at h
    · split at h
      · rename_i n e' hq
        simp only [Nx.tok.injEq] at h
        rw [← h.1]
        exact quoGo_ne s _ _ _ _ _ hq
      · cases h
    · split at h
      · split at h
        · simp only [Nx.tok.injEq] at h
          rw [← h.1] at h110
          simp at h110
        · cases h
      · split at h
        · rename_i hm
          simp only [Nx.tok.injEq] at h
          rw [← h.1] at h110
          simp only at h110
          rw [h110] at hm
          simp [markN] at hm
        · cases h
theorem toksGo_ne (s : ByteArray) : ∀ f k, ∀ t ∈ (toksGo s f k).1, t.kind = 110 → 0 < t.txt.size := by
  intro f
  induction f with
  | zero => intro k; simp [toksGo]
  | succ f ih =>
    intro k
    rw [toksGo]
    split
    · rename_i hk
      split
      · exact ih _
      · split
        · exact ih _
        · split
          · rename_i t e ht
            intro u hu
            rcases List.mem_cons.1 hu with rfl | hu
            · exact tokAt_ne hk ht
            · exact ih _ u hu
          · simp
    · intro t ht h110
      simp at ht
      rw [ht] at h110
      simp at h110
theorem toksAt_ne (s : ByteArray) (q i : Nat) (h : (tkA (toksAt s q) i).kind = 110) : (tkA (toksAt s q) i).txt.toList.isEmpty = false := by
  refine size_ne ?_
  have key : ∀ t ∈ toksAt s q, t.kind = 110 → 0 < t.txt.size := by
    intro t ht
    unfold toksAt tokT at ht
    rcases List.mem_append.1 ht with ht | ht
    · exact toksGo_ne s _ _ t ht
    · generalize (toksGo s (s.size + 1 - q) q).2 = b at ht
      cases b with
      | none => simp at ht
      | some p =>
        simp at ht
        rw [ht]
        intro h
        simp at h
  unfold tkA at h ⊢
  by_cases hl : i < (toksAt s q).length
  · rw [List.getD_eq_getElem?_getD, List.getElem?_eq_getElem hl, Option.getD_some] at h ⊢
    exact key _ (List.getElem_mem _) h
  · rw [List.getD_eq_getElem?_getD, List.getElem?_eq_none (by omega)] at h
    exact absurd h (by decide)

end Go.Proofs.Ytcpdadppblbndaa

namespace Go.Proofs.Ytcpdadppblbndaa
open Go.RowKit Go.WideMaps
set_option maxRecDepth 100000

theorem own_capAt {w : World} {B : Nat} {e : TypeId} {size g n m cap : Nat} {xs : List Value} (h : w.ownsRow B e size (.slice (some ⟨g, 0, none⟩) n cap) m xs) : n = m ∧ n ≤ cap := by
  obtain ⟨_, ⟨e, _⟩ | ⟨g', cap', cur, e, _, _, hc, _⟩⟩ := h
  · cases e
  · cases e
    exact ⟨rfl, hc⟩
/-- The box of a new parser. -/
theorem new_box {w w1 : World} {s : ByteArray} {g cap : Nat} (hs : 0 < (glyL s 0).length) (hr : w1.ownsRow w.heap.size 106 2 (.slice (some ⟨g, 0, none⟩) (glyL s 0).length cap) (glyL s 0).length (glyCells (glyL s 0))) (hb : Below w.heap.size w w1) :
    ∃ m c, ScIn w.heap.size (w1.alloc (.cells #[.slice (some ⟨g, 0, none⟩) (glyL s 0).length cap, .int .i32 0, .int .i64 0, .string ⟨#[]⟩, .slice none 0 0, .slice none 0 0, .map none] 78)) w1.heap.size s 0 g 0 m c 0 0 ⟨#[]⟩ (.slice none 0 0) (.slice none 0 0) (.map none) := by
  obtain ⟨_, hc⟩ := own_capAt hr
  have e1 : (glyL s 0).length - 1 + 1 = (glyL s 0).length := by omega
  have e2 : cap - 1 + 1 = cap := by omega
  have hz := hb.size
  refine ⟨(glyL s 0).length - 1, cap - 1, ⟨?_, hz, ?_, by omega, rfl, Nat.zero_le _⟩⟩
  · rw [e1, e2]
    unfold ParBox
    show (w1.heap.push _)[w1.heap.size]? = _
    simp
  · rw [Nat.zero_add, Nat.zero_add, e1, e2]
    exact own_below hr ((Below.refl w1.heap.size w1).alloc (Nat.le_refl _) _) (Nat.le_refl _)

set_option maxHeartbeats 4000000 in
theorem newParser_any (s : ByteArray) (w : World) (hs : s.size ≤ 3000) :
    Calls Try.prog 22 #[.string s] w fun e w' => ∃ pb g, e = .returned (.pointer (some ⟨pb, 0, none⟩)) ∧ Below w.heap.size w w' ∧ TxIn w.heap.size w' pb s (toksAt s 0) ⟨0, [], []⟩ g (.slice none 0 0) (.slice none 0 0) [] := by
  have CG := hide (glyphs_any s w hs)
  have CN := hide (fun (W : World) (pb g m c : Nat) (h : ScIn w.heap.size W pb s 0 g 0 m c 0 0 ⟨#[]⟩ (.slice none 0 0) (.slice none 0 0) (.map none)) => (sNext_any (s.size + 1) h hs (by omega)).mono fun e w1 hr => next_put (T := toksAt s 0) (i := 0) (Nat.zero_le _) (by omega) rfl hr)
  have hgl : 0 < (glyL s 0).length := (glyL_len s s.size 0 (by omega)).1
  generalize tkA (toksAt s 0) 0 = t at CN
  obtain ⟨tk, tx, tp⟩ := t
  simp only at CN
  go_enter Try.func22, Try.ntmps22
  go_wp2_with (first
    | (go_at_call 35; refine (unhide CG).mono ?_; rintro e w1 ⟨g, cap, rfl, hr1, hb1⟩; obtain ⟨m, c, hsc⟩ := new_box hgl hr1 hb1; have HB1 := hide hb1; have HSC := hide hsc; clear hr1 hb1 hsc)
    | (go_at_call 36; refine (CN.out _ _ _ _ _ HSC.out).mono ?_; rintro e w2 ⟨rfl, hg2, ⟨left, hb2⟩, hP2⟩; have e1 := hb2.c1; have e2 := hb2.c2; have e3 := hb2.c3; have ef := hb2.soft; have HG2 := hide hg2; have HP2 := hide hP2; clear hg2 hP2 hb2)
    | go_in)
  go_ret
  refine ⟨_, g, rfl, ?_, ⟨_, HP2.out⟩, World.ownsRow_nil _ _ _ _, World.ownsRow_nil _ _ _ _, fun p hp => by simp at hp⟩
  have hz := HB1.out.size
  have hA := HB1.out.alloc hz (.cells #[.slice (some ⟨g, 0, none⟩) (glyL s 0).length cap, .int .i32 0, .int .i64 0, .string ⟨#[]⟩, .slice none 0 0, .slice none 0 0, .map none] 78)
  exact hA.grown (grown_set (grown_set (grown_set HG2.out _) _) _) (by simp; omega) (by simpa using hz)

end Go.Proofs.Ytcpdadppblbndaa
