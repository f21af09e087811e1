/- The document's Read. -/
import Derived.Test.YtcpdadppblbndaaSRd0M
import Derived.Test.YtcpdadppblbndaaSNam1
import Derived.Test.YtcpdadppblbndaaSTok
import Derived.Test.YtcpdadppblbndaaRdMM
namespace Go.Proofs.Ytcpdadppblbndaa
open Go.RowKit
set_option maxRecDepth 100000

/-- What Read answers. -/
def RdR (s : ByteArray) (w : World) (e : Ending) (w' : World) : Prop :=
  ∃ v CV at' er, e = .returned (.tuple #[v, .int .i64 at', .int .i64 er]) ∧ RdSpec s (CV.map fun p => p.1.map Prod.fst) at' er ∧ RdMem w.heap.size w' v CV ∧ Below w.heap.size w w'
theorem own_placesR {w : World} {B : Nat} {v : Value} {l : List Pl} (h : w.ownsRow B 90 4 v l.length (placeCells l)) (hf : l.length ≤ 1000000) : ∃ a cap, v = .slice a l.length cap ∧ PlacesIn w a l := by
  have key : ∀ (l : List Pl) k (h : k < l.length), (placeCells l)[k * 4]? = some (.string l[k].1) ∧ (placeCells l)[k * 4 + 1]? = some (.bool l[k].2.1) ∧ (placeCells l)[k * 4 + 2]? = some (.int .i64 l[k].2.2.1) ∧ (placeCells l)[k * 4 + 3]? = some (.int .i64 l[k].2.2.2) := by
    intro l
    induction l with
    | nil => intro k h; simp at h
    | cons x r ih =>
      intro k h
      cases k with
      | zero => exact ⟨rfl, rfl, rfl, rfl⟩
      | succ k =>
        obtain ⟨h1, h2, h3, h4⟩ := ih k (by simpa using h)
        rw [placeCells_cons, show (k + 1) * 4 = k * 4 + 1 + 1 + 1 + 1 by omega]
        refine ⟨by simpa using h1, ?_, ?_, ?_⟩
        · rw [show k * 4 + 1 + 1 + 1 + 1 + 1 = k * 4 + 1 + 1 + 1 + 1 + 1 from rfl]; simpa using h2
        · rw [show k * 4 + 1 + 1 + 1 + 1 + 2 = k * 4 + 2 + 1 + 1 + 1 + 1 by omega]; simpa using h3
        · rw [show k * 4 + 1 + 1 + 1 + 1 + 3 = k * 4 + 3 + 1 + 1 + 1 + 1 by omega]; simpa using h4
  obtain ⟨h1, ⟨rfl, h2⟩ | ⟨g, cap, cur, rfl, hb, hh, hc, hm, hz, ht⟩⟩ := h
  · exact ⟨none, 0, by rw [h2], ⟨hf, fun k hk => by omega⟩⟩
  · have ho : w.ownsRow B 90 4 (.slice (some ⟨g, 0, none⟩) l.length cap) l.length (placeCells l) := ⟨h1, Or.inr ⟨g, cap, cur, rfl, hb, hh, hc, hm, hz, ht⟩⟩
    refine ⟨_, _, rfl, ⟨hf, fun k hk => ⟨g, 0, rfl, ?_, ?_, ?_, ?_⟩⟩⟩
    · rw [Nat.zero_add, ho.cellAt _ (by omega), (key l k hk).1]
    · rw [Nat.zero_add, ho.cellAt _ (by omega), (key l k hk).2.1]
    · rw [Nat.zero_add, ho.cellAt _ (by omega), (key l k hk).2.2.1]
    · rw [Nat.zero_add, ho.cellAt _ (by omega), (key l k hk).2.2.2]
/-- What is read so far. -/
structure TxOk (B pa : Nat) (L T : List Tk) (vL : Value) (k : Nat) (wr : World) (st : PSt) (cs : List (Nat × List Lt)) (CV : List (List (Lt × Value) × Value)) (vP vC vB vV : Value) : Prop where
  pin : PIn B wr pa L st (-1) vL vP vC vB vV
  rest : DRest B wr vC vB CV (cs.map Prod.fst)
  same : CV.map (fun p => p.1.map Prod.fst) = cs.map (fun p => ordL p.2)
  lt : st.i < T.length
  pl : st.places.length ≤ st.i
  few : cs.length ≤ st.i
  small : ∀ p ∈ cs, (∀ x ∈ p.2, ShortN x.2) ∧ countL p.2 ≤ T.length ∧ p.2.length ≤ T.length
  fuel : T.length < st.i + k
  eq : pTextG T (T.length + 1) ⟨0, [], []⟩ [] = pTextG T k st cs
def TxRel (B pa : Nat) (w : World) (L T : List Tk) (vL : Value) (k : Nat) (wr : World) : Prop :=
  Below B w wr ∧ ((∃ st cs CV vP vC vB vV, TxOk B pa L T vL k wr st cs CV vP vC vB vV) ∨ ∃ (p : Nat) (i : Nat) (vP vC vB vV : Value), PBox wr pa vL i (p : Int) vP vC vB vV ∧ pTextG T (T.length + 1) ⟨0, [], []⟩ [] = .error p)
theorem TxOk.cvlen {B pa : Nat} {L T : List Tk} {vL : Value} {k : Nat} {wr : World} {st : PSt} {cs : List (Nat × List Lt)} {CV : List (List (Lt × Value) × Value)} {vP vC vB vV : Value} (h : TxOk B pa L T vL k wr st cs CV vP vC vB vV) : CV.length = cs.length := by
  have := congrArg List.length h.same
  simpa using this
/-- A clause is read. -/
theorem TxOk.next {B pa : Nat} {w : World} {L T : List Tk} {brk : Int} (ht : TL L T brk) (hx : TLx L T) {vL : Value} {k : Nat} {wr w' : World} {st : PSt} {cs : List (Nat × List Lt)} {CV : List (List (Lt × Value) × Value)} {vP vC vB vV : Value} {e : Ending} (hB : Below B w wr) (h : TxOk B pa L T vL (k + 1) wr st cs CV vP vC vB vV) (h101 : (tkA T st.i).kind ≠ 101) (hr : ClauseR B pa wr L T st vL CV (cs.map Prod.fst) e w') : TxRel B pa w L T vL k w' := by
  obtain ⟨_, hb, _, hr⟩ := hr
  refine ⟨hB.trans hb, ?_⟩
  cases hq : pClauseG T st with
  | error p =>
    rw [hq] at hr
    obtain ⟨i, vP', vC', vB', vV', hbx⟩ := hr
    refine Or.inr ⟨p, i, vP', vC', vB', vV', hbx, ?_⟩
    rw [h.eq, pTextG, if_neg h101, hq]
  | ok r =>
    obtain ⟨st', c⟩ := r
    rw [hq] at hr
    obtain ⟨vP', vC', vB', vV', Q, v, hP, hD, hQ⟩ := hr
    obtain ⟨c1, c2, c3, c4, c5, c6, c7⟩ := pClauseG_ok ht hx hq h.lt
    have h1 := h.pl
    have h2 := h.few
    have h3 := h.fuel
    refine Or.inl ⟨st', cs ++ [((tkA T st.i).pos, c)], CV ++ [(Q, v)], vP', vC', vB', vV', hP, ?_, ?_, c3, by omega, by simp; omega, ?_, by omega, ?_⟩
    · simpa using hD
    · rw [List.map_append, List.map_append, h.same]
      simp [hQ]
    · intro p hp
      rcases List.mem_append.1 hp with hp | hp
      · exact h.small p hp
      · simp at hp; subst hp; exact ⟨c1, c4, c5⟩
    · rw [h.eq, pTextG, if_neg h101, hq]
theorem RdMem.of {B pa : Nat} {L T : List Tk} {vL : Value} {k : Nat} {wr : World} {st : PSt} {cs : List (Nat × List Lt)} {CV : List (List (Lt × Value) × Value)} {vP vC vB vV : Value} (hT : T.length ≤ 1000000) (h : TxOk B pa L T vL k wr st cs CV vP vC vB vV) : RdMem B wr vC CV := by
  refine ⟨h.rest.cl, fun p hp => ?_⟩
  have hm : p.1.map Prod.fst ∈ CV.map (fun p => p.1.map Prod.fst) := List.mem_map.2 ⟨p, hp, rfl⟩
  rw [h.same] at hm
  obtain ⟨q, hq, he⟩ := List.mem_map.1 hm
  obtain ⟨s1, s2, s3⟩ := h.small q hq
  obtain ⟨o1, o2, o3⟩ := ordL_small q.2 s1
  refine ⟨h.rest.each p hp, fun r hr => ?_, by rw [← he]; omega, ?_⟩
  · exact o1 r.1 (by rw [he]; exact List.mem_map.2 ⟨r, hr, rfl⟩)
  · have := congrArg List.length he
    simp at this
    omega

theorem TxOk.below {B pa : Nat} {L T : List Tk} {vL : Value} {k : Nat} {wr w' : World} {st : PSt} {cs : List (Nat × List Lt)} {CV : List (List (Lt × Value) × Value)} {vP vC vB vV : Value} (h : TxOk B pa L T vL k wr st cs CV vP vC vB vV) (hb : Below wr.heap.size wr w') : TxOk B pa L T vL k w' st cs CV vP vC vB vV :=
  ⟨h.pin.below hb, h.rest.below hb, h.same, h.lt, h.pl, h.few, h.small, h.fuel, h.eq⟩
/-- The clause at a place, and where it begins. -/
theorem TxOk.at' {B pa : Nat} {L T : List Tk} {vL : Value} {k : Nat} {wr : World} {st : PSt} {cs : List (Nat × List Lt)} {CV : List (List (Lt × Value) × Value)} {vP vV : Value} {ca ba : Option Addr} {cc bc : Nat} (hT : T.length ≤ 1000000) (h : TxOk B pa L T vL k wr st cs CV vP (.slice ca CV.length cc) (.slice ba cs.length bc) vV) (j : Nat) (hj : j < cs.length) :
    ∃ g aa cap gb, ca = some ⟨g, 0, none⟩ ∧ ba = some ⟨gb, 0, none⟩ ∧ wr.cell? ⟨g, j, none⟩ = some (.slice aa (ordL cs[j].2).length cap) ∧ LitsIn wr aa (ordL cs[j].2) ∧ wr.cell? ⟨gb, j, none⟩ = some (.int .i64 cs[j].1) := by
  have hlen := h.cvlen
  have hj' : j < CV.length := by omega
  have hsame : CV[j].1.map Prod.fst = ordL cs[j].2 := by
    have := congrArg (fun l => l[j]?) h.same
    simp only [List.getElem?_map, List.getElem?_eq_getElem hj', List.getElem?_eq_getElem hj, Option.map_some, Option.some.injEq] at this
    exact this
  obtain ⟨g, c, e1⟩ := own_at h.rest.cl (by omega)
  obtain ⟨gb, c2, e2⟩ := own_at h.rest.begins (by simp; omega)
  simp only [Value.slice.injEq] at e1 e2
  obtain ⟨rfl, _, rfl⟩ := e1
  obtain ⟨rfl, _, rfl⟩ := e2
  obtain ⟨hm1, hm2⟩ := RdMem.of hT h
  obtain ⟨hcl, hsh, hct, hln⟩ := hm2 CV[j] (List.getElem_mem _)
  obtain ⟨aa, cap, hv, hlit⟩ := lits_in hcl.1 hcl.2 hsh hct (by omega)
  have hb := h.rest.begins
  rw [List.length_map] at hb
  refine ⟨g, aa, cap, gb, rfl, rfl, ?_, by rw [← hsame]; exact hlit, ?_⟩
  · rw [h.rest.cl.cellAt _ (by omega), List.getElem?_map, List.getElem?_eq_getElem hj', Option.map_some, hv, ← hsame, List.length_map]
  · rw [hb.cellAt _ (by omega)]
    simp [hj]

set_option maxHeartbeats 3000000 in
theorem rRead_any (s : ByteArray) (w : World) (hs : s.size ≤ 140737488355328) : Calls Try.prog 7 #[.string s] w fun e w' => RdR s w e w' := by
  by_cases h3 : 3000 < s.size
  · have hi : (3000 : Int) < (s.size : Int) := by omega
    go_enter Try.func7, Try.ntmps7
    go_wp2
    go_returns
    exact ⟨_, [], 0, 1, rfl, Or.inl ⟨h3, rfl, rfl, rfl⟩, RdMem.nil _ _, Below.refl _ _⟩
  · have hi : ¬ (3000 : Int) < (s.size : Int) := by omega
    have ht := tl_toks s (by omega)
    have hx := tlx_toks s (by omega)
    have CT := hide (rtokens_any s w (by omega))
    have htl : (tokT (toksGo s (s.size + 1) 0)).length ≤ 1000000 := by
      have := toksGo_length s (s.size + 1) 0
      unfold tokT
      split <;> simp <;> omega
    have HALL : Hid (∀ r, pTextG (tokT (toksGo s (s.size + 1) 0)) ((tokT (toksGo s (s.size + 1) 0)).length + 1) ⟨0, [], []⟩ [] = r → pAll s = r) := hide fun r h => h
    have hT0 : 0 < (tokT (toksGo s (s.size + 1) 0)).length := by
      obtain ⟨_, k2, _, _⟩ := toksGo_kinds s (s.size + 1) 0
      unfold tokT
      cases hb : (toksGo s (s.size + 1) 0).2 with
      | none => obtain ⟨l, t, hl, _⟩ := k2 hb; rw [hl]; simp
      | some p => simp
    generalize toksGo s (s.size + 1) 0 = r at *
    obtain ⟨L, ob⟩ := r
    simp only at ht hx
    unfold TokR at CT
    simp only at CT
    generalize tokT (L, ob) = T at *
    generalize optI ob = brk at *
    have htk := tok_kind
    go_enter Try.func7, Try.ntmps7
    go_wp2_with (first
      | (go_at_call 14; refine (unhide CT).mono ?_; rintro e w1 ⟨vL, rfl, hL, hk⟩; obtain ⟨la, lc, rfl⟩ := own_shape hL; have HL := hide hL; have HB1 := hide (hk.below (Nat.le_refl _)); clear hL hk)
      | go_in)
    have hbx : ∀ X : Obj, (w1.alloc X).heap[w1.heap.size]? = some X := fun X => by show (w1.heap.push _)[w1.heap.size]? = _; simp
    have hw1 := HB1.out.size
    have HR0 : Hid (TxRel w.heap.size w1.heap.size w L T (.slice la L.length lc) (T.length + 1) (w1.alloc (.cells #[.slice la L.length lc, .int .i64 0, .int .i64 (-1), .slice none 0 0, .slice none 0 0, .slice none 0 0, .slice none 0 0] 56))) := hide ⟨HB1.out.alloc hw1 _, Or.inl ⟨⟨0, [], []⟩, [], [], .slice none 0 0, .slice none 0 0, .slice none 0 0, .slice none 0 0,
      ⟨⟨hw1, hbx _, HL.out.alloc _, World.ownsRow_nil _ _ _ _, World.ownsRow_nil _ _ _ _⟩, ⟨World.ownsRow_nil _ _ _ _, fun p hp => by simp at hp, World.ownsRow_nil _ _ _ _⟩, rfl, hT0, Nat.le_refl _, Nat.le_refl _, fun p hp => by simp at hp, by simp, rfl⟩⟩⟩
    clear hbx CT
    generalize w1.heap.size = pa at *
    go_loopg [] (T.length + 1) (fun k wr => TxRel w.heap.size pa w L T (.slice la L.length lc) k wr)
    case atStart => exact HR0.out
    case round =>
      clear HR0
      obtain ⟨hb, ⟨st, cs, CV, vP, vC, vB, vV, hO⟩ | ⟨p, i, vP, vC, vB, vV, hbx, he⟩⟩ := hrel
      · obtain ⟨k', rfl⟩ : ∃ k', gk = k' + 1 := ⟨gk - 1, by have := hO.fuel; have := hO.lt; omega⟩
        have CH := hide (rhere_any w.heap.size pa st.i (-1) _ vP vC vB vV L wr hO.pin.box hO.pin.toks)
        unfold tkV at CH
        obtain ⟨kk, hkk⟩ : ∃ kk, (tkA L st.i).kind = kk := ⟨_, rfl⟩
        rw [hkk] at CH
        rw [ht.kind] at hkk
        have d2 := hO.pin.box.c2
        have HO := hide hO
        have HB := hide hb
        by_cases h101 : kk = 101
        · subst h101
          have HOK : Hid (pAll s = .ok (st, cs)) := hide (by rw [HALL.out _ hO.eq, pTextG, if_pos hkk])
          have HLEN := hide hO.cvlen
          have hcs := hO.few
          have hlt := hO.lt
          obtain ⟨pva, pvc, rfl, hpl⟩ := own_placesR hO.pin.places (by have := hO.pl; omega)
          obtain ⟨ca, cc, rfl⟩ := own_shape hO.rest.cl
          obtain ⟨ba, bc, hvb⟩ := own_shape hO.rest.begins
          rw [List.length_map] at hvb
          subst hvb
          have HPL := hide hpl
          clear hO hb hpl hkk
          go_wp2_with (first
            | (go_at_call 15; refine (unhide CH).mono ?_; rintro e w2 ⟨rfl, hb2⟩; have HO2 := hide (HO.out.below hb2); have HB2 := hide (HB.out.trans (hb2.mono HB.out.size)); have e2 := HO2.out.pin.box.c2; have e3 := HO2.out.pin.box.c3; have CN := hide (named_any pva pvc st.places w2 (HPL.out.below hb2 (Nat.le_refl _))); clear hb2)
            | (go_at_call 18; refine (unhide CN).mono ?_; rintro e w3 ⟨r, rfl, hr, hd⟩; have HR := hide hr; have HO3 := hide (HO2.out.below (below_drawn hd)); have HB3 := hide (HB2.out.trans ((below_drawn hd).mono HB2.out.size)); have e4 := HO3.out.pin.box.c4; have e5 := HO3.out.pin.box.c5; clear hr hd)
            | go_in)
          · rename_i hge
            go_returns
            exact ⟨_, [], r, 3, rfl, Or.inr ⟨by omega, by rw [HOK.out]; exact ⟨r, HR.out, Or.inl ⟨by omega, rfl, rfl, rfl⟩⟩⟩, RdMem.nil _ _, HB3.out⟩
          · rename_i hlr
            have HNR : Hid (∀ out at' er, ManyR cs out at' er → RdSpec s out at' er) := hide fun out at' er h => Or.inr ⟨by omega, by rw [HOK.out]; exact ⟨r, HR.out, Or.inr ⟨by omega, h⟩⟩⟩
            go_loopw [9] (fun i wx => ∃ j : Nat, j ≤ cs.length ∧ i = .int .i64 j ∧ (∀ q hq, q < j → ¬ badCl cs q hq) ∧ wx = w3) (fun i _ => cs.length - (intOf i).toNat)
            case atStart => exact ⟨0, Nat.zero_le _, rfl, fun q _ hq => by omega, rfl⟩
            case round =>
              obtain ⟨j, hj, rfl, hno, rfl⟩ := hrel
              have HNO := hide hno
              clear hno
              by_cases hjc : j < cs.length
              · have hji : (j : Int) < (CV.length : Int) := by have := HLEN.out; omega
                have hji2 : (j : Int) < (cs.length : Int) := by omega
                have hj0 : (0 : Int) ≤ (j : Int) := by omega
                obtain ⟨g, aa, cap, gb, rfl, rfl, c1, hli, c2⟩ := HO3.out.at' htl j hjc
                have CF := hide (rFits_any aa cap _ _ hli)
                obtain ⟨fb, hfb⟩ : ∃ fb, fitsL (ordL cs[j].2) = fb := ⟨_, rfl⟩
                rw [hfb] at CF
                clear hli
                by_cases hbad : badCl cs j hjc
                · have HMR := hide (HNR.out [] (cs[j].1 : Nat) 4 (Or.inl ⟨j, hjc, hbad, HNO.out, rfl, rfl, rfl⟩))
                  have hb2 : 40 ≤ j ∨ fb = false := by unfold badCl at hbad; rw [hfb] at hbad; exact hbad
                  clear hbad
                  by_cases h40 : 40 ≤ j
                  · have h40i : (40 : Int) ≤ (j : Int) := by omega
                    go_wp2_with (first
                      | (go_at_call 19; refine (unhide CF).mono ?_; rintro e w5 ⟨rfl, rfl⟩)
                      | go_in)
                    go_quiet (fail)
                    go_wp2
                    go_returns
                    exact ⟨_, [], _, 4, rfl, HMR.out, RdMem.nil _ _, HB3.out.trans ((below_drawn ⟨_, rfl⟩).mono HB3.out.size)⟩
                  · have h40i : ¬ (40 : Int) ≤ (j : Int) := by omega
                    have hfb' : fb = false := by
                      rcases hb2 with h | h
                      · exact absurd h h40
                      · exact h
                    subst hfb'
                    go_wp2_with (first
                      | (go_at_call 19; refine (unhide CF).mono ?_; rintro e w5 ⟨rfl, rfl⟩)
                      | go_in)
                    go_quiet (fail)
                    go_wp2
                    go_returns
                    exact ⟨_, [], _, 4, rfl, HMR.out, RdMem.nil _ _, HB3.out.trans ((below_drawn ⟨_, rfl⟩).mono HB3.out.size)⟩
                · have HBD := hide hbad
                  have hb2 : ¬ 40 ≤ j ∧ fb = true := by unfold badCl at hbad; rw [hfb] at hbad; simpa using hbad
                  obtain ⟨h40, rfl⟩ := hb2
                  have h40i : ¬ (40 : Int) ≤ (j : Int) := by omega
                  clear hbad
                  go_wp2_with (first
                    | (go_at_call 19; refine (unhide CF).mono ?_; rintro e w5 ⟨rfl, rfl⟩)
                    | go_in)
                  go_roundw
                  case rel => exact ⟨j + 1, by omega, by go_num, fun q hq hqj => by
                    by_cases h : q = j
                    · subst h; exact HBD.out
                    · exact HNO.out q hq (by omega), by first | rfl | trivial⟩
                  case measure => simp [intOf]; omega
              · have hje : j = cs.length := by omega
                have hji : ¬ (j : Int) < (CV.length : Int) := by have := HLEN.out; omega
                have HMR := hide (HNR.out (cs.map fun p => ordL p.2) 0 0 (Or.inr ⟨fun q hq => HNO.out q hq (by omega), rfl, rfl, rfl⟩))
                go_wp2
                go_returns
                exact ⟨_, CV, 0, 0, rfl, by rw [HO3.out.same]; exact HMR.out, RdMem.of htl HO3.out, HB3.out⟩
        · have h101i : ((kk : Int) != 101) = true := by simp; omega
          have d0 := hO.pin.box.c0
          have d1 := hO.pin.box.c1
          by_cases hil : st.i < L.length
          · have hii : ¬ (L.length : Int) ≤ (st.i : Int) := by omega
            have CC := hide (fun wx (hbx : Below wr.heap.size wr wx) => rpclause_any w.heap.size pa brk st _ vP vC vB vV L T CV (cs.map Prod.fst) wx ht hx (fun vC vB f => termC_any ht f) (hO.pin.below hbx) (hO.rest.below hbx) (Nat.le_trans hb.size hbx.size) hil hO.pl htl (by have := hO.few; simpa using this) (by have := hO.few; have := hO.cvlen; omega))
            have HK := hide (show (tkA T st.i).kind ≠ 101 by rw [hkk]; exact h101)
            clear hO hb hkk
            go_wp2_with (first
              | (go_at_call 15; refine (unhide CH).mono ?_; rintro e w2 ⟨rfl, hb2⟩; have HO2 := hide (HO.out.below hb2); have HB2 := hide (HB.out.trans (hb2.mono HB.out.size)); have e0 := HO2.out.pin.box.c0; have e1 := HO2.out.pin.box.c1; have HW2 := hide hb2; clear hb2)
              | go_in)
            go_quiet (fail)
            go_wp2_with (first
              | (go_at_call 17; refine (CC.out _ (HW2.out.trans ((below_drawn ⟨_, rfl⟩).mono HW2.out.size))).mono ?_; intro e w3 hcl; have he := hcl.1; subst he; have HT := hide (TxOk.next ht hx (HB2.out.trans ((below_drawn ⟨_, rfl⟩).mono HB2.out.size)) (HO2.out.below (below_drawn ⟨_, rfl⟩)) HK.out hcl); clear hcl)
              | go_in)
            go_roundg k'
            case measure => omega
            case rel => exact HT.out
          · have hii : (L.length : Int) ≤ (st.i : Int) := by omega
            have h63 := hx.rest _ hil
            have hbad := ht.bad _ hO.lt
            have HE : Hid (pTextG T (T.length + 1) ⟨0, [], []⟩ [] = .error (tkA T st.i).pos) := hide (by rw [hO.eq, pTextG, if_neg (by rw [h63]; decide), pClauseG_none h63])
            have CW := hide (fun wx (hbx : Below wr.heap.size wr wx) => rwrong_any w.heap.size pa st.i brk _ vP vC vB vV L wx (hO.pin.below hbx).box (hO.pin.below hbx).toks)
            have hpa := hO.pin.high
            have HBD := hide hbad
            clear hO hb hkk h63 hbad
            go_wp2_with (first
              | (go_at_call 15; refine (unhide CH).mono ?_; rintro e w2 ⟨rfl, hb2⟩; have HO2 := hide (HO.out.below hb2); have HB2 := hide (HB.out.trans (hb2.mono HB.out.size)); have e0 := HO2.out.pin.box.c0; have e1 := HO2.out.pin.box.c1; have HW2 := hide hb2; clear hb2)
              | go_in)
            go_quiet (fail)
            go_wp2_with (first
              | (go_at_call 16; refine (CW.out _ (HW2.out.trans ((below_drawn ⟨_, rfl⟩).mono HW2.out.size))).mono ?_; rintro e w3 ⟨rfl, hb3, hg3⟩; rw [HBD.out] at hb3; have HT : Hid (TxRel w.heap.size pa w L T _ k' w3) := hide ⟨(HB2.out.trans ((below_drawn ⟨_, rfl⟩).mono HB2.out.size)).grown hg3 (Nat.le_trans HB2.out.size (Nat.le_refl _)) (fun k e => by simp at e; omega), Or.inr ⟨_, _, _, _, _, _, hb3, HE.out⟩⟩; clear hb3 hg3)
              | go_in)
            go_roundg k'
            case measure => omega
            case rel => exact HT.out
      · have d2 := hbx.c2
        have hp0 : decide ((p : Int) < 0) = false := by simp
        have hp1 : (0 : Int) ≤ (p : Int) := by omega
        have HR : Hid (RdSpec s [] (p : Int) 2) := hide (Or.inr ⟨by omega, by rw [HALL.out _ he]; exact ⟨rfl, rfl, rfl⟩⟩)
        have HB := hide hb
        clear hb he hbx
        go_wp2
        go_quiet (fail)
        go_wp2
        go_returns
        exact ⟨_, [], p, 2, rfl, HR.out, RdMem.nil _ _, HB.out.trans ((below_drawn ⟨_, rfl⟩).mono HB.out.size)⟩

end Go.Proofs.Ytcpdadppblbndaa
