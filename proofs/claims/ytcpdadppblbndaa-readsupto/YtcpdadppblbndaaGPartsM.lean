/- The program's parser: the parts of a name; and the contract of term at every fuel. The program's parser: the literals of a clause. -/
import Derived.Test.YtcpdadppblbndaaGTerm2
namespace Go.Proofs.Ytcpdadppblbndaa
open Go.RowKit Go.WideMaps
set_option maxRecDepth 100000

/-- What term answers is a pair. -/
theorem TermQ.shape {B B' pb : Nat} {w : World} {s : ByteArray} {T : List Tk} {g : Nat} {vC : Value} {mg : Nat} {r : Except Nat (PSt × List Nd)} {e : Ending} {w' : World} (h : TermQ B B' pb w s T g vC mg r e w') : ∃ a n c b, e = .returned (.tuple #[.slice a n c, .bool b]) := by
  obtain ⟨_, h⟩ := h
  cases r with
  | error p => obtain ⟨a, n, c, i, vP, vM, rfl, _⟩ := h; exact ⟨a, n, c, false, rfl⟩
  | ok y =>
    obtain ⟨s1, l1⟩ := y
    obtain ⟨vl, vP, rfl, _, h4⟩ := h
    obtain ⟨a, c, hs⟩ := own_shape h4
    exact ⟨a, _, c, true, by rw [hs]⟩
theorem setN_at (L : List Nd) (k n : Nat) (h : k < L.length) : ∃ x : ByteArray, (setN L k n)[k]'(by rw [setN_len]; exact h) = (x, (n : Int)) := by
  unfold setN
  exact ⟨L[k].1, by rw [List.getElem_modify_eq]⟩
/-- While the parts are read. -/
structure PLq (B B' pb : Nat) (w : World) (s : ByteArray) (T : List Tk) (g : Nat) (vC : Value) (mg nm : Nat) (r : Except Nat (PSt × List Nd × Nat)) (k : Nat) (vl : Value) (wr : World) (st : PSt) (L : List Nd) (n : Nat) (vP : Value) : Prop where
  q : QIn B wr pb s T ⟨st.i + 1, st.vars, st.places⟩ g vC vP mg
  row : wr.ownsRow B' 46 2 vl L.length (nodeCells (setN L nm n))
  kept : KeptQ B B' mg w wr
  eq : r = pPartsG T k st L n
  fuel : T.length < st.i + k
  nm : nm < L.length
  len : L.length ≤ st.i
  pl : st.places.length ≤ st.i
  vs : st.vars.length ≤ st.i
  few : n ≤ st.i
theorem PLq.step {B B' pb : Nat} {w : World} {s : ByteArray} {T : List Tk} {g : Nat} {vC : Value} {mg nm : Nat} {r : Except Nat (PSt × List Nd × Nat)} {k : Nat} {vl : Value} {wr : World} {st : PSt} {L : List Nd} {n : Nat} {vP : Value} (h : PLq B B' pb w s T g vC mg nm r (k + 1) vl wr st L n vP) {q : Except Nat (PSt × List Nd)} (hq : pTermG T k false ⟨st.i + 1, st.vars, st.places⟩ [] = q) :
    match q with
    | .error p => r = .error p
    | .ok (s1, x) => r = if (tkA T s1.i).kind = 44 then pPartsG T k s1 (L ++ x) (n + 1) else if (tkA T s1.i).kind = 41 then .ok (⟨s1.i + 1, s1.vars, s1.places⟩, L ++ x, n + 1) else .error (tkA T s1.i).pos := by
  have he := h.eq
  rw [pPartsG, (pTermG_pre T k).1 false _ L, hq] at he
  cases q with
  | error p => exact he
  | ok y => exact he
/-- The number of parts, one more. -/
theorem part_more {B B' pb : Nat} {w w1 : World} {s : ByteArray} {T : List Tk} {g : Nat} {vC : Value} {mg nm : Nat} {s1 : PSt} {L x : List Nd} {n : Nat} {vP vl : Value} (hq : QIn B w1 pb s T s1 g vC vP mg) (hr : w1.ownsRow B' 46 2 vl (setN L nm n ++ x).length (nodeCells (setN L nm n ++ x))) (hnm : nm < L.length) (hBB : B ≤ B') (hk : KeptQ B B' mg w w1) :
    ∃ gn c, vl = .slice (some ⟨gn, 0, none⟩) (L ++ x).length c ∧ w1.cell? ⟨gn, nm * 2 + 1, none⟩ = some (.int .i64 n) ∧ w1.frozen? ⟨gn, nm * 2 + 1, none⟩ = false ∧
      QIn B (w1.setCell ⟨gn, nm * 2 + 1, none⟩ (.int .i64 ((n : Int) + 1))) pb s T s1 g vC vP mg ∧ (w1.setCell ⟨gn, nm * 2 + 1, none⟩ (.int .i64 ((n : Int) + 1))).ownsRow B' 46 2 vl (L ++ x).length (nodeCells (setN (L ++ x) nm (n + 1))) ∧ KeptQ B B' mg w (w1.setCell ⟨gn, nm * 2 + 1, none⟩ (.int .i64 ((n : Int) + 1))) := by
  rw [← setN_app L x nm n hnm, setN_len] at hr
  have hnx : nm < (L ++ x).length := by simp; omega
  obtain ⟨gn, c, rfl⟩ := own_at hr (by omega)
  have hg : w1.grownBy (w1.setCell ⟨gn, nm * 2 + 1, none⟩ (.int .i64 ((n : Int) + 1))) (some gn) := grown_setCell _ _ _
  obtain ⟨y, hy⟩ := setN_at (L ++ x) nm n hnx
  refine ⟨gn, c, rfl, ?_, hr.frozenAt _, hq.far hr (by decide) hg, ?_, hk.grownRow hr hBB (Or.inr ⟨rfl, Nat.le_refl _⟩) hg⟩
  · rw [hr.cellAt _ (by omega), (nodeCells_at _ nm (by rw [setN_len]; exact hnx)).2, hy]
  · have := (hr.stored (nm * 2 + 1) (.int .i64 ((n + 1 : Nat) : Int))).1
    rw [nodeCells_setN, setN_twice] at this
    exact this
section
variable {B pb : Nat} {s : ByteArray} {T : List Tk} {g : Nat} {vC : Value} {mg : Nat}
set_option maxHeartbeats 4000000 in
theorem pparts_any (f : Nat) (hT : ∀ i, (tkA T i).kind ∈ kdL) (hs : s.size ≤ 3000) (hTl : T.length ≤ 1000000) (IH : ∀ k, k < f → TermQC B pb s T g vC mg k) : PartsQC B pb s T g vC mg f := by
  intro B' st vP vl l x w h hl hBB hBw hf hl1 hp1 hv1
  have hlt := h.pp.lt
  simp only at hlt
  obtain ⟨la, lc, rfl⟩ := own_shape hl
  have HIH := hide IH
  have HT := hide hT
  have H0 : Hid (PLq B B' pb w s T g vC mg l.length (pPartsG T f st (l ++ [(x, 0)]) 0) f (.slice la (l.length + 1) lc) w st (l ++ [(x, 0)]) 0 vP) := hide ⟨h, by rw [setN_last, List.length_append]; exact hl, KeptQ.refl _ _ _ _, rfl, hf, by simp, by simp; omega, hp1, hv1, Nat.zero_le _⟩
  obtain ⟨R, hR⟩ : ∃ R, pPartsG T f st (l ++ [(x, 0)]) 0 = R := ⟨_, rfl⟩
  rw [hR] at H0
  simp only [hR]
  have hl1' : l.length ≤ 1000000 := by omega
  clear h hl IH hT hR
  generalize l.length = nm at *
  go_enter Try.func82, Try.ntmps82
  go_wp2
  go_loopg [1] f (fun k vl wr => k ≤ f ∧ ∃ st' L n vP', PLq B B' pb w s T g vC mg nm R k vl wr st' L n vP')
  case atStart => exact ⟨Nat.le_refl _, st, _, 0, vP, H0.out⟩
  case round =>
    clear H0
    obtain ⟨hkf, st', L, n, vP', hL⟩ := hrel
    have hlt' := hL.q.pp.lt
    simp only at hlt'
    have hfu := hL.fuel
    have hnm := hL.nm
    have hlen := hL.len
    have hpl := hL.pl
    have hvs := hL.vs
    have hfew := hL.few
    obtain ⟨k', rfl⟩ : ∃ k', gk = k' + 1 := ⟨gk - 1, by omega⟩
    obtain ⟨va, vc, rfl⟩ := own_shape hL.row
    have CT := hide (HIH.out k' (by omega) B' false ⟨st'.i + 1, st'.vars, st'.places⟩ vP' _ (setN L nm n) wr hL.q (by rw [setN_len]; exact hL.row) hBB (Nat.le_trans hBw hL.kept.size) (by simp) (by simp; omega) (by rw [setN_len]; simp; omega) (by simp; omega) (by simp; omega))
    have HL := hide hL
    have hpre := (pTermG_pre T k').1 false ⟨st'.i + 1, st'.vars, st'.places⟩ (setN L nm n)
    rw [hpre] at CT
    clear hpre
    cases hq : pTermG T k' false ⟨st'.i + 1, st'.vars, st'.places⟩ [] with
    | error p =>
      have hst := HL.out.step hq
      rw [hq] at CT
      have HR : Hid (R = .error p) := hide hst
      clear hq hst hL
      go_wp2_with (first
        | (go_at_call 74; refine (unhide CT).mono ?_; rintro e w1 ⟨hk1, a1, n1, c1, i1, vP1, vM1, rfl, hp1, hpos⟩; have HK1 := hide hk1; have HP1 := hide hp1; have HPO := hide hpos; clear hk1 hp1 hpos)
        | go_in)
      go_ret2
      refine ⟨HL.out.kept.trans HK1.out, ?_⟩
      rw [HR.out]
      exact ⟨_, _, _, _, _, _, rfl, HP1.out, HPO.out⟩
    | ok y =>
      obtain ⟨s1, x1⟩ := y
      have hst := HL.out.step hq
      simp only at hst
      have hon := (pTermG_on T k').1 _ _ _ _ _ hq
      simp only [List.length_nil] at hon
      rw [hq] at CT
      obtain ⟨L2, hL2⟩ : ∃ L2, L ++ x1 = L2 := ⟨_, rfl⟩
      have hl2 : L2.length = L.length + x1.length := by rw [← hL2]; simp
      have HPM := hide (fun (w1 : World) (vP1 vl1 : Value) (hq1 : QIn B w1 pb s T s1 g vC vP1 mg) (hr1 : w1.ownsRow B' 46 2 vl1 (setN L nm n ++ x1).length (nodeCells (setN L nm n ++ x1))) (hk1 : KeptQ B B' mg w w1) => part_more hq1 hr1 hnm hBB hk1)
      rw [hL2] at hst HPM
      have HST := hide hst
      have hnmi : (nm : Int) < (L2.length : Int) := by omega
      have hnm0 : (0 : Int) ≤ (nm : Int) := by omega
      have hnn : n ≤ 1000000 := by omega
      have HL2 := hide hl2
      clear hq hst hL hL2 hl2
      have C44 := hide (fun w1 vP1 (hp : PPx B w1 pb s T s1.i g vC vP1 (.map (some mg))) => pTake_any 44 (by decide) (by decide) (by decide) HT.out hs hp)
      rw [show kindP 44 = 44 from rfl] at C44
      have C41 := hide (fun w1 vP1 (hp : PPx B w1 pb s T s1.i g vC vP1 (.map (some mg))) => pTake_any 41 (by decide) (by decide) (by decide) HT.out hs hp)
      rw [show kindP 41 = 41 from rfl] at C41
      by_cases h44 : (tkA T s1.i).kind = 44
      · rw [if_pos h44, decide_eq_true h44] at C44
        have HST' : Hid (R = pPartsG T k' s1 L2 (n + 1)) := hide (by have := HST.out; rw [if_pos h44] at this; exact this)
        clear HST C41
        go_wp2_with (first
          | (go_at_call 54; refine (C44.out _ _ HQ2.out.pp).mono ?_; rintro e w3 ⟨rfl, hg3, hp3⟩; obtain ⟨left2, hb2, hBp2⟩ := HQ2.out.pp.box; have HQ3 := hide (HQ2.out.take hg3 hp3); have HR3 := hide (HR2.out.kept hg3 (hb2.apart HR2.out (by decide))); have HK3 := hide (HK2.out.grownBox hb2 hBp2 hg3); clear hg3 hp3 hb2)
          | (go_at_call 74; refine (unhide CT).mono ?_; rintro e w1 ⟨hk1, vl1, vP1, rfl, hq1, hr1⟩; obtain ⟨gn, cn, rfl, cc, cf, hq2, hr2, hk2⟩ := HPM.out w1 vP1 vl1 hq1 hr1 (HL.out.kept.trans hk1); have HQ2 := hide hq2; have HR2 := hide hr2; have HK2 := hide hk2; clear hk1 hq1 hr1 hq2 hr2 hk2)
          | go_in)
        go_roundg k'
        case measure => omega
        case rel => exact ⟨by omega, s1, L2, n + 1, _, HQ3.out, HR3.out, HK3.out, HST'.out, by omega, by have := HL2.out; omega, by have := HL2.out; omega, by omega, by omega, by omega⟩
      · rw [if_neg h44, decide_eq_false h44] at C44
        by_cases h41 : (tkA T s1.i).kind = 41
        · rw [if_pos h41, decide_eq_true h41] at C41
          have HST' : Hid (R = .ok (⟨s1.i + 1, s1.vars, s1.places⟩, L2, n + 1)) := hide (by have := HST.out; rw [if_neg h44, if_pos h41] at this; exact this)
          clear HST
          go_wp2_with (first
            | (go_at_call 54; refine (C41.out _ _ HQ3.out.pp).mono ?_; rintro e w4 ⟨rfl, hg4, hp4⟩; obtain ⟨left3, hb3, hBp3⟩ := HQ3.out.pp.box; have HQ4 := hide (HQ3.out.take hg4 hp4); have HR4 := hide (HR3.out.kept hg4 (hb3.apart HR3.out (by decide))); have HK4 := hide (HK3.out.grownBox hb3 hBp3 hg4); clear hg4 hp4 hb3)
            | (go_at_call 54; refine (C44.out _ _ HQ2.out.pp).mono ?_; rintro e w3 ⟨rfl, hg3, hp3⟩; obtain ⟨left2, hb2, hBp2⟩ := HQ2.out.pp.box; have HQ3 := hide (HQ2.out.take hg3 hp3); have HR3 := hide (HR2.out.kept hg3 (hb2.apart HR2.out (by decide))); have HK3 := hide (HK2.out.grownBox hb2 hBp2 hg3); clear hg3 hp3 hb2)
            | (go_at_call 74; refine (unhide CT).mono ?_; rintro e w1 ⟨hk1, vl1, vP1, rfl, hq1, hr1⟩; obtain ⟨gn, cn, rfl, cc, cf, hq2, hr2, hk2⟩ := HPM.out w1 vP1 vl1 hq1 hr1 (HL.out.kept.trans hk1); have HQ2 := hide hq2; have HR2 := hide hr2; have HK2 := hide hk2; clear hk1 hq1 hr1 hq2 hr2 hk2)
            | go_in)
          go_ret2
          refine ⟨HK4.out, ?_⟩
          rw [HST'.out]
          exact ⟨_, _, rfl, HQ4.out, by rw [setN_len]; exact HR4.out⟩
        · rw [if_neg h41, decide_eq_false h41] at C41
          have HST' : Hid (R = .error (tkA T s1.i).pos) := hide (by have := HST.out; rw [if_neg h44, if_neg h41] at this; exact this)
          clear HST
          go_wp2_with (first
            | (go_at_call 54; refine (C41.out _ _ HQ3.out.pp).mono ?_; rintro e w4 ⟨rfl, hg4, hp4⟩; obtain ⟨left3, hb3, hBp3⟩ := HQ3.out.pp.box; have HP4 := hide hp4; have HK4 := hide (HK3.out.grownBox hb3 hBp3 hg4); clear hg4 hp4 hb3)
            | (go_at_call 54; refine (C44.out _ _ HQ2.out.pp).mono ?_; rintro e w3 ⟨rfl, hg3, hp3⟩; obtain ⟨left2, hb2, hBp2⟩ := HQ2.out.pp.box; have HQ3 := hide (HQ2.out.take hg3 hp3); have HK3 := hide (HK2.out.grownBox hb2 hBp2 hg3); clear hg3 hp3 hb2)
            | (go_at_call 74; refine (unhide CT).mono ?_; rintro e w1 ⟨hk1, vl1, vP1, rfl, hq1, hr1⟩; obtain ⟨gn, cn, rfl, cc, cf, hq2, hr2, hk2⟩ := HPM.out w1 vP1 vl1 hq1 hr1 (HL.out.kept.trans hk1); have HQ2 := hide hq2; have HR2 := hide hr2; have HK2 := hide hk2; clear hk1 hq1 hr1 hq2 hr2 hk2)
            | go_in)
          go_ret2
          refine ⟨HK4.out, ?_⟩
          rw [HST'.out]
          exact ⟨_, _, _, _, _, _, rfl, HP4.out, rfl⟩
/-- The contract of term at every fuel. -/
theorem termQ_any (hT : ∀ i, (tkA T i).kind ∈ kdL) (hx : ∀ i, (tkA T i).txt.size ≤ 1000000) (hs : s.size ≤ 3000) (hTl : T.length ≤ 1000000) : ∀ f, TermQC B pb s T g vC mg f := by
  intro f
  induction f using Nat.strongRecOn with
  | _ f ih =>
    intro B' atom st vP vl l w h hl hBB hBw hat hf hl1 hp1 hv1
    have hlt := h.pp.lt
    obtain ⟨f', rfl⟩ : ∃ f', f = f' + 1 := ⟨f - 1, by omega⟩
    by_cases hk : (tkA T st.i).kind = 110
    · exact term_name atom f' hT hs hTl (pparts_any f' hT hs hTl fun k hk => ih k (by omega)) h hl hBB hBw hk hf hl1 hp1 hv1
    · by_cases hk2 : (tkA T st.i).kind = 118
      · have ha : atom = false := by
          cases atom
          · rfl
          · exact absurd hk2 (hat rfl)
        exact term_var atom f' hT hx hs hTl h hl hBB hBw hk2 ha hl1 hv1
      · exact term_none atom f' hT hs h hk2 hk
end

set_option maxHeartbeats 2000000 in
theorem atom_any {B pb : Nat} {s : ByteArray} {T : List Tk} {g : Nat} {vC vP : Value} {mg : Nat} {st : PSt} {w : World} (hT : ∀ i, (tkA T i).kind ∈ kdL) (hx : ∀ i, (tkA T i).txt.size ≤ 1000000) (hs : s.size ≤ 3000) (hTl : T.length ≤ 1000000) (h : QIn B w pb s T st g vC vP mg) (hBw : B ≤ w.heap.size) (hp1 : st.places.length ≤ st.i) (hv1 : st.vars.length ≤ st.i) :
    Calls Try.prog 67 #[.pointer (some ⟨pb, 0, none⟩)] w fun e w' => TermQ B w.heap.size pb w s T g vC mg (pTermG T (T.length + 1) true st []) e w' := by
  have hlt := h.pp.lt
  obtain ⟨left, hb, _⟩ := h.pp.box
  have d1 := hb.c1
  by_cases hk : (tkA T st.i).kind = 118
  · have HP : Hid (pTermG T (T.length + 1) true st [] = .error (tkA T st.i).pos) := hide (by rw [pTermG, if_neg (by simp), if_pos (by rw [hk]; decide)])
    rw [hk, show kindP 118 = 65 from rfl] at d1
    have HQ := hide h
    clear h hb
    go_enter Try.func67, Try.ntmps67
    go_wp2
    go_ret2
    refine ⟨KeptQ.refl _ _ _ _, ?_⟩
    rw [HP.out]
    exact ⟨_, _, _, _, _, _, rfl, HQ.out.pp, rfl⟩
  · have hne : (kindP (tkA T st.i).kind == 65) = false := by
      rw [beq_eq_false_iff_ne]
      exact fun e => hk (kindP_inj _ (hT st.i) 118 (by decide) (by rw [e]; rfl))
    have CT := hide (termQ_any (B := B) (pb := pb) (g := g) (vC := vC) (mg := mg) hT hx hs hTl (T.length + 1) w.heap.size true st vP (.slice none 0 0) [] w h (World.ownsRow_nil _ _ _ _) hBw (Nat.le_refl _) (fun _ => hk) (by omega) (Nat.zero_le _) hp1 hv1)
    generalize kindP (tkA T st.i).kind = K at *
    clear h hb hk hT hx
    go_enter Try.func67, Try.ntmps67
    go_wp2_with (first
      | (go_at_call 74; refine (unhide CT).mono ?_; intro e w1 hQ1; obtain ⟨a1, n1, c1, b1, he1⟩ := hQ1.shape; subst he1; have HQ1 := hide hQ1; clear hQ1)
      | go_in)
    go_ret2
    exact HQ1.out

end Go.Proofs.Ytcpdadppblbndaa

namespace Go.Proofs.Ytcpdadppblbndaa
open Go.RowKit Go.WideMaps
set_option maxRecDepth 100000

/-- What literals answers. -/
def LitsQ (B pb : Nat) (w : World) (s : ByteArray) (T : List Tk) (g : Nat) (vC : Value) (mg : Nat) (r : Except Nat (PSt × List Lt)) (e : Ending) (w' : World) : Prop :=
  KeptQ B w.heap.size mg w w' ∧
    match r with
    | .ok (s1, c) => ∃ P vc vP, e = .returned (.tuple #[vc, .bool true]) ∧ QIn B w' pb s T s1 g vC vP mg ∧ w'.ownsRow w.heap.size 49 2 vc P.length (litCells P) ∧ (∀ q ∈ P, w'.ownsRow w.heap.size 46 2 q.2 q.1.2.length (nodeCells q.1.2)) ∧ P.map Prod.fst = c
    | .error p => ∃ a n c i vP vM, e = .returned (.tuple #[.slice a n c, .bool false]) ∧ PPx B w' pb s T i g vC vP vM ∧ (tkA T i).pos = p
/-- While the literals are read. -/
structure LLq (B pb : Nat) (w : World) (s : ByteArray) (T : List Tk) (g : Nat) (vC : Value) (mg : Nat) (r : Except Nat (PSt × List Lt)) (k : Nat) (vc : Value) (wr : World) (st : PSt) (P : List (Lt × Value)) (vP : Value) : Prop where
  q : QIn B wr pb s T st g vC vP mg
  kept : KeptQ B w.heap.size mg w wr
  row : wr.ownsRow w.heap.size 49 2 vc P.length (litCells P)
  atoms : ∀ q ∈ P, wr.ownsRow w.heap.size 46 2 q.2 q.1.2.length (nodeCells q.1.2)
  eq : r = pLitsG T k st (P.map Prod.fst)
  fuel : T.length < st.i + k
  pl : st.places.length ≤ st.i
  vs : st.vars.length ≤ st.i
  few : P.length ≤ st.i
section
variable {B pb : Nat} {w w1 w2 w3 : World} {s : ByteArray} {T : List Tk} {g : Nat} {vC vP vc : Value} {mg : Nat} {st : PSt} {P : List (Lt × Value)}
/-- A token is taken: the literals stay. -/
theorem lits_take {st1 : PSt} (hq : QIn B w1 pb s T st1 g vC vP mg) (hk : KeptQ B w.heap.size mg w w1) (hr : w1.ownsRow w.heap.size 49 2 vc P.length (litCells P)) (ha : ∀ q ∈ P, w1.ownsRow w.heap.size 46 2 q.2 q.1.2.length (nodeCells q.1.2)) {i' : Nat} (hg : w1.grownBy w2 (some pb)) (hp : PPx B w2 pb s T i' g vC vP (.map (some mg))) :
    QIn B w2 pb s T ⟨i', st1.vars, st1.places⟩ g vC vP mg ∧ KeptQ B w.heap.size mg w w2 ∧ w2.ownsRow w.heap.size 49 2 vc P.length (litCells P) ∧ (∀ q ∈ P, w2.ownsRow w.heap.size 46 2 q.2 q.1.2.length (nodeCells q.1.2)) := by
  obtain ⟨left, hb, hBp⟩ := hq.pp.box
  exact ⟨hq.take hg hp, hk.grownBox hb hBp hg, hr.kept hg (hb.apart hr (by decide)), fun q hq' => (ha q hq').kept hg (hb.apart (ha q hq') (by decide))⟩
/-- An atom is read: the literals stay. -/
theorem lits_atom {st1 : PSt} {vl : Value} {l : List Nd} (hq : QIn B w1 pb s T st1 g vC vP mg) (hk : KeptQ B w.heap.size mg w w1) (hr : w1.ownsRow w.heap.size 49 2 vc P.length (litCells P)) (ha : ∀ q ∈ P, w1.ownsRow w.heap.size 46 2 q.2 q.1.2.length (nodeCells q.1.2)) (hk2 : KeptQ B w1.heap.size mg w1 w2) (hl : w2.ownsRow w1.heap.size 46 2 vl l.length (nodeCells l)) :
    KeptQ B w.heap.size mg w w2 ∧ w2.ownsRow w.heap.size 49 2 vc P.length (litCells P) ∧ (∀ q ∈ P, w2.ownsRow w.heap.size 46 2 q.2 q.1.2.length (nodeCells q.1.2)) ∧ w2.ownsRow w.heap.size 46 2 vl l.length (nodeCells l) := by
  obtain ⟨D, hm, _⟩ := hq.map
  exact ⟨hk.trans (hk2.mono hk.size), hk2.own hr (by decide) (by intro e; exact absurd e (by decide)) (row_no_map hr hm), fun q hq' => hk2.own (ha q hq') (by decide) (fun _ => Nat.le_refl _) (row_no_map (ha q hq') hm), own_mono hl hk.size⟩
/-- A literal is put behind. -/
theorem lits_put {st2 : PSt} {vl v3 : Value} {x : Lt} {X : Obj} (hq : QIn B w2 pb s T st2 g vC vP mg) (hk : KeptQ B w.heap.size mg w w2) (hr : w2.ownsRow w.heap.size 49 2 vc P.length (litCells P)) (ha : ∀ q ∈ P, w2.ownsRow w.heap.size 46 2 q.2 q.1.2.length (nodeCells q.1.2)) (hl : w2.ownsRow w.heap.size 46 2 vl x.2.length (nodeCells x.2))
    (ho : w3.ownsRow w.heap.size 49 2 v3 (P.length + 1) (litCells P ++ [.bool x.1, vl])) (hg : (w2.alloc X).grownBy w3 vc.ownBlock) :
    QIn B w3 pb s T st2 g vC vP mg ∧ KeptQ B w.heap.size mg w w3 ∧ w3.ownsRow w.heap.size 49 2 v3 (P ++ [(x, vl)]).length (litCells (P ++ [(x, vl)])) ∧ (∀ q ∈ P ++ [(x, vl)], w3.ownsRow w.heap.size 46 2 q.2 q.1.2.length (nodeCells q.1.2)) := by
  have hA := (Below.refl w2.heap.size w2).alloc (Nat.le_refl _) X
  have hrA := own_below hr hA (Nat.le_refl _)
  have haA := fun q hq' => own_below (ha q hq') hA (Nat.le_refl _)
  have hlA := own_below hl hA (Nat.le_refl _)
  refine ⟨(hq.below hA).far hrA (by decide) hg, ?_, by rw [litCells_snoc, List.length_append]; exact ho, fun q hq' => ?_⟩
  · have hkA := hk.trans (KeptQ.of_below (B := B) (B' := w.heap.size) (mg := mg) hA)
    exact ⟨hg.os.trans hkA.os, hg.tape.trans hkA.tape, hg.output.trans hkA.output, Nat.le_trans hkA.size hg.size, fun k hk' hc => by
      rw [hg.block k (Nat.lt_of_lt_of_le hk' hkA.size) (fun e => by have := (own_lt hrA k e.symm).1; omega), hkA.block k hk' hc]⟩
  · rcases List.mem_append.1 hq' with hq' | hq'
    · exact (haA q hq').kept hg (own_apart (haA q hq') hrA (by decide))
    · simp at hq'
      subst hq'
      exact hlA.kept hg (own_apart hlA hrA (by decide))

set_option maxHeartbeats 4000000 in
theorem lits_any (hT : ∀ i, (tkA T i).kind ∈ kdL) (hx : ∀ i, (tkA T i).txt.size ≤ 1000000) (hs : s.size ≤ 3000) (hTl : T.length ≤ 1000000) (h : QIn B w pb s T st g vC vP mg) (hBw : B ≤ w.heap.size) (hp1 : st.places.length ≤ st.i) (hv1 : st.vars.length ≤ st.i) :
    Calls Try.prog 55 #[.pointer (some ⟨pb, 0, none⟩)] w fun e w' => LitsQ B pb w s T g vC mg (pLitsG T (T.length + 1) st []) e w' := by
  obtain ⟨iL, hI, hI0, hI1, hI2⟩ := info_parts infoLit
  have H0 : Hid (LLq B pb w s T g vC mg (pLitsG T (T.length + 1) st []) (T.length + 1) (.slice none 0 0) w st [] vP) := hide ⟨h, KeptQ.refl _ _ _ _, World.ownsRow_nil _ _ _ _, fun q hq => by simp at hq, rfl, by omega, hp1, hv1, by simp⟩
  obtain ⟨R, hR⟩ : ∃ R, pLitsG T (T.length + 1) st [] = R := ⟨_, rfl⟩
  rw [hR] at H0
  simp only [hR]
  have HT := hide hT
  have HX := hide hx
  clear h hR hT hx hp1 hv1
  go_enter Try.func55, Try.ntmps55
  go_wp2
  go_loopg [4] (T.length + 1) (fun k vc wr => ∃ st' P vP', LLq B pb w s T g vC mg R k vc wr st' P vP')
  case atStart => exact ⟨st, [], vP, H0.out⟩
  case round =>
    clear H0
    obtain ⟨st', P, vP', hL⟩ := hrel
    have hlt' := hL.q.pp.lt
    have hfu := hL.fuel
    have hpl := hL.pl
    have hvs := hL.vs
    have hfew := hL.few
    obtain ⟨k', rfl⟩ : ∃ k', gk = k' + 1 := ⟨gk - 1, by omega⟩
    obtain ⟨va, vcc, rfl⟩ := own_shape hL.row
    obtain ⟨q1, q2, q3, q4⟩ := sgn_i T st'
    have C126 := hide (pTake_any 126 (by decide) (by decide) (by decide) HT.out hs hL.q.pp)
    rw [show kindP 126 = 126 from rfl] at C126
    have CA := hide (fun w1 (hk1 : w.heap.size ≤ w1.heap.size) (hq1 : QIn B w1 pb s T (sgn T st') g vC vP' mg) => atom_any HT.out HX.out hs hTl hq1 (Nat.le_trans hBw hk1) (by rw [q4]; omega) (by rw [q3]; omega))
    have HL := hide hL
    obtain ⟨nb, hnb⟩ : ∃ nb, decide ((tkA T st'.i).kind = 126) = nb := ⟨_, rfl⟩
    rw [hnb] at C126
    have HNB := hide hnb
    clear hL hnb
    cases hq : pTermG T (T.length + 1) true (sgn T st') [] with
    | error p =>
      rw [hq] at CA
      have HR : Hid (R = .error p) := hide (by rw [HL.out.eq, lits_err hq])
      clear hq
      go_wp2_with (first
        | (go_at_call 67; refine (CA.out _ HZ1.out.2.1.size HZ1.out.1).mono ?_; rintro e w2 ⟨hk2, a2, n2, c2, i2, vP2, vM2, rfl, hp2, hpos⟩; have HK2 := hide (HZ1.out.2.1.trans (hk2.mono HZ1.out.2.1.size)); have HP2 := hide hp2; have HPO := hide hpos; clear hk2 hp2 hpos)
        | (go_at_call 54; refine (unhide C126).mono ?_; rintro e w1 ⟨rfl, hg1, hp1⟩; have HZ1 := hide (lits_take HL.out.q HL.out.kept HL.out.row HL.out.atoms hg1 hp1); clear hg1 hp1)
        | go_in)
      go_ret2
      refine ⟨HK2.out, ?_⟩
      rw [HR.out]
      exact ⟨_, _, _, _, _, _, rfl, HP2.out, HPO.out⟩
    | ok y =>
      obtain ⟨s2, x⟩ := y
      have hon := (pTermG_on T (T.length + 1)).1 _ _ _ _ _ hq
      simp only [List.length_nil] at hon
      rw [q3, q4] at hon
      rw [hq] at CA
      have HQ := hide hq
      clear hq
      have C124 := hide (fun w3 vP3 (hp : PPx B w3 pb s T s2.i g vC vP3 (.map (some mg))) => pTake_any 124 (by decide) (by decide) (by decide) HT.out hs hp)
      rw [show kindP 124 = 124 from rfl] at C124
      by_cases h124 : (tkA T s2.i).kind = 124
      · rw [if_pos h124, decide_eq_true h124] at C124
        have HR : Hid (∀ vl, R = pLitsG T k' ⟨s2.i + 1, s2.vars, s2.places⟩ ((P ++ [((nb, x), vl)]).map Prod.fst)) := hide (fun vl => by rw [HL.out.eq, lits_more HQ.out h124, HNB.out, List.map_append, List.map_singleton])
        go_wp2_with (first
          | (go_at_call 54; refine (C124.out _ _ HZ3.out.1.pp).mono ?_; rintro e w4 ⟨rfl, hg4, hp4⟩; have HZ4 := hide (lits_take HZ3.out.1 HZ3.out.2.1 HZ3.out.2.2.1 HZ3.out.2.2.2 hg4 hp4); clear hg4 hp4)
          | (at_builtin; refine wpList_append_own _ rfl (.tmp 17) (.tmp 21) 42 rfl w.heap.size 49 iL (.agg #[.bool false, .slice none 0 0]) 2 32 Try.underlying42 hI hI0 hI1 hI2 rfl (by decide) _ _ _ rfl (HZ2.out.2.1.alloc _) ⟨_, 0, none⟩ 1 1 [.bool nb, .slice la x.length lac] rfl rfl (new2 w2 _ _ _ _ rfl) (oneLit _ _ _ _) (by unfold maxLen; omega) (by omega) (by simp; omega) ?_; intro v3 w3 ho3 hg3 _; have HZ3 := hide (lits_put (x := (nb, x)) HQ2.out HZ2.out.1 HZ2.out.2.1 HZ2.out.2.2.1 HZ2.out.2.2.2 ho3 hg3); obtain ⟨va3, vc3, rfl⟩ := own_shape ho3; clear ho3 hg3)
          | (go_at_call 67; refine (CA.out _ HZ1.out.2.1.size HZ1.out.1).mono ?_; rintro e w2 ⟨hk2, vl, vP2, rfl, hq2, hl2⟩; obtain ⟨la, lac, rfl⟩ := own_shape hl2; have HZ2 := hide (lits_atom HZ1.out.1 HZ1.out.2.1 HZ1.out.2.2.1 HZ1.out.2.2.2 hk2 hl2); have HQ2 := hide hq2; have hz2 := HZ2.out.1.size; clear hk2 hq2 hl2)
          | (go_at_call 54; refine (unhide C126).mono ?_; rintro e w1 ⟨rfl, hg1, hp1⟩; have HZ1 := hide (lits_take HL.out.q HL.out.kept HL.out.row HL.out.atoms hg1 hp1); clear hg1 hp1)
          | go_in)
        go_roundg k'
        case measure => omega
        case rel => exact ⟨⟨s2.i + 1, s2.vars, s2.places⟩, P ++ [((nb, x), _)], _, HZ4.out.1, HZ4.out.2.1, HZ4.out.2.2.1, HZ4.out.2.2.2, HR.out _, by simp; omega, by simp; omega, by simp; omega, by simp; omega⟩
      · rw [if_neg h124, decide_eq_false h124] at C124
        have HR : Hid (∀ vl, R = .ok (s2, (P ++ [((nb, x), vl)]).map Prod.fst)) := hide (fun vl => by rw [HL.out.eq, lits_stop HQ.out h124, HNB.out, List.map_append, List.map_singleton])
        go_wp2_with (first
          | (go_at_call 54; refine (C124.out _ _ HZ3.out.1.pp).mono ?_; rintro e w4 ⟨rfl, hg4, hp4⟩; have HZ4 := hide (lits_take HZ3.out.1 HZ3.out.2.1 HZ3.out.2.2.1 HZ3.out.2.2.2 hg4 hp4); clear hg4 hp4)
          | (at_builtin; refine wpList_append_own _ rfl (.tmp 17) (.tmp 21) 42 rfl w.heap.size 49 iL (.agg #[.bool false, .slice none 0 0]) 2 32 Try.underlying42 hI hI0 hI1 hI2 rfl (by decide) _ _ _ rfl (HZ2.out.2.1.alloc _) ⟨_, 0, none⟩ 1 1 [.bool nb, .slice la x.length lac] rfl rfl (new2 w2 _ _ _ _ rfl) (oneLit _ _ _ _) (by unfold maxLen; omega) (by omega) (by simp; omega) ?_; intro v3 w3 ho3 hg3 _; have HZ3 := hide (lits_put (x := (nb, x)) HQ2.out HZ2.out.1 HZ2.out.2.1 HZ2.out.2.2.1 HZ2.out.2.2.2 ho3 hg3); obtain ⟨va3, vc3, rfl⟩ := own_shape ho3; clear ho3 hg3)
          | (go_at_call 67; refine (CA.out _ HZ1.out.2.1.size HZ1.out.1).mono ?_; rintro e w2 ⟨hk2, vl, vP2, rfl, hq2, hl2⟩; obtain ⟨la, lac, rfl⟩ := own_shape hl2; have HZ2 := hide (lits_atom HZ1.out.1 HZ1.out.2.1 HZ1.out.2.2.1 HZ1.out.2.2.2 hk2 hl2); have HQ2 := hide hq2; have hz2 := HZ2.out.1.size; clear hk2 hq2 hl2)
          | (go_at_call 54; refine (unhide C126).mono ?_; rintro e w1 ⟨rfl, hg1, hp1⟩; have HZ1 := hide (lits_take HL.out.q HL.out.kept HL.out.row HL.out.atoms hg1 hp1); clear hg1 hp1)
          | go_in)
        go_ret2
        refine ⟨HZ4.out.2.1, ?_⟩
        rw [HR.out]
        exact ⟨_, _, _, rfl, HZ4.out.1, HZ4.out.2.2.1, HZ4.out.2.2.2, rfl⟩
end

end Go.Proofs.Ytcpdadppblbndaa
