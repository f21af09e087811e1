/- The program: can literals be made ones that are among others? (all, by group) -/
import Derived.Test.YtjnddclkdofgdaaDoorCConcat
namespace Go.Proofs.YtjnddclkdofgdaaDoor
open Go.RowKit Go.Shelf
set_option maxRecDepth 100000

/-- What all answers, for lists of at most so many. -/
def AllSpec (n : Nat) : Prop := ∀ (B g : Nat) (da : Option Addr) (dcap : Nat) (d : List Lt) (L : Bd') (w : World) (ca : Option Addr) (ccap : Nat) (c : List Lt), c.length ≤ n → MIn w B g (.slice da d.length dcap) L → LitsK w B da d → LitsK w B ca c → c.length ≤ ccap → Fine d → Fine c → B ≤ w.heap.size →
  Calls Tryd.prog 65 #[.pointer (some ⟨g, 0, none⟩), .slice ca c.length ccap] w fun e w' => ∃ (r : Bool) (L' : Bd'), e = .returned (.bool r) ∧ MIn w' B g (.slice da d.length dcap) L' ∧ Fr B w w' ∧ (∃ M, L' = L ++ M) ∧ (r = true → Grown c L L' ∧ Made d c L') ∧ (r = false → ¬ Cov d c L)
def GroupSpec (n : Nat) : Prop := ∀ (B g : Nat) (da : Option Addr) (dcap : Nat) (d : List Lt) (L : Bd') (w : World) (b o ccap : Nat) (c : List Lt), c.length ≤ n → 0 < c.length → MIn w B g (.slice da d.length dcap) L → LitsK w B da d → LitsK w B (some ⟨b, o, none⟩) c → c.length ≤ ccap → Fine d → Fine c → B ≤ w.heap.size →
  Calls Tryd.prog 87 #[.pointer (some ⟨g, 0, none⟩), .slice (some ⟨b, o, none⟩) c.length ccap] w fun e w' => ∃ (r : Bool) (L' : Bd'), e = .returned (.bool r) ∧ MIn w' B g (.slice da d.length dcap) L' ∧ Fr B w w' ∧ (∃ M, L' = L ++ M) ∧ (r = true → Grown c L L' ∧ Made d c L') ∧ (r = false → ¬ Cov d c L)

/-- How long a slice is. -/
def sliceLen : Value → Nat
  | .slice _ n _ => n
  | _ => 0
/-- What is left to be made. -/
def MadeBut (d c ls : List Lt) (L : Bd') : Prop := ∀ σ, Tm σ → Ext σ L → ∀ l ∈ c, l ∈ ls ∨ (l.1, subst σ l.2) ∈ d
theorem Fine.of {c c' : List Lt} (h : Fine c) (k : ∀ l ∈ c', l ∈ c) : Fine c' := fun l hl => h l (k l hl)
theorem Cov.sub {d c c' : List Lt} {L : Bd'} (h : Cov d c L) (k : ∀ l ∈ c', l ∈ c) : Cov d c' L := by
  obtain ⟨σ, h1, h2, h3⟩ := h
  exact ⟨σ, h1, h2, fun l hl => h3 l (k l hl)⟩
theorem grown_trans {c ls G : List Lt} {L L1 L2 : Bd'} (h : Grown c L L1) (k : Grown G L1 L2) (hs : ∀ l ∈ G, l ∈ ls) (hc : ∀ l ∈ ls, l ∈ c) : Grown c L L2 := h.trans k (fun _ hl => hl) (fun l hl => hc l (hs l hl))

set_option maxHeartbeats 1000000 in
theorem all_of_group (n : Nat) (hG : GroupSpec n) : AllSpec n := by
  intro B g da dcap d L w ca ccap c hn hM hD hC hcap hfd hfc hBw
  have HGS := hide hG
  have HM := hide hM
  have HD := hide hD
  have HC := hide hC
  have HFD := hide hfd
  have HFC := hide hfc
  have hc8 := hC.few
  clear hG hM hD hC hfd hfc
  go_enter Tryd.func65, Tryd.ntmps65
  go_wp2
  go_loopw [1] (fun v wr => ∃ (ls : List Lt) (L1 : Bd') (la : Option Addr) (lcap : Nat), v = .slice la ls.length lcap ∧ ls.length ≤ n ∧ ls.length ≤ lcap ∧ LitsK wr B la ls ∧ MIn wr B g (.slice da d.length dcap) L1 ∧ Fr B w wr ∧ (∀ l ∈ ls, l ∈ c) ∧ (∃ M, L1 = L ++ M) ∧ (Cov d c L ↔ Cov d ls L1) ∧ Grown c L L1 ∧ MadeBut d c ls L1) (fun v _ => sliceLen v)
  case atStart => exact ⟨c, L, ca, ccap, rfl, hn, hcap, HC.out, HM.out, Fr.refl _ _, fun _ h => h, ⟨[], by simp⟩, Iff.rfl, Grown.refl _ _, fun _ _ _ l hl => Or.inl hl⟩
  case round =>
    obtain ⟨ls, L1, la, lcap, rfl, hln, hlc, hL, hM, hF, hsub, hpre, hcov, hgr, hmb⟩ := hrel
    by_cases h0 : 0 < ls.length
    · obtain ⟨b, o, _, _, rfl, _⟩ := hL.cell 0 h0
      have h0i : (0 : Int) < (ls.length : Int) := by omega
      have CL := hide (mLinked_any B g (.slice da d.length dcap) L1 wr b o lcap ls hM hL hlc (HFC.out.of hsub) h0 (Nat.le_trans hBw hF.size))
      have HF := hide hF
      have HM1 := hide hM
      have HSUB := hide hsub
      have HPRE := hide hpre
      have HCOV := hide hcov
      have HGR := hide hgr
      have HMB := hide hmb
      have hws := Nat.le_trans hBw hF.size
      clear hL hM hF hsub hpre hcov hgr hmb
      go_wp2_with (first
        | (go_at_call 86; refine (unhide CL).mono ?_; rintro e w1 ⟨G, R, ga, go, gcap, ra, rcap, rfl, hgc, hrc, hGL, hRL, hpar, hlen, hG0, hap, hb1⟩; have CG := hide (HGS.out B g da dcap d L1 w1 ga go gcap G (by omega) hG0 (HM1.out.below hb1) (HD.out.fr (HF.out.trans (Fr.of_below hb1))) hGL hgc HFD.out (HFC.out.of fun l hl => HSUB.out l ((hpar l).2 (Or.inl hl))) (Nat.le_trans hws hb1.size)); have HB1 := hide hb1; have HRL := hide hRL; have HPAR := hide hpar; have HAP := hide hap; clear hGL hRL hpar hap hb1)
        | (go_at_call 87; refine (unhide CG).mono ?_; rintro e w2 ⟨r, L2, rfl, hm2, hf2, hp2, hr1, hr2⟩; have HM2 := hide hm2; have HF2 := hide hf2; have HP2 := hide hp2; have HR1 := hide hr1; have HR2 := hide hr2; clear hm2 hf2 hp2 hr1 hr2))
      · have hr : r = false := by first | assumption | (cases r <;> simp_all)
        subst hr
        go_ret
        refine ⟨false, L2, rfl, HM2.out, HF.out.trans ((Fr.of_below HB1.out).trans HF2.out), ?_, by simp, fun _ hc => ?_⟩
        · obtain ⟨M1, h1⟩ := HPRE.out
          obtain ⟨M2, h2⟩ := HP2.out
          exact ⟨M1 ++ M2, by rw [h2, h1]; simp⟩
        · exact HR2.out rfl (((HCOV.out).1 hc).sub fun l hl => (HPAR.out l).2 (Or.inl hl))
      · have hr : r = true := by first | assumption | (cases r <;> simp_all)
        subst hr
        go_roundw
        case rel =>
          obtain ⟨hg2, hmd⟩ := HR1.out rfl
          refine ⟨R, L2, ra, rcap, rfl, by omega, hrc, HRL.out.fr HF2.out, HM2.out, HF.out.trans ((Fr.of_below HB1.out).trans HF2.out), fun l hl => HSUB.out l ((HPAR.out l).2 (Or.inr hl)), ?_, ?_, ?_, ?_⟩
          · obtain ⟨M1, h1⟩ := HPRE.out
            obtain ⟨M2, h2⟩ := HP2.out
            exact ⟨M1 ++ M2, by rw [h2, h1]; simp⟩
          · exact HCOV.out.trans (cov_parts HPAR.out HAP.out hg2 HM2.out.ok.look hmd)
          · exact grown_trans HGR.out hg2 (fun l hl => (HPAR.out l).2 (Or.inl hl)) HSUB.out
          · intro σ hσ he l hl
            rcases HMB.out σ hσ (hg2.ext he) l hl with h | h
            · rcases (HPAR.out l).1 h with h | h
              · exact Or.inr (hmd σ hσ he l h)
              · exact Or.inl h
            · exact Or.inr h
        case measure => simp [sliceLen]; omega
    · have hl0 : ls = [] := List.eq_nil_of_length_eq_zero (by omega)
      subst hl0
      have HF := hide hF
      have HM1 := hide hM
      have HPRE := hide hpre
      have HGR := hide hgr
      have HMB := hide hmb
      clear hL hM hF hsub hpre hcov hgr hmb
      go_wp2
      go_ret
      refine ⟨true, L1, rfl, HM1.out, HF.out, HPRE.out, fun _ => ⟨HGR.out, fun σ hσ he l hl => ?_⟩, by simp⟩
      rcases HMB.out σ hσ he l hl with h | h
      · simp at h
      · exact h

end Go.Proofs.YtjnddclkdofgdaaDoor
