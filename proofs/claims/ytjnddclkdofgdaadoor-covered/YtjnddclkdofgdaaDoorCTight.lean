/- The program: the literal that can be made the fewest. -/
import Derived.Test.YtjnddclkdofgdaaDoorCWays
namespace Go.Proofs.YtjnddclkdofgdaaDoor
open Go.RowKit Go.Shelf
set_option maxRecDepth 100000

set_option maxHeartbeats 1000000 in
theorem mTight_any (B g : Nat) (da : Option Addr) (dcap : Nat) (d : List Lt) (L : Bd') (w : World) (ca : Option Addr) (ccap : Nat) (c : List Lt) (hM : MIn w B g (.slice da d.length dcap) L) (hD : LitsK w B da d) (hC : LitsK w B ca c) (hd : Fine d) (hc : Fine c) (h0 : 0 < c.length) :
    Calls Tryd.prog 104 #[.pointer (some ⟨g, 0, none⟩), .slice ca c.length ccap] w fun e w' => ∃ r : Nat, e = .returned (.int .i64 r) ∧ r < c.length ∧ MIn w' B g (.slice da d.length dcap) L ∧ Fr B w w' := by
  have ham := hM.among
  have hd8 := hD.few
  have hc8 := hC.few
  have HM := hide hM
  have HD := hide hD
  have HC := hide hC
  have HFD := hide hd
  have HFC := hide hc
  clear hM hD hC hd hc
  go_enter Tryd.func104, Tryd.ntmps104
  go_wp2_with fail
  go_quiet (fail)
  go_wp2
  go_loopw [5, 6, 18] (fun b f i wr => ∃ k m n : Nat, k ≤ c.length ∧ m < c.length ∧ n ≤ 9 ∧ i = .int .i64 k ∧ b = .int .i64 m ∧ f = .int .i64 n ∧ MIn wr B g (.slice da d.length dcap) L ∧ Fr B w wr) (fun _ _ i _ => c.length - (intOf i).toNat)
  case atStart => exact ⟨0, 0, d.length + 1, Nat.zero_le _, h0, by omega, rfl, rfl, by go_num, HM.out.drawn (by first | exact draw2 _ _ _ | exact ⟨_, rfl⟩), (Fr.refl _ _).drawn (by first | exact draw2 _ _ _ | exact ⟨_, rfl⟩)⟩
  case round =>
    obtain ⟨k, m, n, hk, hm, hn, rfl, rfl, rfl, hM, hF⟩ := hrel
    by_cases hlt : k < c.length
    · obtain ⟨b, o, ya, yc, rfl, hs, e1, f1, hyc, hY⟩ := (HC.out.fr hF).cell k hlt
      obtain ⟨hty, hy60⟩ := HFC.out c[k] (List.getElem_mem _)
      generalize c[k] = y at *
      obtain ⟨yb, yl⟩ := y
      simp only at e1 f1 hty hy60 hY hyc
      have hb2 : Below wr.heap.size wr (wr.alloc (.cells #[.bool yb, .slice ya yl.length yc] 30)) := (Below.refl _ _).alloc (Nat.le_refl _) _
      have CW := hide (mWays_any B g da dcap d L (wr.alloc (.cells #[.bool yb, .slice ya yl.length yc] 30)) yb ya yc yl (hM.below hb2) (HD.out.fr (hF.trans (Fr.of_below hb2))) (hY.fr (Fr.of_below hb2)) hty hy60 HFD.out)
      have HF2 := hide (hF.trans (Fr.of_below hb2))
      clear hb2 hM hF hY hs hyc hty hy60
      go_wp2_with (first
        | (go_at_call 126; refine (unhide CW).mono ?_; rintro e w1 ⟨r, rfl, hr8, hm1, hf1⟩; have HM1 := hide hm1; have HF3 := hide (HF2.out.trans hf1); clear hm1 hf1))
      · go_roundw
        case rel => exact ⟨k + 1, k, r, by omega, hlt, by omega, by go_num, rfl, rfl, HM1.out, HF3.out⟩
        case measure => simp [intOf]; omega
      · go_roundw
        case rel => exact ⟨k + 1, m, n, by omega, hm, by omega, by go_num, rfl, rfl, HM1.out, HF3.out⟩
        case measure => simp [intOf]; omega
    · have HM1 := hide hM
      have HF1 := hide hF
      clear hM hF
      go_wp2
      go_ret
      exact ⟨m, rfl, hm, HM1.out, HF1.out⟩

end Go.Proofs.YtjnddclkdofgdaaDoor
