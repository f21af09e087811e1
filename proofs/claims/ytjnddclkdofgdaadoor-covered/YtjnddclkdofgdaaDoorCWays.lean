/- The program: how many literals one can be made, and which can be made the fewest. -/
import Derived.Test.YtjnddclkdofgdaaDoorCFree
namespace Go.Proofs.YtjnddclkdofgdaaDoor
open Go.RowKit Go.Shelf
set_option maxRecDepth 100000

/-- Atoms that are terms of a size that may be. -/
def Fine (c : List Lt) : Prop := ∀ l ∈ c, termGo l.2 1 = true ∧ l.2.length ≤ 60
theorem MIn.len {w : World} {B g : Nat} {dv : Value} {L : Bd'} (h : MIn w B g dv L) : ∃ a cap, w.cell? ⟨g, 61, none⟩ = some (.slice a L.length cap) := by
  obtain ⟨bv, hb, ho⟩ := h.bound
  obtain ⟨a, cap, rfl⟩ := own_shape ho
  exact ⟨a, cap, hb⟩
theorem box2 (w : World) (x y : Value) (T : TypeId) : (w.alloc (.cells #[x, y] T)).cell? ⟨w.heap.size, 0, none⟩ = some x ∧ (w.alloc (.cells #[x, y] T)).cell? ⟨w.heap.size, 1, none⟩ = some y := by simp

set_option maxHeartbeats 1000000 in
theorem mWays_any (B g : Nat) (da : Option Addr) (dcap : Nat) (d : List Lt) (L : Bd') (w : World) (xb : Bool) (xa : Option Addr) (xc : Nat) (xl : List Nd) (hM : MIn w B g (.slice da d.length dcap) L) (hD : LitsK w B da d) (hX : NodesB w B xa xl) (tx : termGo xl 1 = true) (x60 : xl.length ≤ 60) (hd : Fine d) :
    Calls Tryd.prog 126 #[.pointer (some ⟨g, 0, none⟩), .agg #[.bool xb, .slice xa xl.length xc]] w fun e w' => ∃ r : Nat, e = .returned (.int .i64 r) ∧ r ≤ 8 ∧ MIn w' B g (.slice da d.length dcap) L ∧ Fr B w w' := by
  have hb0 : Below w.heap.size w (w.alloc (.cells #[.bool xb, .slice xa xl.length xc] 30)) := (Below.refl _ _).alloc (Nat.le_refl _) _
  have hM1 := hM.below hb0
  have hD1 := hD.fr (Fr.of_below hb0)
  have hX1 := hX.fr (Fr.of_below hb0)
  have hS := stays_new (w := w) (B := B) #[.bool xb, .slice xa xl.length xc] 30 (by decide) (by decide)
  have hbx := box2 w (.bool xb) (.slice xa xl.length xc) 30
  have hd8 := hD.few
  have HF0 : Hid (Fr B w (w.alloc (.cells #[.bool xb, .slice xa xl.length xc] 30))) := hide (Fr.of_below hb0)
  have ham := hM1.among
  have HM1 := hide hM1
  have HD1 := hide hD1
  have HX1 := hide hX1
  have HS := hide hS
  have HBX := hide hbx
  have HD := hide hd
  clear hM hD hX hb0 hM1 hD1 hX1 hS hbx hd
  go_enter Tryd.func126, Tryd.ntmps126
  go_wp2
  generalize hW : w.alloc (.cells #[.bool xb, .slice xa xl.length xc] 30) = W at *
  clear hW
  go_loopw [5, 14] (fun c i wr => ∃ k n : Nat, k ≤ d.length ∧ n ≤ k ∧ i = .int .i64 k ∧ c = .int .i64 n ∧ MIn wr B g (.slice da d.length dcap) L ∧ Fr B W wr) (fun _ i _ => d.length - (intOf i).toNat)
  case atStart => exact ⟨0, 0, Nat.zero_le _, Nat.zero_le _, rfl, rfl, HM1.out, Fr.refl _ _⟩
  case round =>
    obtain ⟨k, n, hk, hn, rfl, rfl, hM, hF⟩ := hrel
    by_cases hlt : k < d.length
    · obtain ⟨b, o, ya, yc, rfl, hs, e1, f1, hyc, hY⟩ := (HD1.out.fr hF).cell k hlt
      obtain ⟨hty, hy60⟩ := HD.out d[k] (List.getElem_mem _)
      obtain ⟨ba, bcap, hbl⟩ := hM.len
      have hlb : (L.length : Int) ≤ 60 := by have := hM.ok.few; omega
      have hx0 := hF.cell HBX.out.1 HS.out
      have hx1 := hF.cell HBX.out.2 HS.out
      generalize d[k] = y at *
      obtain ⟨yb, yl⟩ := y
      simp only at e1 f1 hty hy60 hY hyc
      have hb2 : Below wr.heap.size wr (wr.alloc (.cells #[.bool yb, .slice ya yl.length yc] 30)) := (Below.refl _ _).alloc (Nat.le_refl _) _
      have CM := hide (mMatch_any B g _ L (wr.alloc (.cells #[.bool yb, .slice ya yl.length yc] 30)) xb yb xa ya xc yc xl yl (hM.below hb2) (HX1.out.fr (hF.trans (Fr.of_below hb2))) (hY.fr (Fr.of_below hb2)) hyc tx hty x60 hy60)
      have HF2 := hide (hF.trans (Fr.of_below hb2))
      have hbl2 := Below.at' hb2 (Nat.le_refl _) hbl
      have hx02 := Below.at' hb2 (Nat.le_refl _) hx0
      have hx12 := Below.at' hb2 (Nat.le_refl _) hx1
      clear hb2 hM hF hY hs hyc hty hy60
      go_wp2_with (first
        | (go_at_call 106; refine (unhide CM).mono ?_; rintro e w1 ⟨r, L', rfl, hm1, hf1, ⟨M, rfl⟩, -, -⟩; have CF := hide (mFree_any B g _ L M w1 hm1); have HF3 := hide (HF2.out.trans hf1); clear hm1 hf1)
        | (go_at_call 107; refine (unhide CF).mono ?_; rintro e w2 ⟨rfl, hm2, hf2⟩; have HM2 := hide hm2; have HF4 := hide (HF3.out.trans hf2); clear hm2 hf2))
      · go_roundw
        case rel => exact ⟨k + 1, n + 1, by omega, by omega, by go_num, by go_num, HM2.out, HF4.out⟩
        case measure => simp [intOf]; omega
      · go_roundw
        case rel => exact ⟨k + 1, n, by omega, by omega, by go_num, rfl, HM2.out, HF4.out⟩
        case measure => simp [intOf]; omega
    · have HM := hide hM
      have HF := hide hF
      clear hM hF
      go_wp2
      go_ret
      exact ⟨n, rfl, by omega, HM.out, HF0.out.trans HF.out⟩

end Go.Proofs.YtjnddclkdofgdaaDoor
