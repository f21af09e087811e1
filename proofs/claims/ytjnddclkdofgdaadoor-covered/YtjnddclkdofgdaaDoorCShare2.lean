/- The program: does a free variable stand in both literals? (the call) -/
import Derived.Test.YtjnddclkdofgdaaDoorCShare
namespace Go.Proofs.YtjnddclkdofgdaaDoor
open Go.RowKit Go.Shelf
set_option maxRecDepth 100000

theorem any_take {f : Nd → Bool} (l : List Nd) (k : Nat) (h : k < l.length) : (l.take (k + 1)).any f = ((l.take k).any f || f l[k]) := by
  rw [List.take_succ_eq_append_getElem h, List.any_append]; simp
theorem any_of_take {f : Nd → Bool} {l : List Nd} {k : Nat} (h : (l.take k).any f = true) : l.any f = true := by
  rw [List.any_eq_true] at h ⊢
  obtain ⟨x, hx, hf⟩ := h
  exact ⟨x, List.mem_of_mem_take hx, hf⟩

set_option maxHeartbeats 1000000 in
theorem indexFuncN_any (a : Option Addr) (cap p1 p2 : Nat) (f : Nd → Bool) (l : List Nd) (w : World) (h : NodesIn w a l)
    (hc : ∀ n ∈ l, ∀ wx, Below w.heap.size w wx → Calls Tryd.prog 124 #[.agg #[.string n.1, .int .i64 n.2], .pointer (some ⟨p1, 0, none⟩), .pointer (some ⟨p2, 0, none⟩)] wx fun e w' => e = .returned (.bool (f n)) ∧ Below wx.heap.size wx w') :
    Calls Tryd.prog 137 #[.slice a l.length cap, .func (Fn.func 124) #[] #[.pointer (some ⟨p1, 0, none⟩), .pointer (some ⟨p2, 0, none⟩)]] w fun e w' => ∃ r : Int, e = .returned (.int .i64 r) ∧ decide (0 ≤ r) = l.any f ∧ Below w.heap.size w w' := by
  have hfew := h.few
  have HC := hide hc
  clear hc
  go_enter Tryd.func137, Tryd.ntmps137
  go_wp2
  go_loopw [8] (fun i wr => ∃ k : Nat, k ≤ l.length ∧ i = .int .i64 k ∧ (l.take k).any f = false ∧ Below w.heap.size w wr) (fun i _ => l.length - (intOf i).toNat)
  case atStart => exact ⟨0, Nat.zero_le _, rfl, rfl, Below.refl _ _⟩
  case round =>
    obtain ⟨k, hk, rfl, hm, hb⟩ := hrel
    by_cases hlt : k < l.length
    · obtain ⟨b, o, rfl, e1, f1⟩ := h.cell k hlt
      have e2 := Below.at' hb (Nat.le_refl _) e1
      have f2 := Below.at' hb (Nat.le_refl _) f1
      have hmt := any_take (f := f) l k hlt
      rw [hm, Bool.false_or] at hmt
      have hmx := any_of_take (f := f) (l := l) (k := k + 1)
      rw [hmt] at hmx
      have CL := hide (HC.out l[k] (List.getElem_mem _) wr hb)
      generalize l[k] = nd at *
      obtain ⟨s, x⟩ := nd
      simp only at e2 f2
      have HMT := hide hmt
      have HMX := hide hmx
      have HB := hide hb
      have hbs := hb.size
      clear hmt hmx hb hm e1 f1
      cases hl : f (s, x)
      · rw [hl] at CL HMT
        clear hl
        go_wp2_with (go_at_call 124; refine (unhide CL).mono ?_; rintro e w1 ⟨rfl, hb1⟩; have HB1 := hide (HB.out.trans (hb1.mono hbs)); clear hb1)
        go_roundw
        case rel => exact ⟨k + 1, by omega, by go_num, HMT.out, HB1.out⟩
        case measure => simp [intOf]; omega
      · rw [hl] at CL HMX
        clear hl
        go_wp2_with (go_at_call 124; refine (unhide CL).mono ?_; rintro e w1 ⟨rfl, hb1⟩; have HB1 := hide (HB.out.trans (hb1.mono hbs)); clear hb1)
        go_ret
        exact ⟨_, rfl, by rw [HMX.out (by first | rfl | trivial)]; simp, HB1.out⟩
    · have hk1 : l.take k = l := List.take_of_length_le (by omega)
      rw [hk1] at hm
      have HM := hide hm
      have HB := hide hb
      clear hk1 hb hm
      go_wp2
      go_ret
      exact ⟨_, rfl, by rw [HM.out]; rfl, HB.out⟩

theorem containsFuncN_any (a : Option Addr) (cap p1 p2 : Nat) (f : Nd → Bool) (l : List Nd) (w : World) (h : NodesIn w a l)
    (hc : ∀ n ∈ l, ∀ wx, Below w.heap.size w wx → Calls Tryd.prog 124 #[.agg #[.string n.1, .int .i64 n.2], .pointer (some ⟨p1, 0, none⟩), .pointer (some ⟨p2, 0, none⟩)] wx fun e w' => e = .returned (.bool (f n)) ∧ Below wx.heap.size wx w') :
    Calls Tryd.prog 123 #[.slice a l.length cap, .func (Fn.func 124) #[] #[.pointer (some ⟨p1, 0, none⟩), .pointer (some ⟨p2, 0, none⟩)]] w fun e w' => e = .returned (.bool (l.any f)) ∧ Below w.heap.size w w' := by
  have CI := hide (indexFuncN_any a cap p1 p2 f l w h hc)
  clear hc h
  go_enter Tryd.func123, Tryd.ntmps123
  go_wp2_with (go_at_call 137; refine (unhide CI).mono ?_; rintro e w1 ⟨r, rfl, hr, hb⟩; have HR := hide hr; have HB := hide hb; clear hr hb)
  go_ret
  exact ⟨ret_bool (by first | exact HR.out | simpa using HR.out), HB.out⟩

theorem termGo_mem (l : List Nd) : ∀ q, termGo l q = true → ∀ n ∈ l, nodeOk n = true := by
  induction l with
  | nil => intro q _ n hn; simp at hn
  | cons m r ih =>
    intro q h n hn
    cases q with
    | zero => simp [termGo] at h
    | succ q =>
      rw [termGo_cons, Bool.and_eq_true] at h
      rcases List.mem_cons.1 hn with rfl | hn
      · exact h.1
      · exact ih _ h.2 n hn

set_option maxHeartbeats 400000 in
theorem mShare_any (B g : Nat) (dv : Value) (L : Bd') (w : World) (xb yb : Bool) (xa ya : Option Addr) (xc yc : Nat) (xl yl : List Nd) (hM : MIn w B g dv L) (hX : NodesB w B xa xl) (hY : NodesB w B ya yl) (tx : termGo xl 1 = true) :
    Calls Tryd.prog 103 #[.pointer (some ⟨g, 0, none⟩), .agg #[.bool xb, .slice xa xl.length xc], .agg #[.bool yb, .slice ya yl.length yc]] w fun e w' => e = .returned (.bool (xl.any (shareB L yl))) ∧ Below w.heap.size w w' := by
  have hb0 : Below w.heap.size w (((w.alloc (.cells #[.pointer (some ⟨g, 0, none⟩)] 129)).alloc (.cells #[.bool xb, .slice xa xl.length xc] 30)).alloc (.cells #[.bool yb, .slice ya yl.length yc] 30)) := (((Below.refl _ _).alloc (Nat.le_refl _) _).alloc (by simp) _).alloc (by simp; omega) _
  have c1 : (((w.alloc (.cells #[.pointer (some ⟨g, 0, none⟩)] 129)).alloc (.cells #[.bool xb, .slice xa xl.length xc] 30)).alloc (.cells #[.bool yb, .slice ya yl.length yc] 30)).cell? ⟨w.heap.size, 0, none⟩ = some (.pointer (some ⟨g, 0, none⟩)) := Below.at' ((Below.refl _ _).alloc (Nat.le_refl _) _) (Nat.le_refl _) (Below.at' ((Below.refl _ _).alloc (Nat.le_refl _) _) (Nat.le_refl _) (by simp))
  have c2 : (((w.alloc (.cells #[.pointer (some ⟨g, 0, none⟩)] 129)).alloc (.cells #[.bool xb, .slice xa xl.length xc] 30)).alloc (.cells #[.bool yb, .slice ya yl.length yc] 30)).cell? ⟨w.heap.size + 2, 1, none⟩ = some (.slice ya yl.length yc) := by
    have := (box2 ((w.alloc (.cells #[.pointer (some ⟨g, 0, none⟩)] 129)).alloc (.cells #[.bool xb, .slice xa xl.length xc] 30)) (.bool yb) (.slice ya yl.length yc) 30).2
    rwa [show ((w.alloc (.cells #[.pointer (some ⟨g, 0, none⟩)] 129)).alloc (.cells #[.bool xb, .slice xa xl.length xc] 30)).heap.size = w.heap.size + 2 by simp] at this
  have hok := termGo_mem xl 1 tx
  have CC := hide (containsFuncN_any xa xc w.heap.size (w.heap.size + 2) (shareB L yl) xl _ (hX.fr (Fr.of_below hb0)).nodes (fun n hn wx hbx => share1_any B g w.heap.size (w.heap.size + 2) dv L ya yc yl n.1 n.2 wx ((hM.below hb0).below hbx) ((hY.fr (Fr.of_below hb0)).fr (Fr.of_below hbx)) (Below.at' hbx (Nat.le_refl _) c1) (Below.at' hbx (Nat.le_refl _) c2) (hok n hn)))
  have HB0 := hide hb0
  clear hb0 c1 c2 hok hM hX hY
  go_enter Tryd.func103, Tryd.ntmps103
  go_wp2_with (go_at_call 123; refine (unhide CC).mono ?_; rintro e w1 ⟨rfl, hb1⟩; have HB1 := hide (HB0.out.trans (hb1.mono HB0.out.size)); clear hb1)
  go_ret
  exact ⟨rfl, HB1.out⟩

/-- No free variable stands in both. -/
theorem share_apart {L : Bd'} {x y : Lt} (h : x.2.any (shareB L y.2) = false) : ∀ n ∈ x.2, varB n = true → look L n.2 = none → n ∉ y.2 := by
  intro n hn hv hl hm
  rw [List.any_eq_false] at h
  have := h n hn
  simp [shareB, hv, hl, (memN_iff n y.2).2 hm] at this

end Go.Proofs.YtjnddclkdofgdaaDoor
