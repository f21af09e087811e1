/- Covers answers as the document's own answer does, whatever two lists of literals come in, either way round and of one with itself, and leaves them as they were. Conditions: none but the row's own (the library's tables stand as the program lays them; each list and text is of at most 2^47 - 4096 bytes). -/
import Derived.Test.YtjnddclkdofgdaaDoorCTop
import Derived.Test.YtjnddclkdofgdaaDoorPOpen
import Derived.Test.YtjnddclkdofgdaaDoorCards
import Derived.Test.YtjnddclkdofgdaaDoorTie
import Derived.WalkKit
import Derived.ProofKit
import Derived.OpenShut
import Derived.Deep.DeepHandedRow
import Derived.Deep.DeepWitnessRowRef
import Derived.Lib.LaidIn
import Derived.Lib.LaidU8T
import Derived.PinnedBridge
namespace Go.Proofs.YtjnddclkdofgdaaDoor
open Go.ChangeShapes Go.WideShapes Go.ChangeAt Go.RowKit Go.Lib Go.Shelf
set_option maxRecDepth 100000

theorem own : ownKnob Tryd.prog.godebug = none := by kernel_rfl
theorem laidOut : laidOutB Tryd.prog = true := by kernel_rfl

/-- What the row's list gives: the two tables of the library. -/
theorem tabs_of {W : World} (h : laidMetH Tryd.prog Rows.coveredRow.laid W) : Tabs W := by
  have hL : laidMet Tryd.prog Rows.coveredRow.laid W := h
  refine utf8Tabs_of_readsT (U8Types.of196 lays196) ⟨by kernel_rfl, by kernel_rfl, by kernel_rfl, by kernel_rfl, by kernel_rfl, by kernel_rfl, by kernel_rfl⟩ ?_ ?_
  · rw [← Pinned.utf8First_eq]; exact Lib.laidMet.reads hL (by simp [Rows.coveredRow, Rows.laid_unicode_utf8_first])
  · have e : (Rows.laid_unicode_utf8_acceptRanges : DataW Unit) = acceptData := by kernel_rfl
    rw [← e]; exact Lib.laidMet.reads hL (by simp [Rows.coveredRow])

/-- The lists in a list have room for what they hold. -/
theorem open_caps {H : Type} {enc : TypeId × Value → H} {w : World} {fuel : Nat} {a : Option Addr} {c : List Lt} {cap : Nat} {x : DataW H × List MemPlace} (h : DataW.trod enc Tryd.prog w 0 (fun _ => true) true fuel 22 [.slice a c.length cap] = some x) : CapsIn w a c := by
  intro k hk b o aa n cc ha hc
  rcases Deep.open_slice_pairs Tryd.underlying22 Tryd.underlying30 (by kernel_rfl) rfl rfl (by kernel_rfl) (by kernel_rfl) h with ⟨e, _⟩ | ⟨a', len, cap', m, n', V0, V1, D0, D1, P0, P1, e, hb, hl, hm, hmm, _, hx⟩
  · obtain ⟨-, h0, -⟩ : a = none ∧ c.length = 0 ∧ cap = 0 := by simpa using e
    omega
  · obtain ⟨rfl, rfl, rfl⟩ : a = some a' ∧ c.length = len ∧ cap = cap' := by simpa using e
    obtain rfl : a' = ⟨b, o, none⟩ := by simpa using ha
    have hmc : m = cap := by simpa using hmm
    obtain ⟨_, g1, _, h1⟩ := hx k (by omega)
    rw [add_at, ← Nat.add_assoc, hc] at g1
    have hv : V1 k = .slice aa n cc := by simpa using g1.symm
    rw [hv] at h1
    rcases Deep.open_slice_pairs Tryd.underlying28 Tryd.underlying27 (by kernel_rfl) rfl rfl (by kernel_rfl) (by kernel_rfl) h1 with ⟨e1, _⟩ | ⟨a2, len2, cap2, m2, n2, _, _, _, _, _, _, e1, _, hl2, _⟩
    · obtain ⟨-, h3, h4⟩ : aa = none ∧ n = 0 ∧ cc = 0 := by simpa using e1
      omega
    · obtain ⟨-, rfl, rfl⟩ : aa = some a2 ∧ n = len2 ∧ cc = cap2 := by simpa using e1
      exact hl2

theorem contract (H : Type) (enc : TypeId × Value → H) (W : World) (base : Nat) (args : Array Value) (ds gs : List (DataW H)) (before : List MemPlace)
    (hval : ∀ (j : Nat) t v, Tryd.f5.params[j]? = some t → args[j]? = some v → Value.okWide Tryd.prog W .any base t v)
    (hW : DataW.Whole enc Tryd.prog Tryd.f5.params.toList Rows.coveredSpec.vars false W args.toList ds gs before)
    (hz : (DataW.weightsEach Tryd.prog (Tryd.f5.params.toList ++ Rows.coveredSpec.plain.varTypes Tryd.prog) (ds ++ gs)).all (· ≤ reachBytes) = true)
    (hL : laidMetH Tryd.prog Rows.coveredRow.laid W) :
    Calls Tryd.prog 5 args W fun e W' => ∃ v, e = .returned v ∧ Rows.coveredSpec.post enc Tryd.prog Tryd.f5 false true false false W args v W' := by
  have hW' := hW
  obtain ⟨p, q, hA0, hV, rfl, _, _⟩ := hW
  have hA : DataW.TrodAll enc Tryd.prog W 0 (fun _ => true) true Tryd.f5.params.toList args.toList ds p := hA0
  have hz' := hz
  rw [Tryd.params5] at hA hval hz'
  obtain ⟨v0, v1, d0, d1, p0, p1, rfl, rfl, rfl, h0, h1⟩ := trodAll_two hA
  obtain ⟨rfl, rfl⟩ := trodVars_none hV
  obtain ⟨a0, len0, cap0, rfl⟩ := okWide_slice Tryd.underlying22 (hval 0 22 v0 rfl rfl)
  obtain ⟨a1, len1, cap1, rfl⟩ := okWide_slice Tryd.underlying22 (hval 1 22 v1 rfl rfl)
  have h0k := h0
  have h1k := h1
  obtain ⟨fuel0, hf0⟩ := h0
  obtain ⟨fuel1, hf1⟩ := h1
  clear hA0
  simp only [List.append_nil] at hW'
  have hlt : ∀ x ∈ p0 ++ p1, x.block < W.heap.size := fun x hx => by simpa using hW'.lt x hx
  have hargs0 : ∀ (W' : World), Below W.heap.size W W' → DataW.Trod enc Tryd.prog W' 0 (fun b => decide (b < W.heap.size)) true 22 (.slice a0 len0 cap0) d0 p0 :=
    fun W' hn => Below.trod laidOut (by kernel_rfl) (of_decide_eq_true (by kernel_rfl)) h0k hn (fun x hx => hlt x (List.mem_append_left _ hx))
  have hargs1 : ∀ (W' : World), Below W.heap.size W W' → DataW.Trod enc Tryd.prog W' 0 (fun b => decide (b < W.heap.size)) true 22 (.slice a1 len1 cap1) d1 p1 :=
    fun W' hn => Below.trod laidOut (by kernel_rfl) (of_decide_eq_true (by kernel_rfl)) h1k hn (fun x hx => hlt x (List.mem_append_right _ hx))
  obtain ⟨b0, c0, cp0, hcs0, hl0, hn0⟩ := open_lits hf0 (fun n hn => by
    have := List.all_eq_true.1 hz' n (DataW.weights_mem_each (j := 0) (t := 22) (d := d0) rfl rfl n hn)
    simpa using this)
  obtain ⟨b1, c1, cp1, hcs1, hl1, hn1⟩ := open_lits hf1 (fun n hn => by
    have := List.all_eq_true.1 hz' n (DataW.weights_mem_each (j := 1) (t := 22) (d := d1) rfl rfl n hn)
    simpa using this)
  obtain ⟨rfl, rfl, rfl⟩ : a0 = b0 ∧ len0 = c0.length ∧ cap0 = cp0 := by simpa [Value.cells] using hcs0
  obtain ⟨rfl, rfl, rfl⟩ : a1 = b1 ∧ len1 = c1.length ∧ cap1 = cp1 := by simpa [Value.cells] using hcs1
  refine (lcovered_any a0 a1 cap0 cap1 c0 c1 W hl0 hl1 hn0 hn1 (open_caps hf0) (open_caps hf1) (tabs_of hL)).mono fun e W' ⟨he, hB⟩ => ?_
  subst he
  have e1 : Rows.coveredSpec.fn H ([d0, d1] ++ []) = { results := [.lit (.bool true)], args := [d0, d1] } := rfl
  refine ⟨_, rfl, _, _, _, [], p0 ++ p1, [], hW', ?_, ?_, by rw [e1]; rfl, hB.frame _, fun h => by cases h⟩
  · rw [e1]; exact trodAll_mk1 (shut_bool Tryd.underlying4 _)
  · rw [e1]; exact trodAll_mk2 (hargs0 _ hB) (hargs1 _ hB)

end Go.Proofs.YtjnddclkdofgdaaDoor
