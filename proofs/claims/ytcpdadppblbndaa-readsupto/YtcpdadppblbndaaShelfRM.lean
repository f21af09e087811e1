/- The library's functions that the reader calls: their numbers here, for the library's contracts. The program: which characters are marks. The program: the characters of a text are listed. -/
import Derived.Shelf.Strings.Runes
import Derived.Shelf.Strings.Prefix
import Derived.Test.YtcpdadppblbndaaProg
import Derived.Test.YtcpdadppblbndaaBLk0M
import Derived.Lib.OthersKept
import Derived.Laws.Runes
import Derived.Shelf.Small.Utf8
import Derived.Shelf.Small.Strs
import Derived.Deep.RegionWith
import Derived.WalkMore
import Derived.Test.YtcpdadppblbndaaBase0M
import Derived.Test.YtcpdadppblbndaaRRenM
import Derived.Test.YtcpdadppblbndaaROrd
import Derived.OwnWalk
import Derived.Lib.IndexBytes
namespace Go.Proofs.Ytcpdadppblbndaa
open Go.Shelf Go.Proofs
set_option maxRecDepth 100000
def ren : Go.Shelf.Ren := ⟨fun | 99 => 45 | 119 => 78 | 137 => 77 | 151 => 66 | 152 => 73 | 206 => 61 | 217 => 83 | 224 => 79 | 225 => 80 | 266 => 84 | n => n, fun | 0 => 0 | 3 => 3 | 4 => 4 | 5 => 5 | 9 => 9 | 21 => 21 | 46 => 127 | n => n, fun | n => n⟩
theorem lays99 : Lays.n99 Try.prog ren := {
  mixed := by kernel_rfl
  f99 := Try.func45.trans (congrArg some (by kernel_rfl))
  f206 := Try.func61.trans (congrArg some (by kernel_rfl))
  t3 := Try.underlying3
  a3 := Try.isAgg3
  z3 := Try.sizeOf3
  v3 := Try.zeroValue3
  t4 := Try.underlying4
  a4 := Try.isAgg4
  z4 := Try.sizeOf4
  v4 := Try.zeroValue4
  t9 := Try.underlying9
  a9 := Try.isAgg9
  z9 := Try.sizeOf9
  v9 := Try.zeroValue9 }
theorem lays151 : Lays.n151 Try.prog ren := {
  mixed := by kernel_rfl
  f119 := Try.func78.trans (congrArg some (by kernel_rfl))
  f137 := Try.func77.trans (congrArg some (by kernel_rfl))
  f151 := Try.func66.trans (congrArg some (by kernel_rfl))
  f152 := Try.func73.trans (congrArg some (by kernel_rfl))
  f217 := Try.func83.trans (congrArg some (by kernel_rfl))
  f224 := Try.func79.trans (congrArg some (by kernel_rfl))
  f225 := Try.func80.trans (congrArg some (by kernel_rfl))
  f266 := Try.func84.trans (congrArg some (by kernel_rfl))
  t0 := Try.underlying0
  a0 := Try.isAgg0
  z0 := Try.sizeOf0
  v0 := Try.zeroValue0
  t3 := Try.underlying3
  a3 := Try.isAgg3
  z3 := Try.sizeOf3
  v3 := Try.zeroValue3
  t4 := Try.underlying4
  a4 := Try.isAgg4
  z4 := Try.sizeOf4
  v4 := Try.zeroValue4
  t5 := Try.underlying5
  a5 := Try.isAgg5
  z5 := Try.sizeOf5
  v5 := Try.zeroValue5
  t9 := Try.underlying9
  a9 := Try.isAgg9
  z9 := Try.sizeOf9
  v9 := Try.zeroValue9
  t21 := Try.underlying21
  a21 := Try.isAgg21
  z21 := Try.sizeOf21
  v21 := Try.zeroValue21
  t46 := Try.underlying127
  a46 := Try.isAgg127
  z46 := Try.sizeOf127
  v46 := Try.zeroValue127 }

end Go.Proofs.Ytcpdadppblbndaa

namespace Go.Proofs.Ytcpdadppblbndaa
open Go.RowKit Go.Shelf
set_option maxRecDepth 100000

/-- A character that is a mark. -/
def markI (c : Int) : Bool := decide (c = 124) || decide (c = 126) || decide (c = 40) || decide (c = 41) || decide (c = 44) || decide (c = 46)
abbrev marksB : ByteArray := ⟨#[124, 126, 40, 41, 44, 46]⟩
theorem mark_ascii (r : Int) (h0 : 0 ≤ r) (h1 : r < 128) : decide (0 ≤ Lib.indexByte marksB.data.toList r.toNat.toUInt8) = markI r := by
  obtain ⟨n, rfl⟩ := Int.eq_ofNat_of_zero_le h0
  have hn : n < 128 := by omega
  have key : ∀ m : Fin 128, decide (0 ≤ Lib.indexByte marksB.data.toList ((m.1 : Int).toNat.toUInt8)) = markI (m.1 : Int) := by decide
  exact key ⟨n, hn⟩
/-- The characters that a text gives. -/
def glyOk (c : Int) : Prop := c = -1 ∨ c = -2 ∨ Utf8.valid c = true

set_option maxHeartbeats 2000000 in
theorem indexRune_neg (c : Int) (w : World) (h : c < 0) : Calls Try.prog 73 #[.string marksB, .int .i32 c] w fun e w' => e = .returned (.int .i64 (-1)) ∧ Below w.heap.size w w' := by
  have h0 : ¬ (0 : Int) ≤ c := by omega
  have hf : (c == 65533) = false := by rw [beq_eq_false_iff_ne]; omega
  have hd : decide (0 ≤ c) = false := by simp; omega
  have hv : Lib.validRune c = false := by simp [Lib.validRune]; omega
  have CV := hide (fun wx => Any.utf8_ValidRune { lays151 with } c wx)
  rw [hv] at CV
  go_enter Try.func73, Try.ntmps73
  go_wp2_with (first
    | (go_at_call 78; refine (unhide CV _).mono ?_; rintro e w1 ⟨rfl, rfl⟩)
    | go_in)
  go_ret
  exact ⟨rfl, Below.refl _ _⟩

set_option maxHeartbeats 2000000 in
theorem indexRune_fffd (w : World) : Calls Try.prog 73 #[.string marksB, .int .i32 65533] w fun e w' => e = .returned (.int .i64 (-1)) ∧ Below w.heap.size w w' := by
  go_enter Try.func73, Try.ntmps73
  go_wp2
  go_loopw [] (fun wr => ∃ pos : Nat, pos ≤ 6 ∧ wr.heap[w.heap.size]? = some (.stringIter marksB pos) ∧ Below w.heap.size w wr) (fun wr => 6 - wr.iterPos w.heap.size)
  case atStart => exact ⟨0, by omega, by have := World.iter_heap w marksB 0; simpa using this, (Below.refl _ w).alloc (Nat.le_refl _) _⟩
  case round =>
    obtain ⟨pos, hpos, hit, hb⟩ := hrel
    have HB := hide hb
    have HIT := hide hit
    by_cases hp : pos < marksB.size
    · have hp6 : pos < 6 := hp
      have hc : (marksB[pos]'hp).toNat < 128 := by
        have : ∀ q : Fin 6, (marksB[q.1]'(by have := q.2; show q.1 < 6; omega)).toNat < 128 := by decide
        exact this ⟨pos, hp6⟩
      have hnx : ∀ ty, (Instr.next (.pointer (some ⟨w.heap.size, 0, none⟩)) true ty).run Try.prog wr = _ := fun ty => Lib.run_next_ascii_at wr w.heap.size marksB pos ty hit hp hc
      have HIT2 := hide (Lib.iterAt_heap wr w.heap.size marksB pos (pos + 1) hit)
      have HB2 := hide (Lib.below_iterAt hb (k := w.heap.size) (Nat.le_refl _) marksB (pos + 1))
      generalize (marksB[pos]'hp).toNat = cc at *
      have hcc : ((cc : Int) == 65533) = false := by rw [beq_eq_false_iff_ne]; omega
      clear hit hb
      go_wp2
      go_roundw
      case rel => exact ⟨pos + 1, by omega, HIT2.out, HB2.out⟩
      case measure => simp only [World.iterPos, HIT.out, HIT2.out]; omega
    · have hnx : ∀ ty, (Instr.next (.pointer (some ⟨w.heap.size, 0, none⟩)) true ty).run Try.prog wr = _ := fun ty => Lib.run_next_end_at wr w.heap.size marksB pos ty hit hp
      clear hit hb
      go_wp2
      go_ret
      exact ⟨rfl, HB.out⟩
theorem indexByte_no (c : UInt8) : ∀ l : List UInt8, (∀ b ∈ l, b ≠ c) → Lib.indexByte l c = -1 := by
  intro l
  induction l with
  | nil => intro _; rfl
  | cons x r ih =>
    intro h
    have h1 := ih fun b hb => h b (List.mem_cons_of_mem _ hb)
    have h2 : (x == c) = false := beq_eq_false_iff_ne.2 (h x (List.mem_cons_self ..))
    rw [Lib.indexByte, h2, h1]
    rfl
theorem marks_none (a : Nat) (c : UInt8) (h : 128 ≤ c.toNat) : Lib.indexByte (marksB.extract a 6).data.toList c = -1 := by
  refine indexByte_no c _ fun b hb e => ?_
  subst e
  have hm := mem_extract hb
  have hm : b ∈ [124, 126, 40, 41, 44, 46] := hm
  simp at hm
  rcases hm with rfl | rfl | rfl | rfl | rfl | rfl <;> simp at h

set_option maxHeartbeats 2000000 in
theorem indexRune_high (c : Int) (w : World) (hv : Utf8.valid c = true) (h128 : 128 ≤ c) (hf : c ≠ 65533) : Calls Try.prog 73 #[.string marksB, .int .i32 c] w fun e w' => e = .returned (.int .i64 (-1)) ∧ Below w.heap.size w w' := by
  have h0 : (0 : Int) ≤ c := by omega
  have h1 : ¬ c < 128 := by omega
  have hf0 : (c == 65533) = false := by rw [beq_eq_false_iff_ne]; exact hf
  have hv' : Lib.validRune c = true := by rw [← hv, validRune_eq]; rfl
  have CV := hide (fun wx => Any.utf8_ValidRune { lays151 with } c wx)
  rw [hv'] at CV
  obtain ⟨e2, e4, el⟩ := encode_facts c hv h128
  have CI := hide (fun (t : ByteArray) (b : Int) wx => Any.strings_IndexByte { lays151 with } t b wx)
  generalize hr : Utf8.encode c = rs at *
  rcases (show rs.size = 2 ∨ rs.size = 3 ∨ rs.size = 4 by omega) with hs | hs | hs
  · have hl : 128 ≤ (rs[1]'(by omega)).toNat := by have := el (by omega); simpa [hs] using this
    have hi1 : 1 < rs.size := by omega
    have hsz : (rs.size : Int) = 2 := by omega
    have hn0 := marks_none 2 (rs[1]'hi1) hl
    have hz : ((rs[1]'hi1).toNat : Int).toNat.toUInt8 = (rs[1]'hi1) := by simp
    have hne : (((marksB[1]'(by decide)).toNat : Int) != ((rs[1]'hi1).toNat : Int)) = true := by
      have : (marksB[1]'(by decide)).toNat = 126 := rfl
      rw [this]; simp; omega
    have hw2 : IntKind.i64.wrap 2 = 2 := by decide
    have CI2 : Hid (∀ wx, Calls Try.prog 77 #[.string (marksB.extract 2 6), .int .u8 ((rs[1]'hi1).toNat : Int)] wx fun e w' => e = .returned (.int .i64 (-1)) ∧ w' = wx) := hide fun wx => by
      have := CI.out (marksB.extract 2 6) ((rs[1]'hi1).toNat : Int) wx
      rw [hz, hn0] at this
      exact this
    clear hz hn0 el CI
    go_enter Try.func73, Try.ntmps73
    go_wp2_with (first
      | (go_at_call 78; refine (unhide CV _).mono ?_; rintro e w1 ⟨rfl, rfl⟩)
      | go_in)
    go_step3
    go_wp2
    go_loopw [9] (fun i wr => i = .int .i64 1 ∧ wr = w1) (fun _ _ => 0)
    case atStart => exact ⟨rfl, rfl⟩
    case round =>
      obtain ⟨rfl, rfl⟩ := hrel
      go_wp2
      go_step3
      go_wp2
      go_quiet (fail)
      go_wp2
      have hbq : Below wr.heap.size wr (wr.drewN nq) := below_drawn ⟨_, rfl⟩
      have HBQ := hide hbq
      clear hbq
      generalize wr.drewN nq = wq at *
      go_quiet ((go_at_call 77; exact Calls.quiet_of_same (unhide CI2 _)))
      go_wp2
      simp +zetaDelta only [Exit.inBlock, Exit.then, Exit.noGoto]
      go_ret
      exact ⟨rfl, HBQ.out.trans ((below_drawn ⟨_, rfl⟩).mono HBQ.out.size)⟩
  · have hl : 128 ≤ (rs[2]'(by omega)).toNat := by have := el (by omega); simpa [hs] using this
    have hi1 : 2 < rs.size := by omega
    have hsz : (rs.size : Int) = 3 := by omega
    have hn0 := marks_none 3 (rs[2]'hi1) hl
    have hz : ((rs[2]'hi1).toNat : Int).toNat.toUInt8 = (rs[2]'hi1) := by simp
    have hne : (((marksB[2]'(by decide)).toNat : Int) != ((rs[2]'hi1).toNat : Int)) = true := by
      have : (marksB[2]'(by decide)).toNat = 40 := rfl
      rw [this]; simp; omega
    have hw2 : IntKind.i64.wrap 3 = 3 := by decide
    have CI2 : Hid (∀ wx, Calls Try.prog 77 #[.string (marksB.extract 3 6), .int .u8 ((rs[2]'hi1).toNat : Int)] wx fun e w' => e = .returned (.int .i64 (-1)) ∧ w' = wx) := hide fun wx => by
      have := CI.out (marksB.extract 3 6) ((rs[2]'hi1).toNat : Int) wx
      rw [hz, hn0] at this
      exact this
    clear hz hn0 el CI
    go_enter Try.func73, Try.ntmps73
    go_wp2_with (first
      | (go_at_call 78; refine (unhide CV _).mono ?_; rintro e w1 ⟨rfl, rfl⟩)
      | go_in)
    go_step3
    go_wp2
    go_loopw [9] (fun i wr => i = .int .i64 2 ∧ wr = w1) (fun _ _ => 0)
    case atStart => exact ⟨rfl, rfl⟩
    case round =>
      obtain ⟨rfl, rfl⟩ := hrel
      go_wp2
      go_step3
      go_wp2
      go_quiet (fail)
      go_wp2
      have hbq : Below wr.heap.size wr (wr.drewN nq) := below_drawn ⟨_, rfl⟩
      have HBQ := hide hbq
      clear hbq
      generalize wr.drewN nq = wq at *
      go_quiet ((go_at_call 77; exact Calls.quiet_of_same (unhide CI2 _)))
      go_wp2
      simp +zetaDelta only [Exit.inBlock, Exit.then, Exit.noGoto]
      go_ret
      exact ⟨rfl, HBQ.out.trans ((below_drawn ⟨_, rfl⟩).mono HBQ.out.size)⟩
  · have hl : 128 ≤ (rs[3]'(by omega)).toNat := by have := el (by omega); simpa [hs] using this
    have hi1 : 3 < rs.size := by omega
    have hsz : (rs.size : Int) = 4 := by omega
    have hn0 := marks_none 4 (rs[3]'hi1) hl
    have hz : ((rs[3]'hi1).toNat : Int).toNat.toUInt8 = (rs[3]'hi1) := by simp
    have hne : (((marksB[3]'(by decide)).toNat : Int) != ((rs[3]'hi1).toNat : Int)) = true := by
      have : (marksB[3]'(by decide)).toNat = 41 := rfl
      rw [this]; simp; omega
    have hw2 : IntKind.i64.wrap 4 = 4 := by decide
    have CI2 : Hid (∀ wx, Calls Try.prog 77 #[.string (marksB.extract 4 6), .int .u8 ((rs[3]'hi1).toNat : Int)] wx fun e w' => e = .returned (.int .i64 (-1)) ∧ w' = wx) := hide fun wx => by
      have := CI.out (marksB.extract 4 6) ((rs[3]'hi1).toNat : Int) wx
      rw [hz, hn0] at this
      exact this
    clear hz hn0 el CI
    go_enter Try.func73, Try.ntmps73
    go_wp2_with (first
      | (go_at_call 78; refine (unhide CV _).mono ?_; rintro e w1 ⟨rfl, rfl⟩)
      | go_in)
    go_step3
    go_wp2
    go_loopw [9] (fun i wr => i = .int .i64 3 ∧ wr = w1) (fun _ _ => 0)
    case atStart => exact ⟨rfl, rfl⟩
    case round =>
      obtain ⟨rfl, rfl⟩ := hrel
      go_wp2
      go_step3
      go_wp2
      go_quiet (fail)
      go_wp2
      have hbq : Below wr.heap.size wr (wr.drewN nq) := below_drawn ⟨_, rfl⟩
      have HBQ := hide hbq
      clear hbq
      generalize wr.drewN nq = wq at *
      go_quiet ((go_at_call 77; exact Calls.quiet_of_same (unhide CI2 _)))
      go_wp2
      simp +zetaDelta only [Exit.inBlock, Exit.then, Exit.noGoto]
      go_ret
      exact ⟨rfl, HBQ.out.trans ((below_drawn ⟨_, rfl⟩).mono HBQ.out.size)⟩
theorem isMark_any (c : Int) (w : World) (h : glyOk c) : Calls Try.prog 52 #[.int .i32 c] w fun e w' => e = .returned (.bool (markI c)) ∧ Below w.heap.size w w' := by
  have CC : Calls Try.prog 66 #[.string marksB, .int .i32 c] w fun e w' => e = .returned (.bool (markI c)) ∧ Below w.heap.size w w' := by
    by_cases ha : 0 ≤ c ∧ c < 128
    · refine (Any.strings_ContainsRune_ascii lays151 marksB c w ha.1 ha.2).mono ?_
      rintro e w' ⟨rfl, rfl⟩
      exact ⟨by rw [mark_ascii c ha.1 ha.2], Below.refl _ _⟩
    · have hm : markI c = false := by
        unfold markI
        simp only [Bool.or_eq_false_iff, decide_eq_false_iff_not]
        omega
      have CI : Calls Try.prog 73 #[.string marksB, .int .i32 c] w fun e w' => e = .returned (.int .i64 (-1)) ∧ Below w.heap.size w w' := by
        by_cases hn : c < 0
        · exact indexRune_neg c w hn
        · by_cases hf : c = 65533
          · subst hf; exact indexRune_fffd w
          · refine indexRune_high c w ?_ (by omega) hf
            rcases h with h | h | h
            · omega
            · omega
            · exact h
      rw [hm]
      go_enter Try.func66, Try.ntmps66
      go_wp2_with (go_at_call 73; refine CI.mono ?_; rintro e w1 ⟨rfl, hb1⟩)
      go_ret
      exact ⟨rfl, hb1⟩
  go_enter Try.func52, Try.ntmps52
  go_wp2_with (go_at_call 66; refine CC.mono ?_; rintro e w1 ⟨rfl, hb1⟩)
  go_ret
  exact ⟨rfl, hb1⟩
theorem glyC_ok (s : ByteArray) (p : Nat) : glyOk (glyC s p) := by
  unfold glyC
  split
  · exact Or.inr (Or.inl rfl)
  · right; right
    rw [validRune_eq]
    unfold validRune
    rw [decide_eq_true_eq, Lib.decode_N]
    unfold Lib.decodeN
    repeat' split
    all_goals (simp only; omega)

end Go.Proofs.Ytcpdadppblbndaa

namespace Go.Proofs.Ytcpdadppblbndaa
open Go.RowKit Go.Shelf
set_option maxRecDepth 100000

theorem oneG (x : Int) (y : Int) : ∀ u ∈ [Value.int .i32 x, Value.int .i64 y], u.oneCell' = true := by
  intro u hu
  simp at hu
  rcases hu with rfl | rfl <;> rfl
theorem own_iter {w : World} {B : Nat} {e : TypeId} {size : Nat} {v : Value} {n : Nat} {xs : List Value} (h : w.ownsRow B e size v n xs) {k pos : Nat} {s : ByteArray} (hk : w.heap[k]? = some (.stringIter s pos)) (pos' : Nat) : (w.iterAt k s pos').ownsRow B e size v n xs := by
  obtain ⟨h1, ⟨rfl, h2⟩ | ⟨g, cap, cur, rfl, hb, hh, hc, hm, hz, ht⟩⟩ := h
  · exact ⟨h1, Or.inl ⟨rfl, h2⟩⟩
  · refine ⟨h1, Or.inr ⟨g, cap, cur, rfl, hb, ?_, hc, hm, hz, ht⟩⟩
    rw [Lib.iterAt_other _ _ _ _ _ (by rintro rfl; rw [hk] at hh; cases hh)]
    exact hh
theorem own_at' {w : World} {B : Nat} {e : TypeId} {size : Nat} {v : Value} {n : Nat} {xs : List Value} (h : w.ownsRow B e size v (n + 1) xs) : ∃ g c, v = .slice (some ⟨g, 0, none⟩) (n + 1) c := by
  obtain ⟨_, ⟨rfl, h2⟩ | ⟨g, cap, cur, rfl, _⟩⟩ := h
  · omega
  · exact ⟨g, cap, rfl⟩
/-- While the characters are listed. -/
structure GLoop (w : World) (s : ByteArray) (it : Nat) (v : Value) (pos : Nat) (G : List Gl) (wr : World) : Prop where
  le : pos ≤ s.size
  iter : wr.heap[it]? = some (.stringIter s pos)
  row : wr.ownsRow w.heap.size 106 2 v G.length (glyCells G)
  low : Below w.heap.size w wr
  high : w.heap.size ≤ it
  few : G.length ≤ pos
  eq : G ++ glyL s pos = glyL s 0
theorem GLoop.next {w : World} {s : ByteArray} {it : Nat} {v : Value} {pos : Nat} {G : List Gl} {wr : World} (h : GLoop w s it v pos G wr) (hp : pos < s.size) {v' : Value} {w1 : World} {X : Obj} (ho : w1.ownsRow w.heap.size 106 2 v' (G.length + 1) (glyCells G ++ [.int .i32 (glyC s pos), .int .i64 pos])) (hg : ((wr.iterAt it s (pos + (Utf8.decode s pos).2)).alloc X).grownBy w1 v.ownBlock) :
    GLoop w s it v' (pos + (Utf8.decode s pos).2) (G ++ [(glyC s pos, pos)]) w1 := by
  have h1 := (decode_pos s pos).1
  have hi2 := Lib.iterAt_heap wr it s pos (pos + (Utf8.decode s pos).2) h.iter
  have hlt := (Array.getElem?_eq_some_iff.1 hi2).1
  have hrow := own_iter h.row h.iter (pos + (Utf8.decode s pos).2)
  have hlow := Lib.below_iterAt h.low h.high s (pos + (Utf8.decode s pos).2)
  refine ⟨decode_in s pos hp, ?_, by rw [glyCells_snoc, List.length_append]; exact ho, ?_, h.high, by have := h.few; simp; omega, ?_⟩
  · rw [hg.block it (by simp; omega) ?_]
    · have hA := (Below.refl _ (wr.iterAt it s (pos + (Utf8.decode s pos).2))).alloc (Nat.le_refl _) X
      rw [hA.block it hlt]
      exact hi2
    · intro e
      obtain ⟨_, ⟨rfl, _⟩ | ⟨g, cap, cur, rfl, _, hh, _⟩⟩ := hrow
      · simp [Value.ownBlock] at e
      · simp [Value.ownBlock] at e
        subst e
        rw [hi2] at hh
        cases hh
  · exact (hlow.alloc hlow.size X).grown hg (by have := hlow.size; simp; omega) (fun k e => (own_lt hrow k e).1)
  · rw [List.append_assoc, ← h.eq, glyL_on hp]
    rfl

set_option maxHeartbeats 3000000 in
theorem glyphs_any (s : ByteArray) (w : World) (hs : s.size ≤ 3000) :
    Calls Try.prog 35 #[.string s] w fun e w' => ∃ g cap, e = .returned (.slice (some ⟨g, 0, none⟩) (glyL s 0).length cap) ∧ w'.ownsRow w.heap.size 106 2 (.slice (some ⟨g, 0, none⟩) (glyL s 0).length cap) (glyL s 0).length (glyCells (glyL s 0)) ∧ Below w.heap.size w w' := by
  obtain ⟨iG, hG, hG0, hG1, hG2⟩ := info_parts infoGlyph
  go_enter Try.func35, Try.ntmps35
  go_wp2_with (first
    | (at_make; refine wpList_make_own _ rfl _ _ 72 rfl w.heap.size 106 iG (.agg #[.int .i32 0, .int .i64 0]) 2 Try.underlying72 hG hG0 hG1 .i64 .i64 _ (s.size + 1) rfl rfl (by simp) (by rw [hG2]; omega) (by unfold maxLen; omega) (Nat.le_refl _) ?_; intro w1 ho1 hg1; have HR1 := hide ho1; have HB1 : Hid (Below w.heap.size w w1) := hide ((Below.refl _ w).grown hg1 (Nat.le_refl _) (fun k e => by cases e)); clear ho1 hg1)
    | go_in)
  have hw1 := HB1.out.size
  have HG0 : Hid (GLoop w s w1.heap.size (.slice (some ⟨w.heap.size, 0, none⟩) 0 (s.size + 1)) 0 [] (w1.iter s 0)) := hide ⟨Nat.zero_le _, by have := World.iter_heap w1 s 0; simpa using this, HR1.out.alloc _, HB1.out.alloc hw1 _, hw1, Nat.le_refl _, rfl⟩
  clear HR1 HB1
  generalize w1.heap.size = it at *
  go_loopw [3] (fun v wr => ∃ (pos : Nat) (G : List Gl), GLoop w s it v pos G wr) (fun _ wr => s.size - wr.iterPos it)
  case atStart => exact ⟨0, [], HG0.out⟩
  case round =>
    clear HG0
    obtain ⟨pos, G, hL⟩ := hrel
    have HL := hide hL
    have hit := hL.iter
    have hfew := hL.few
    have hle := hL.le
    have hlow := hL.low.size
    by_cases hp : pos < s.size
    · have hnx : ∀ ty, (Instr.next (.pointer (some ⟨it, 0, none⟩)) true ty).run Try.prog wr = _ := fun ty => Lib.run_next_any_at wr it s pos ty hit hp
      have hit2 := Lib.iterAt_heap wr it s pos (pos + (Utf8.decode s pos).2) hit
      have HIT := hide hit
      have HIT2 := hide hit2
      have HR2 := hide (own_iter hL.row hit (pos + (Utf8.decode s pos).2))
      have hz2 : (wr.iterAt it s (pos + (Utf8.decode s pos).2)).heap.size = wr.heap.size := Lib.iterAt_size _ _ _ _
      have HN := hide (fun (v' : Value) (w1 : World) (X : Obj) ho hg => HL.out.next hp (v' := v') (w1 := w1) (X := X) ho hg)
      obtain ⟨va, vc, rfl⟩ := own_shape hL.row
      have hpz : (0 : Int) ≤ (pos : Int) := by omega
      have hps : (pos : Int) ≤ (s.size : Int) := by omega
      have hd1 := (decode_pos s pos).1
      obtain ⟨dw, hdw⟩ : ∃ dw, (Utf8.decode s pos).2 = dw := ⟨_, rfl⟩
      obtain ⟨dc, hdc⟩ : ∃ dc, (Utf8.decode s pos).1 = dc := ⟨_, rfl⟩
      have hff := decode_fffd s pos
      have HGC : Hid (glyC s pos = if dc = 65533 ∧ dw = 1 then -2 else (dc : Int)) := hide (by unfold glyC; rw [hdc, hdw])
      rw [hdw, hdc] at hnx
      rw [hdw] at hit2 HIT2 HR2 hz2 HN hd1
      rw [hdw, hdc] at hff
      generalize glyC s pos = gc at *
      clear hit hL HL hdw hdc
      have hz3 : w.heap.size ≤ (wr.iterAt it s (pos + dw)).heap.size := by omega
      clear hz2
      generalize hW : wr.iterAt it s (pos + dw) = W at *
      by_cases hf : dc = 65533
      · subst hf
        have hpre : Lib.hasPrefix (s.extract pos s.size).data.toList [239, 191, 189] = !decide (dw = 1) := by
          have := hff rfl
          rw [← this]
          congr 1
          exact Lib.extract_to_end s pos
        have CP := hide (fun wx => Any.strings_HasPrefix lays99 (s.extract pos s.size) ⟨#[239, 191, 189]⟩ wx)
        rw [show (⟨#[239, 191, 189]⟩ : ByteArray).data.toList = [239, 191, 189] from rfl, hpre] at CP
        clear hpre hff
        by_cases h1 : dw = 1
        · subst h1
          have hgc : gc = -2 := by rw [HGC.out, if_pos ⟨rfl, rfl⟩]
          subst hgc
          go_wp2_with (first
            | (go_at_call 45; refine (unhide CP _).mono ?_; rintro e w1 ⟨rfl, rfl⟩)
            | (at_builtin; refine wpList_append_own _ rfl (.tmp 25) (.tmp 29) 72 rfl w.heap.size 106 iG (.agg #[.int .i32 0, .int .i64 0]) 2 16 Try.underlying72 hG hG0 hG1 hG2 rfl (by decide) _ _ _ rfl (HR2.out.alloc _) ⟨_, 0, none⟩ 1 1 [.int .i32 (-2), .int .i64 pos] rfl rfl (new2 w1 _ _ _ _ rfl) (oneG _ _) (by unfold maxLen; omega) (by omega) (by simp; omega) ?_; intro v3 w3 ho3 hg3 _; have HN3 := hide (HN.out _ _ _ ho3 hg3); obtain ⟨va3, vc3, rfl⟩ := own_shape ho3; clear ho3 hg3)
            | go_in)
          go_roundw
          case rel => exact ⟨_, _, HN3.out⟩
          case measure => simp only [World.iterPos, HIT.out, HN3.out.iter]; omega
        · have hgc : gc = ((65533 : Nat) : Int) := by rw [HGC.out, if_neg (fun h => h1 h.2)]
          subst hgc
          rw [decide_eq_false h1] at CP
          go_wp2_with (first
            | (go_at_call 45; refine (unhide CP _).mono ?_; rintro e w1 ⟨rfl, rfl⟩)
            | (at_builtin; refine wpList_append_own _ rfl (.tmp 25) (.tmp 29) 72 rfl w.heap.size 106 iG (.agg #[.int .i32 0, .int .i64 0]) 2 16 Try.underlying72 hG hG0 hG1 hG2 rfl (by decide) _ _ _ rfl (HR2.out.alloc _) ⟨_, 0, none⟩ 1 1 [.int .i32 65533, .int .i64 pos] rfl rfl (new2 w1 _ _ _ _ rfl) (oneG _ _) (by unfold maxLen; omega) (by omega) (by simp; omega) ?_; intro v3 w3 ho3 hg3 _; have HN3 := hide (HN.out _ _ _ ho3 hg3); obtain ⟨va3, vc3, rfl⟩ := own_shape ho3; clear ho3 hg3)
            | go_in)
          go_roundw
          case rel => exact ⟨_, _, HN3.out⟩
          case measure => simp only [World.iterPos, HIT.out, HN3.out.iter]; omega
      · have hf0 : ((dc : Int) == 65533) = false := by rw [beq_eq_false_iff_ne]; omega
        have hgc : gc = (dc : Int) := by rw [HGC.out, if_neg (fun h => hf h.1)]
        subst hgc
        go_wp2_with (first
          | (at_builtin; refine wpList_append_own _ rfl (.tmp 25) (.tmp 29) 72 rfl w.heap.size 106 iG (.agg #[.int .i32 0, .int .i64 0]) 2 16 Try.underlying72 hG hG0 hG1 hG2 rfl (by decide) _ _ _ rfl (HR2.out.alloc _) ⟨_, 0, none⟩ 1 1 [.int .i32 dc, .int .i64 pos] rfl rfl (new2 W _ _ _ _ rfl) (oneG _ _) (by unfold maxLen; omega) (by omega) (by simp; omega) ?_; intro v3 w3 ho3 hg3 _; have HN3 := hide (HN.out _ _ _ ho3 hg3); obtain ⟨va3, vc3, rfl⟩ := own_shape ho3; clear ho3 hg3)
          | go_in)
        go_roundw
        case rel => exact ⟨_, _, HN3.out⟩
        case measure => simp only [World.iterPos, HIT.out, HN3.out.iter]; omega
    · have hnx : ∀ ty, (Instr.next (.pointer (some ⟨it, 0, none⟩)) true ty).run Try.prog wr = _ := fun ty => Lib.run_next_end_at wr it s pos ty hit hp
      obtain ⟨va, vc, rfl⟩ := own_shape hL.row
      have HRW := hide hL.row
      have HLW := hide hL.low
      have HEQ : Hid (glyL s 0 = G ++ [(-1, s.size)]) := hide (by rw [← hL.eq, glyL_off hp])
      clear hL hit
      go_wp2_with (first
        | (at_builtin; refine wpList_append_own _ rfl (.tmp 31) (.tmp 35) 72 rfl w.heap.size 106 iG (.agg #[.int .i32 0, .int .i64 0]) 2 16 Try.underlying72 hG hG0 hG1 hG2 rfl (by decide) _ _ _ rfl (HRW.out.alloc _) ⟨_, 0, none⟩ 1 1 [.int .i32 (-1), .int .i64 s.size] rfl rfl (new2 wr _ _ _ _ rfl) (oneG _ _) (by unfold maxLen; omega) (by omega) (by simp; omega) ?_; intro v3 w3 ho3 hg3 _; have HO3 := hide ho3; have HG3 := hide hg3; obtain ⟨g3, c3, rfl⟩ := own_at' ho3; clear ho3 hg3)
        | go_in)
      go_ret
      have hl : (glyL s 0).length = G.length + 1 := by rw [HEQ.out]; simp
      rw [hl, HEQ.out, glyCells_snoc]
      exact ⟨g3, c3, rfl, HO3.out, (HLW.out.alloc HLW.out.size _).grown HG3.out (by have := HLW.out.size; simp; omega) (fun k e => (own_lt HRW.out k e).1)⟩

end Go.Proofs.Ytcpdadppblbndaa
