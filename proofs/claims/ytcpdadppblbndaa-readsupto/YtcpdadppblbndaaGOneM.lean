/- The program's Read from outside; the answer is one. The law reads a text. The law of Read. -/
import Derived.Test.YtcpdadppblbndaaGRead
import Derived.Test.YtcpdadppblbndaaSRd0M
import Derived.Deep.QuietTactic
import Derived.BigQuiet
import Derived.Test.YtcpdadppblbndaaBLk
namespace Go.Proofs.Ytcpdadppblbndaa
open Go.RowKit Go.WideMaps
set_option maxRecDepth 100000

theorem mRead_any (s : ByteArray) (w : World) (hs0 : s.size ≤ 140737488355328) : Calls Try.prog 6 #[.string s] w fun e w' => RdQ s w e w' := by
  have CS := hide (sRead_any s w hs0)
  go_enter Try.func6, Try.ntmps6
  go_wp2_with (first
    | (go_at_call 13; refine (unhide CS).mono ?_; rintro e w1 ⟨v, QV, at1, er1, rfl, h1, h2, h3⟩; have H1 := hide h1; have H2 := hide h2; have H3 := hide h3; clear h1 h2 h3)
    | go_in)
  go_returns
  exact ⟨_, QV, at1, er1, rfl, H1.out, H2.out, H3.out⟩
/-- The first of two that cannot stand is one. -/
theorem first_one {p : Nat → Prop} {i j : Nat} (hi : p i) (hj : p j) (h1 : ∀ k, k < i → ¬ p k) (h2 : ∀ k, k < j → ¬ p k) : i = j := by
  rcases Nat.lt_trichotomy i j with h | h | h
  · exact absurd hi (h2 i h)
  · exact h
  · exact absurd hj (h1 j h)
theorem NamedR.one {P : List Pl} {r r' : Int} (h : NamedR P r) (h' : NamedR P r') : r = r' := by
  rcases h with ⟨rfl, h⟩ | ⟨i, hi, hb, hf, rfl⟩
  · rcases h' with ⟨rfl, _⟩ | ⟨j, hj, hb', _, _⟩
    · rfl
    · exact absurd hb' (h j hj)
  · rcases h' with ⟨rfl, h'⟩ | ⟨j, hj, hb', hf', rfl⟩
    · exact absurd hb (h' i hi)
    · have : i = j := first_one (p := fun k => ∃ h, badPl P k h) ⟨hi, hb⟩ ⟨hj, hb'⟩ (fun k hk ⟨h, hx⟩ => hf k h hk hx) (fun k hk ⟨h, hx⟩ => hf' k h hk hx)
      subst this
      rfl
theorem ManyR.one {cs : List (Nat × List Lt)} {o o' : List (List Lt)} {a a' e e' : Int} (h : ManyR cs o a e) (h' : ManyR cs o' a' e') : o = o' ∧ a = a' ∧ e = e' := by
  rcases h with ⟨i, hi, hb, hf, rfl, rfl, rfl⟩ | ⟨h, rfl, rfl, rfl⟩
  · rcases h' with ⟨j, hj, hb', hf', rfl, rfl, rfl⟩ | ⟨h', _⟩
    · have : i = j := first_one (p := fun k => ∃ h, badCl cs k h) ⟨hi, hb⟩ ⟨hj, hb'⟩ (fun k hk ⟨h, hx⟩ => hf k h hk hx) (fun k hk ⟨h, hx⟩ => hf' k h hk hx)
      subst this
      exact ⟨rfl, rfl, rfl⟩
    · exact absurd hb (h' i hi)
  · rcases h' with ⟨j, hj, hb', _⟩ | ⟨_, rfl, rfl, rfl⟩
    · exact absurd hb' (h j hj)
    · exact ⟨rfl, rfl, rfl⟩
theorem RdSpec.one {s : ByteArray} {o o' : List (List Lt)} {a a' e e' : Int} (h : RdSpec s o a e) (h' : RdSpec s o' a' e') : o = o' ∧ a = a' ∧ e = e' := by
  rcases h with ⟨h3, rfl, rfl, rfl⟩ | ⟨h3, h⟩
  · rcases h' with ⟨_, rfl, rfl, rfl⟩ | ⟨h3', _⟩
    · exact ⟨rfl, rfl, rfl⟩
    · omega
  · rcases h' with ⟨h3', _⟩ | ⟨_, h'⟩
    · omega
    · cases hp : pAll s with
      | error p =>
        rw [hp] at h h'
        obtain ⟨rfl, rfl, rfl⟩ := h
        obtain ⟨rfl, rfl, rfl⟩ := h'
        exact ⟨rfl, rfl, rfl⟩
      | ok y =>
        obtain ⟨st, cs⟩ := y
        rw [hp] at h h'
        obtain ⟨r, hr, h⟩ := h
        obtain ⟨r', hr', h'⟩ := h'
        obtain rfl := hr.one hr'
        rcases h with ⟨h0, rfl, rfl, rfl⟩ | ⟨h0, h⟩
        · rcases h' with ⟨_, rfl, rfl, rfl⟩ | ⟨h0', _⟩
          · exact ⟨rfl, rfl, rfl⟩
          · omega
        · rcases h' with ⟨h0', _⟩ | ⟨_, h'⟩
          · omega
          · exact h.one h'

end Go.Proofs.Ytcpdadppblbndaa

namespace Go.Proofs.Ytcpdadppblbndaa
open Go.RowKit Go.Shelf
set_option maxRecDepth 100000

theorem lnum_any (x : Int) (w : World) : Calls Try.prog 8 #[.int .i64 x] w fun e w' => e = .returned (.int .i64 x) ∧ w' = w := by
  go_enter Try.func8, Try.ntmps8
  go_wp2
  go_ret
  exact ⟨rfl, rfl⟩
/-- A clause of a list. -/
theorem RdMem.clause {B : Nat} {w : World} {v : Value} {CV : List (List (Lt × Value) × Value)} {O : List (List Lt)} (h : RdMem B w v CV) (hO : CV.map (fun p => p.1.map Prod.fst) = O) {k : Nat} (hk : k < O.length) :
    ∃ g cap a c, v = .slice (some ⟨g, 0, none⟩) O.length cap ∧ w.cell? ⟨g, k, none⟩ = some (.slice a O[k].length c) ∧ LitsIn w a O[k] := by
  subst hO
  have hk' : k < CV.length := by simpa using hk
  obtain ⟨g, cap, hv⟩ := own_at h.1 (by omega)
  have hm := h.2 _ (List.getElem_mem hk')
  obtain ⟨a, c, hc, hl⟩ := lits_in hm.1.1 hm.1.2 hm.2.1 hm.2.2.1 (by have := hm.2.2.2; omega)
  have hr := h.1
  rw [hv] at hr
  refine ⟨g, cap, a, c, by rw [hv]; simp, ?_, by simpa using hl⟩
  rw [hr.cellAt k (by omega)]
  simp [hk', hc]
theorem RdMem.shape {B : Nat} {w : World} {v : Value} {CV : List (List (Lt × Value) × Value)} {O : List (List Lt)} (h : RdMem B w v CV) (hO : CV.map (fun p => p.1.map Prod.fst) = O) : ∃ a cap, v = .slice a O.length cap := by
  subst hO
  obtain ⟨a, c, hv⟩ := own_shape h.1
  exact ⟨a, c, by rw [hv]; simp⟩
/-- The book behind a text. -/
structure LdR (w : World) (B bk : Nat) (E : List (Value × Int)) (F : List LTri) (G : List GTri) (next : Int) (w' : World) (nv' mv' xv' yv' : Value) (E1 : List (Value × Int)) (F1 : List LTri) (G1 : List GTri) (next1 : Int) : Prop where
  book : Book2 w' B bk nv' mv' xv' yv' E1 F1 G1 next1
  lenE : E1.length ≤ E.length + 2560
  lenF : F1.length ≤ F.length + 80
  lenG : G1.length ≤ G.length + 2
  lo : next - 722 ≤ next1
  low : Below B w w'
/-- Three lists were read. -/
structure RSt (w : World) (v1 v2 v3 : Value) (O : List (List Lt)) (QV1 QV2 : List (List (Lt × Value) × Value)) (w1 w3 : World) : Prop where
  m1 : OrdMem w.heap.size w1 v1 QV1
  m1' : OrdMem w.heap.size w3 v1 QV1
  m2 : OrdMem w1.heap.size w3 v2 QV2
  m3 : ∃ B CV, RdMem B w3 v3 CV ∧ CV.map (fun p => p.1.map Prod.fst) = O
  o1 : QV1.map (fun p => p.1.map Prod.fst) = O
  o2 : QV2.map (fun p => p.1.map Prod.fst) = O
  low : Below w.heap.size w w3
  z1 : w.heap.size ≤ w1.heap.size ∧ w1.heap.size ≤ w3.heap.size
  few : O.length ≤ 40
  small : ∀ c ∈ O, c.length ≤ 8
section
variable {w w1 w2 w3 : World} {v1 v2 v3 : Value} {O : List (List Lt)} {QV1 QV2 CV : List (List (Lt × Value) × Value)} {s : ByteArray} {a e : Int}
theorem RSt.drawn (h : RSt w v1 v2 v3 O QV1 QV2 w1 w3) (n : Nat) : RSt w v1 v2 v3 O QV1 QV2 w1 (w3.drewN n) := by
  have hb : Below w3.heap.size w3 (w3.drewN n) := below_drawn ⟨n, rfl⟩
  have hs := hb.size
  obtain ⟨B, CV, hm, hc⟩ := h.m3
  have key : ∀ {e : TypeId} {s n' : Nat} {u : Value} {xs : List Value}, w3.ownsRow B e s u n' xs → (w3.drewN n).ownsRow B e s u n' xs := fun hu => own_below hu hb (Nat.le_refl _)
  exact ⟨h.m1, h.m1'.same fun k _ hk => hb.block k hk, h.m2.same fun k _ hk => hb.block k hk, ⟨B, CV, ⟨key hm.1, fun p hp => ⟨⟨key (hm.2 p hp).1.1, fun q hq => key ((hm.2 p hp).1.2 q hq)⟩, (hm.2 p hp).2⟩⟩, hc⟩, h.o1, h.o2, h.low.trans (hb.mono h.low.size), ⟨h.z1.1, Nat.le_trans h.z1.2 hs⟩, h.few, h.small⟩
theorem RSt.len (h : RSt w v1 v2 v3 O QV1 QV2 w1 w3) : (QV1.length ≤ 40 ∧ ∀ p ∈ QV1, p.1.length ≤ 8) ∧ (QV2.length ≤ 40 ∧ ∀ p ∈ QV2, p.1.length ≤ 8) := by
  have key : ∀ (QV : List (List (Lt × Value) × Value)), QV.map (fun p => p.1.map Prod.fst) = O → QV.length ≤ 40 ∧ ∀ p ∈ QV, p.1.length ≤ 8 := by
    intro QV hO
    have hf := h.few
    have hs := h.small
    rw [← hO] at hf hs
    refine ⟨by simpa using hf, fun p hp => ?_⟩
    have := hs _ (List.mem_map_of_mem hp)
    simpa using this
  exact ⟨key _ h.o1, key _ h.o2⟩
theorem RSt.of (h1 : RdSpec s (QV1.map fun p => p.1.map Prod.fst) a e) (m1 : OrdMem w.heap.size w1 v1 QV1) (b1 : Below w.heap.size w w1) (o2 : (QV1.map fun p => p.1.map Prod.fst) = QV2.map fun p => p.1.map Prod.fst) (m2 : OrdMem w1.heap.size w2 v2 QV2) (b2 : Below w1.heap.size w1 w2) (o3 : (QV1.map fun p => p.1.map Prod.fst) = CV.map fun p => p.1.map Prod.fst) (m3 : RdMem w2.heap.size w3 v3 CV) (b3 : Below w2.heap.size w2 w3) : RSt w v1 v2 v3 (QV1.map fun p => p.1.map Prod.fst) QV1 QV2 w1 w3 :=
  ⟨m1, m1.same fun k _ hk => by rw [b3.block k (Nat.lt_of_lt_of_le hk b2.size), b2.block k hk], m2.same fun k _ hk => b3.block k hk, ⟨_, CV, m3, o3.symm⟩, rfl, o2.symm, (b1.trans (b2.mono b1.size)).trans (b3.mono (Nat.le_trans b1.size b2.size)), ⟨b1.size, Nat.le_trans b2.size b3.size⟩, h1.few.1, h1.few.2⟩
end

set_option maxHeartbeats 4000000 in
theorem lread_any (B bk : Nat) (nv mv xv yv : Value) (E : List (Value × Int)) (F : List LTri) (G : List GTri) (next : Int) (s : ByteArray) (w : World) (h : Book2 w B bk nv mv xv yv E F G next) (hs : s.size ≤ 140737488355328) (hE : E.length ≤ 6000000000) (hF1 : F.length < 800000000) (hG1 : G.length < 800000000) (hnx : -6000000000 ≤ next) :
    Calls Try.prog 4 #[.pointer (some ⟨bk, 0, none⟩), .string s] w fun e w' => e = .returned (.bool true) ∧ ∃ nv' mv' xv' yv' E1 F1 G1 next1, LdR w B bk E F G next w' nv' mv' xv' yv' E1 F1 G1 next1 := by
  have C1 := hide (mRead_any s w hs)
  have HH := hide h
  clear h
  go_enter Try.func4, Try.ntmps4
  go_upto_region 4 with (first
    | (go_at_call 6; refine (unhide C2).mono ?_; rintro e w2 ⟨v2, QV2, at2, er2, rfl, hs2, hm2, hb2⟩; obtain ⟨o2, rfl, rfl⟩ := RdSpec.one HS1.out hs2; have HO2 := hide o2; have HM2 := hide hm2; have HB2 := hide hb2; have CR := hide (rRead_any s w2 hs); clear hs2 hm2 hb2 o2)
    | (go_at_call 6; refine (unhide C1).mono ?_; rintro e w1 ⟨v1, QV1, at1, er1, rfl, hs1, hm1, hb1⟩; have HS1 := hide hs1; have HM1 := hide hm1; have HB1 := hide hb1; have C2 := hide (mRead_any s w1 hs); clear hs1 hm1 hb1)
    | (go_at_call 7; refine (unhide CR).mono ?_; rintro e w3 ⟨v3, CV, at3, er3, rfl, hs3, hm3, hb3⟩; obtain ⟨o3, rfl, rfl⟩ := RdSpec.one HS1.out hs3; have HST := hide (RSt.of HS1.out HM1.out HB1.out HO2.out HM2.out HB2.out o3 hm3 hb3); clear hs3 hm3 hb3 o3)
    | go_in)
  clear C1 C2 CR HS1 HM1 HB1 HM2 HB2 HO2
  obtain ⟨O, hOO⟩ : ∃ O, (QV1.map fun p => p.1.map Prod.fst) = O := ⟨_, rfl⟩
  rw [hOO] at HST
  clear hOO
  obtain ⟨a1, c1, rfl⟩ := HST.out.m1.mem.shape HST.out.o1
  obtain ⟨a2, c2, rfl⟩ := HST.out.m2.mem.shape HST.out.o2
  obtain ⟨a3, c3, rfl⟩ : ∃ a cap, v3 = .slice a O.length cap := by
    obtain ⟨_, _, m, o⟩ := HST.out.m3
    exact m.shape o
  have h40 := HST.out.few
  go_wp2_with (first
    | (go_at_call 8; refine (lnum_any _ _).mono ?_; rintro e wx ⟨rfl, hwx⟩; rw [hwx]; clear hwx wx)
    | go_in)
  go_loopw [14, 15] (fun sm i wr => sm = .bool true ∧ ∃ k d : Nat, k ≤ O.length ∧ i = .int .i64 k ∧ wr = w3.drewN d) (fun _ i _ => O.length - (intOf i).toNat)
  case atStart => exact ⟨rfl, 0, 0, Nat.zero_le _, rfl, rfl⟩
  case round =>
    obtain ⟨rfl, k, d, hk, rfl, hwr⟩ := hrel
    have HST2 := hide (HST.out.drawn d)
    rw [← hwr] at HST2
    have HWR := hide hwr
    clear hwr
    by_cases hlt : k < O.length
    · have hlti : (k : Int) < (O.length : Int) := by omega
      obtain ⟨g1, cc1, b1, d1, hv1, e1, l1⟩ := HST2.out.m1'.mem.clause HST2.out.o1 hlt
      obtain ⟨g2, cc2, b2, d2, hv2, e2, l2⟩ := HST2.out.m2.mem.clause HST2.out.o2 hlt
      obtain ⟨g3, cc3, b3, d3, hv3, e3, l3⟩ : ∃ g cap a c, (Value.slice a3 O.length c3) = .slice (some ⟨g, 0, none⟩) O.length cap ∧ wr.cell? ⟨g, k, none⟩ = some (.slice a O[k].length c) ∧ LitsIn wr a O[k] := by
        obtain ⟨_, _, m, o⟩ := HST2.out.m3
        exact m.clause o hlt
      simp at hv1 hv2 hv3
      obtain ⟨rfl, rfl⟩ := hv1
      obtain ⟨rfl, rfl⟩ := hv2
      obtain ⟨rfl, rfl⟩ := hv3
      have CS1 := hide (fun n => sameClause_any b1 b3 d1 d3 O[k] O[k] (wr.drewN n) (l1.drewN n) (l3.drewN n))
      have CS2 := hide (fun n m => sameClause_any b2 b3 d2 d3 O[k] O[k] ((wr.drewN n).drewN m) ((l2.drewN n).drewN m) ((l3.drewN n).drewN m))
      generalize O[k] = ok at *
      clear l1 l2 l3
      go_wp2
      go_quiet ((go_at_call 9; exact Calls.quiet_of (unhide CS1 _)))
      go_wp2
      have e2' := Below.at' (below_drawn (w1 := wr.drewN nq) ⟨nq, rfl⟩) (Nat.le_refl _) e2
      have e3' := Below.at' (below_drawn (w1 := wr.drewN nq) ⟨nq, rfl⟩) (Nat.le_refl _) e3
      have CS3 := hide (fun m => unhide CS2 nq m)
      have HWQ : Hid (wr.drewN nq = w3.drewN (d + nq)) := hide (by rw [HWR.out, World.drewN_drewN])
      clear CS1 CS2 e1 e2 e3
      generalize wr.drewN nq = wq at *
      go_quiet ((go_at_call 9; exact Calls.quiet_of (unhide CS3 _)))
      go_wp2
      go_roundw
      case rel => exact ⟨by simp, k + 1, _, by omega, by go_num, by rw [HWQ.out, World.drewN_drewN]⟩
      case measure => simp [intOf]; omega
    · have hke : k = O.length := by omega
      subst hke
      have hlti : ¬ ((O.length : Int) < (O.length : Int)) := by omega
      obtain ⟨⟨f1, s1⟩, f2, s2⟩ := HST2.out.len
      have hBk := HH.out.base.high
      have hbl := HH.out.base.lt
      have hz := HST2.out.low.size
      have HB := hide (HH.out.below HST2.out.low)
      have HT1 := hide (Takes.first HH.out HST2.out.m1' f1 s1)
      have CO1 := hide (ownsClauses_any B bk nv mv xv yv (.slice a1 O.length c1) E F G next QV1 wr HB.out HT1.out (by omega) (by omega) (by omega) (by omega) (by omega))
      go_wp2_with (first
        | (go_at_call 10; refine (unhide CO2).mono ?_; rintro e w6 ⟨rfl, nv6, mv6, xv6, yv6, E6, F6, G6, next6, hr6⟩; have HR6 := hide hr6; clear hr6)
        | (go_at_call 10; refine (unhide CO1).mono ?_; rintro e w5 ⟨rfl, nv5, mv5, xv5, yv5, E5, F5, G5, next5, hr5⟩; have HR5 := hide hr5; have q1 := hr5.lenE; have q2 := hr5.lenF; have q3 := hr5.lenG; have q4 := hr5.lo; have q5 := hr5.far.size; have HT2 := hide (Takes.second HH.out HST2.out.z1 HST2.out.m1 HST2.out.m2 hr5 f2 s2); have CO2 := hide (ownsClauses_any B bk nv5 mv5 xv5 yv5 (.slice a2 O.length c2) E5 F5 G5 next5 QV2 w5 hr5.book HT2.out (by omega) (by omega) (by omega) (by omega) (by omega)); clear hr5)
        | go_in)
      go_ret
      have q6 := HR6.out.lenE
      have q7 := HR6.out.lenF
      have q8 := HR6.out.lenG
      have q9 := HR6.out.lo
      have w6' := (HST2.out.low.mono (B' := B) (by omega)).trans ((HR5.out.low HB.out HT1.out.mem).trans (HR6.out.low HR5.out.book HT2.out.mem))
      exact ⟨rfl, nv6, mv6, xv6, yv6, E6, F6, G6, next6, HR6.out.book, by omega, by omega, by omega, by omega, w6'⟩

end Go.Proofs.Ytcpdadppblbndaa

namespace Go.Proofs.Ytcpdadppblbndaa
open Go.RowKit Go.Shelf
set_option maxRecDepth 100000

abbrev nilV : Value := .slice none 0 0
theorem book2_new (w : World) : Book2 (w.alloc (.cells (bookC (nilV, nilV) nilV nilV 0) 31)) w.heap.size w.heap.size nilV nilV nilV nilV [] [] [] 0 := by
  have hh : (w.alloc (.cells (bookC (nilV, nilV) nilV nilV 0) 31)).heap[w.heap.size]? = some (.cells (bookC (nilV, nilV) nilV nilV 0) 31) := by
    show (w.heap.push _)[w.heap.size]? = _
    simp
  exact ⟨⟨hh, Nat.le_refl _, World.ownsRow_nil _ _ _ _, World.ownsRow_nil _ _ _ _, fun x hx => by simp at hx, by simp, by omega, by omega⟩, World.ownsRow_nil _ _ _ _, World.ownsRow_nil _ _ _ _, fun f hf => by simp at hf, fun f hf => by simp at hf, by simp, by simp, fun k hk => by simp at hk⟩
/-- Behind the first texts. -/
structure TSt (w : World) (k : Nat) (wr : World) (nv mv xv yv : Value) (E : List (Value × Int)) (F : List LTri) (G : List GTri) (next : Int) : Prop where
  book : Book2 wr w.heap.size w.heap.size nv mv xv yv E F G next
  lenE : E.length ≤ 2560 * (k + 1)
  lenF : F.length ≤ 80 * (k + 1)
  lenG : G.length ≤ 2 * (k + 1)
  lo : -722 * ((k : Int) + 1) ≤ next
  low : Below w.heap.size w wr

set_option maxHeartbeats 2000000 in
theorem lreads_any (a : Option Addr) (len cap : Nat) (Sx : Nat → ByteArray) (w : World) (h : ∀ i, i < len → ∃ b o, a = some ⟨b, o, none⟩ ∧ w.cell? ⟨b, o + i, none⟩ = some (.string (Sx i)) ∧ (Sx i).size ≤ 140737488355328) (hlen : len ≤ 1048576) :
    Calls Try.prog 3 #[.slice a len cap] w fun e w' => e = .returned (.bool true) ∧ Below w.heap.size w w' := by
  have HT := hide h
  have C0 := hide (lread_any w.heap.size w.heap.size nilV nilV nilV nilV [] [] [] 0 ⟨#[112, 40, 88, 41, 32, 124, 32, 126, 113, 40, 88, 44, 32, 97, 41, 46, 32, 113, 40, 89, 44, 32, 89, 41, 46]⟩ _ (book2_new w) (Nat.le_of_ble_eq_true rfl) (by simp) (by simp) (by simp) (by omega))
  have HA := hide ((Below.refl w.heap.size w).alloc (Nat.le_refl _) (.cells (bookC (nilV, nilV) nilV nilV 0) 31))
  clear h
  go_enter Try.func3, Try.ntmps3
  go_wp2_with (first
    | (go_at_call 4; refine (unhide C0).mono ?_; rintro e w1 ⟨rfl, nv1, mv1, xv1, yv1, E1, F1, G1, next1, hr⟩; have HS0 : Hid (TSt w 0 w1 nv1 mv1 xv1 yv1 E1 F1 G1 next1) := hide ⟨hr.book, by simpa using hr.lenE, by simpa using hr.lenF, by simpa using hr.lenG, by have := hr.lo; omega, HA.out.trans hr.low⟩; clear hr)
    | go_in)
  go_loopw [5] (fun c wr => ∃ (k : Nat) (nv mv xv yv : Value) (E : List (Value × Int)) (F : List LTri) (G : List GTri) (next : Int), k ≤ len ∧ c = .int .i64 k ∧ TSt w k wr nv mv xv yv E F G next) (fun c _ => len - (intOf c).toNat)
  case atStart => exact ⟨0, _, _, _, _, _, _, _, _, Nat.zero_le _, rfl, HS0.out⟩
  case round =>
    obtain ⟨k, nv, mv, xv, yv, E, F, G, next, hk, rfl, hS⟩ := hrel
    have h1 := hS.lenE
    have h2 := hS.lenF
    have h3 := hS.lenG
    have h4 := hS.lo
    by_cases hlt : k < len
    · have hlti : (k : Int) < (len : Int) := by omega
      obtain ⟨b, o, rfl, e0, hs⟩ := HT.out k hlt
      have e1 := Below.at' hS.low (Nat.le_refl _) e0
      have CL := hide (lread_any w.heap.size w.heap.size nv mv xv yv E F G next (Sx k) wr hS.book hs (by omega) (by omega) (by omega) (by omega))
      have HS := hide hS
      generalize Sx k = s at *
      clear hS e0
      go_wp2_with (first
        | (go_at_call 5; refine (unhide CK).mono ?_; rintro e w3 ⟨rfl, hb3⟩; have HS3 := hide (TSt.mk (w := w) (k := k + 1) (HR2.out.1.below hb3) HR2.out.2.1 HR2.out.2.2.1 HR2.out.2.2.2.1 HR2.out.2.2.2.2.1 (HR2.out.2.2.2.2.2.trans (hb3.mono HR2.out.2.2.2.2.2.size))); clear hb3)
        | (go_at_call 4; refine (unhide CL).mono ?_; rintro e w2 ⟨rfl, nv2, mv2, xv2, yv2, E2, F2, G2, next2, hr⟩; have q1 := hr.lenE; have q2 := hr.lenF; have q3 := hr.lenG; have q4 := hr.lo; have HR2 : Hid (Book2 w2 w.heap.size w.heap.size nv2 mv2 xv2 yv2 E2 F2 G2 next2 ∧ E2.length ≤ 2560 * (k + 1 + 1) ∧ F2.length ≤ 80 * (k + 1 + 1) ∧ G2.length ≤ 2 * (k + 1 + 1) ∧ -722 * (((k + 1 : Nat) : Int) + 1) ≤ next2 ∧ Below w.heap.size w w2) := hide ⟨hr.book, by omega, by omega, by omega, by omega, HS.out.low.trans hr.low⟩; have CK := hide (looks_any w.heap.size w.heap.size nv2 mv2 xv2 yv2 E2 F2 G2 next2 w2 hr.book); clear hr q1 q2 q3 q4)
        | go_in)
      go_roundw
      case rel => exact ⟨k + 1, _, _, _, _, _, _, _, _, by omega, by go_num, HS3.out⟩
      case measure => simp [intOf]; omega
    · have hke : k = len := by omega
      subst hke
      have HB := hide hS.low
      clear hS
      go_wp2
      go_ret
      exact ⟨rfl, HB.out⟩

end Go.Proofs.Ytcpdadppblbndaa
