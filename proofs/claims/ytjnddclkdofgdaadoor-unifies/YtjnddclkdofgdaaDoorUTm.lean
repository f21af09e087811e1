/- The program's terms, in memory; the leader of a place. -/
import Derived.Test.YtjnddclkdofgdaaDoorCSpecM
import Derived.Test.YtjnddclkdofgdaaDoorUEnds0M
import Derived.RangeFuncNested
import Derived.RangeFuncBound
import Derived.RangeFuncCalls
import Derived.RangeFuncLeaves
namespace Go.Proofs.YtjnddclkdofgdaaDoor
open Go.RowKit Go.Shelf Go.WideMaps
set_option maxRecDepth 100000

/-- Where the term at each place ends. -/
def endsL (L : List Nd) : List Nat := (List.range L.length).map fun p => p + endGo (L.drop p) 1
theorem endsL_length (L : List Nd) : (endsL L).length = L.length := by simp [endsL]
theorem endsL_at (L : List Nd) (p : Nat) (h : p < L.length) : (endsL L)[p]? = some (p + endGo (L.drop p) 1) := by simp [endsL, h]
abbrev natC (l : List Nat) : List Value := l.map fun x : Nat => Value.int .i64 x
/-- The nodes, their ends, leaders and sizes, in memory. -/
structure TmIn (w : World) (B tb : Nat) (vn ve vl vs vm : Value) (L : List Nd) (F : List Nat) (S : List Int) : Prop where
  box : w.heap[tb]? = some (.cells #[vn, ve, vl, vs, vm] 123)
  high : B ≤ tb
  rn : w.ownsRow B 27 2 vn L.length (nodeCells L)
  re : w.ownsRow B 3 1 ve L.length (natC (endsL L))
  rl : w.ownsRow B 3 1 vl L.length (natC F)
  rs : w.ownsRow B 3 1 vs L.length (S.map (Value.int .i64))
  lf : F.length = L.length
  ls : S.length = L.length
  few : L.length ≤ 1000000
  short : ∀ n ∈ L, n.1.size ≤ 140737488355328
  ab : ve.ownBlock ≠ vl.ownBlock
  ac : ve.ownBlock ≠ vs.ownBlock
  bc : vl.ownBlock ≠ vs.ownBlock
section
variable {w : World} {B tb : Nat} {vn ve vl vs vm : Value} {L : List Nd} {F : List Nat} {S : List Int}
theorem TmIn.c0 (h : TmIn w B tb vn ve vl vs vm L F S) : w.cell? ⟨tb, 0, none⟩ = some vn := by simp [World.cell?, h.box]
theorem TmIn.c1 (h : TmIn w B tb vn ve vl vs vm L F S) : w.cell? ⟨tb, 1, none⟩ = some ve := by simp [World.cell?, h.box]
theorem TmIn.c2 (h : TmIn w B tb vn ve vl vs vm L F S) : w.cell? ⟨tb, 2, none⟩ = some vl := by simp [World.cell?, h.box]
theorem TmIn.c3 (h : TmIn w B tb vn ve vl vs vm L F S) : w.cell? ⟨tb, 3, none⟩ = some vs := by simp [World.cell?, h.box]
theorem TmIn.c4 (h : TmIn w B tb vn ve vl vs vm L F S) : w.cell? ⟨tb, 4, none⟩ = some vm := by simp [World.cell?, h.box]
theorem TmIn.soft (h : TmIn w B tb vn ve vl vs vm L F S) (j : Nat) : w.frozen? ⟨tb, j, none⟩ = false := by simp [World.frozen?, h.box]
/-- A row of numbers, as the walks read it. -/
theorem row_nats {w : World} {B : Nat} {v : Value} {l : List Nat} {n : Nat} (h : w.ownsRow B 3 1 v n (natC l)) (hl : l.length = n) :
    ∃ a cap, v = .slice a n cap ∧ ∀ k (h : k < l.length), ∃ g, a = some ⟨g, 0, none⟩ ∧ w.cell? ⟨g, k, none⟩ = some (.int .i64 l[k]) := by
  subst hl
  exact own_nats h
theorem row_ints {w : World} {B : Nat} {v : Value} {l : List Int} {n : Nat} (h : w.ownsRow B 3 1 v n (l.map (Value.int .i64))) (hl : l.length = n) :
    ∃ a cap, v = .slice a n cap ∧ ∀ k (h : k < l.length), ∃ g, a = some ⟨g, 0, none⟩ ∧ w.cell? ⟨g, k, none⟩ = some (.int .i64 l[k]) := by
  subst hl
  exact own_ints h
/-- Blocks stay as they were, but for one. -/
theorem own_grown {w w' : World} {B : Nat} {e : TypeId} {size : Nat} {v : Value} {n : Nat} {xs : List Value} {o : Option Nat} (h : w.ownsRow B e size v n xs) (hg : w.grownBy w' o) (ho : v.ownBlock = none ∨ v.ownBlock ≠ o) : w'.ownsRow B e size v n xs := by
  obtain ⟨h1, ⟨rfl, h2⟩ | ⟨g, cap, cur, rfl, hb, hh, hr⟩⟩ := h
  · exact ⟨h1, Or.inl ⟨rfl, h2⟩⟩
  · refine ⟨h1, Or.inr ⟨g, cap, cur, rfl, hb, ?_, hr⟩⟩
    rw [hg.block g (Array.getElem?_eq_some_iff.1 hh).1 ?_, hh]
    rintro rfl
    rcases ho with ho | ho
    · simp [Value.ownBlock] at ho
    · simp [Value.ownBlock] at ho
/-- A row's block is no struct's. -/
theorem own_ne_box {w : World} {B tb : Nat} {e T : TypeId} {size : Nat} {v : Value} {n : Nat} {xs : List Value} {cs : Array Value} (h : w.ownsRow B e size v n xs) (hb : w.heap[tb]? = some (.cells cs T)) (he : e ≠ T) : v.ownBlock ≠ some tb := by
  obtain ⟨_, ⟨rfl, _⟩ | ⟨g, cap, cur, rfl, _, hg, _⟩⟩ := h
  · simp [Value.ownBlock]
  · simp [Value.ownBlock]
    rintro rfl
    rw [hg] at hb
    simp at hb
    exact he hb.2
theorem TmIn.below (h : TmIn w B tb vn ve vl vs vm L F S) {wx : World} (k : Below w.heap.size w wx) : TmIn wx B tb vn ve vl vs vm L F S :=
  ⟨by rw [k.block tb (Array.getElem?_eq_some_iff.1 h.box).1, h.box], h.high, own_below h.rn k (Nat.le_refl _), own_below h.re k (Nat.le_refl _), own_below h.rl k (Nat.le_refl _), own_below h.rs k (Nat.le_refl _), h.lf, h.ls, h.few, h.short, h.ab, h.ac, h.bc⟩
theorem TmIn.drewN (h : TmIn w B tb vn ve vl vs vm L F S) (d : Nat) : TmIn (w.drewN d) B tb vn ve vl vs vm L F S := h.below (below_drawn ⟨d, rfl⟩)
/-- What is no block of theirs may turn. -/
theorem TmIn.grown (h : TmIn w B tb vn ve vl vs vm L F S) {wx : World} {o : Option Nat} (hg : w.grownBy wx o) (h0 : o ≠ some tb) (h1 : vn.ownBlock = none ∨ vn.ownBlock ≠ o) (h2 : ve.ownBlock = none ∨ ve.ownBlock ≠ o) (h3 : vl.ownBlock = none ∨ vl.ownBlock ≠ o) (h4 : vs.ownBlock = none ∨ vs.ownBlock ≠ o) : TmIn wx B tb vn ve vl vs vm L F S :=
  ⟨by rw [hg.block tb (Array.getElem?_eq_some_iff.1 h.box).1 (fun e => h0 e.symm), h.box], h.high, own_grown h.rn hg h1, own_grown h.re hg h2, own_grown h.rl hg h3, own_grown h.rs hg h4, h.lf, h.ls, h.few, h.short, h.ab, h.ac, h.bc⟩
theorem own_cells {w : World} {B : Nat} {e : TypeId} {size : Nat} {v : Value} {n : Nat} {xs : List Value} (h : w.ownsRow B e size v n xs) {r : Nat} (hr : v.ownBlock = some r) : ∃ o : Obj, w.heap[r]? = some o ∧ o.isCells = true := by
  obtain ⟨_, ⟨rfl, _⟩ | ⟨g, cap, cur, rfl, _, hg, _⟩⟩ := h
  · simp [Value.ownBlock] at hr
  · simp [Value.ownBlock] at hr
    subst hr
    exact ⟨_, hg, rfl⟩
theorem own_not {w : World} {B : Nat} {e : TypeId} {size : Nat} {v : Value} {n : Nat} {xs : List Value} (h : w.ownsRow B e size v n xs) {o : Option Nat} (ho : ∀ r, o = some r → ∃ x : Obj, w.heap[r]? = some x ∧ x.isCells = false) : v.ownBlock = none ∨ v.ownBlock ≠ o := by
  cases hv : v.ownBlock with
  | none => exact Or.inl rfl
  | some g =>
    right
    intro e
    obtain ⟨x, h1, h2⟩ := ho g e.symm
    obtain ⟨y, h3, h4⟩ := own_cells h hv
    rw [h1] at h3
    simp at h3
    subst h3
    rw [h2] at h4
    cases h4
/-- What is no cells may turn. -/
theorem TmIn.others (h : TmIn w B tb vn ve vl vs vm L F S) {wx : World} {o : Option Nat} (hg : w.grownBy wx o) (ho : ∀ r, o = some r → ∃ x : Obj, w.heap[r]? = some x ∧ x.isCells = false) : TmIn wx B tb vn ve vl vs vm L F S :=
  h.grown hg (fun e => by obtain ⟨x, h1, h2⟩ := ho tb e; rw [h.box] at h1; simp at h1; subst h1; cases h2) (own_not h.rn ho) (own_not h.re ho) (own_not h.rl ho) (own_not h.rs ho)
/-- One leader is another. -/
theorem natC_set (F : List Nat) (a b : Nat) : (natC F).set a (.int .i64 b) = natC (F.set a b) := by rw [← List.map_set]
theorem TmIn.lead {gl cl : Nat} (h : TmIn w B tb vn ve (.slice (some ⟨gl, 0, none⟩) L.length cl) vs vm L F S) (a b : Nat) : TmIn (w.setCell ⟨gl, a, none⟩ (.int .i64 b)) B tb vn ve (.slice (some ⟨gl, 0, none⟩) L.length cl) vs vm L (F.set a b) S ∧ w.grownBy (w.setCell ⟨gl, a, none⟩ (.int .i64 b)) (some gl) := by
  have hg := grown_setCell w ⟨gl, a, none⟩ (.int .i64 b)
  refine ⟨⟨?_, h.high, own_grown h.rn hg ?_, own_grown h.re hg (Or.inr h.ab), ?_, own_grown h.rs hg (Or.inr fun e => h.bc e.symm), by rw [List.length_set]; exact h.lf, h.ls, h.few, h.short, h.ab, h.ac, h.bc⟩, hg⟩
  · rw [hg.block tb (Array.getElem?_eq_some_iff.1 h.box).1 (fun e => own_ne_box h.rl h.box (by decide) e.symm), h.box]
  · rcases own_apart h.rn h.rl (by decide) with e | e
    · exact Or.inl e
    · exact Or.inr e
  · have r := (h.rl.stored a (.int .i64 b)).1
    rw [natC_set] at r
    exact r
end

/-- The leader of a place. -/
theorem uLeader_any (B tb : Nat) (vn ve vl vs vm : Value) (L : List Nd) (F : List Nat) (S : List Int) (rt d : Nat → Nat) (p : Nat) (w : World) (h : TmIn w B tb vn ve vl vs vm L F S) (hF : Forest F rt d) (hp : p < L.length) :
    Calls Tryd.prog 100 #[.pointer (some ⟨tb, 0, none⟩), .int .i64 p] w fun e w' => e = .returned (.int .i64 (rt p)) ∧ w' = w := by
  obtain ⟨al, cl, rfl, hl⟩ := row_nats h.rl h.lf
  have c2 := h.c2
  have HL := hide hl
  have HF := hide hF
  have hlf := h.lf
  have hfew := h.few
  have HLF := hide hlf
  clear hl hF h hlf
  go_enter Tryd.func100, Tryd.ntmps100
  go_wp2
  go_loop [1] (fun q => ∃ k : Nat, k < L.length ∧ rt k = rt p ∧ q = .int .i64 k) (fun q => d (intOf q).toNat)
  case atStart => exact ⟨p, hp, rfl, rfl⟩
  case round =>
    obtain ⟨k, hk, hr, rfl⟩ := hrel
    obtain ⟨g, rfl, e1⟩ := HL.out k (by rw [HLF.out]; exact hk)
    have hki : (k : Int) < (L.length : Int) := by omega
    have hkf : k < F.length := by rw [HLF.out]; exact hk
    have hq : F[k]? = some F[k] := List.getElem?_eq_getElem hkf
    have hql := HF.out.lt k _ hq
    have hst := HF.out.step k _ hq
    have hro := HF.out.root k
    generalize F[k] = q at *
    by_cases e : q = k
    · have HR : Hid (rt p = k) := hide (by rw [← hr]; exact hro (by rw [hq, e]))
      have hb : ((q : Int) != (k : Int)) = false := by rw [e]; simp
      clear hst hro hq hr
      subst e
      clear hb
      go_wp2
      go_ret
      exact ⟨ret_int (by rw [HR.out]), rfl⟩
    · have hb : ((q : Int) != (k : Int)) = true := by rw [bne_iff_ne]; omega
      have HS := hide (hst e)
      have HR := hide hr
      have HQ := hide (show q < L.length by rw [← HLF.out]; exact hql)
      clear hst hro hq hr hql
      go_wp2
      go_round
      case rel => exact ⟨q, HQ.out, by rw [← HS.out.1]; exact HR.out, rfl⟩
      case measure => have := HS.out.2; simpa [intOf] using this

end Go.Proofs.YtjnddclkdofgdaaDoor
