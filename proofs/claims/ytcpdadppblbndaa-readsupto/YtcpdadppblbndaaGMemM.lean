/- The program's parser in memory, and what stays while it reads. The program's parser: a variable, or what begins no term. -/
import Derived.Test.YtcpdadppblbndaaGTokM
import Derived.Test.YtcpdadppblbndaaSCl2
import Derived.Deep.RegionLaw
namespace Go.Proofs.Ytcpdadppblbndaa
open Go.RowKit Go.WideMaps
set_option maxRecDepth 100000

/-- Blocks that stay: all but the parser's box, the map, rows of numbers from B on, and rows of nodes from B' on. -/
structure KeptQ (B B' mg : Nat) (w w' : World) : Prop where
  os : w'.os = w.os
  tape : w'.tape = w.tape
  output : w'.output = w.output
  size : w.heap.size ≤ w'.heap.size
  block : ∀ k, k < w.heap.size → (k < B ∨ (k ≠ mg ∧ ∀ cs T fr, w.heap[k]? = some (.cells cs T fr) → T ≠ 3 ∧ T ≠ 78 ∧ (T = 46 → k < B'))) → w'.heap[k]? = w.heap[k]?
theorem KeptQ.refl (B B' mg : Nat) (w : World) : KeptQ B B' mg w w := ⟨rfl, rfl, rfl, Nat.le_refl _, fun _ _ _ => rfl⟩
theorem KeptQ.trans {B B' mg : Nat} {a b c : World} (h : KeptQ B B' mg a b) (k : KeptQ B B' mg b c) : KeptQ B B' mg a c :=
  ⟨k.os.trans h.os, k.tape.trans h.tape, k.output.trans h.output, Nat.le_trans h.size k.size, fun i hi hc => by
    have e := h.block i hi hc
    rw [k.block i (Nat.lt_of_lt_of_le hi h.size) (by rw [e]; exact hc), e]⟩
theorem KeptQ.of_below {B B' mg : Nat} {w w' : World} (h : Below w.heap.size w w') : KeptQ B B' mg w w' := ⟨h.os, h.tape, h.output, h.size, fun k hk _ => h.block k hk⟩
theorem KeptQ.below {B B' mg : Nat} {w w' : World} (h : KeptQ B B' mg w w') (hB : B ≤ w.heap.size) : Below B w w' := ⟨h.os, h.tape, h.output, h.size, fun k hk => h.block k (by omega) (Or.inl hk)⟩
theorem KeptQ.mono {B B1 B2 mg : Nat} {w w' : World} (h : KeptQ B B2 mg w w') (hB : B1 ≤ B2) : KeptQ B B1 mg w w' :=
  ⟨h.os, h.tape, h.output, h.size, fun k hk hc => h.block k hk (hc.imp id fun ⟨h0, hc⟩ => ⟨h0, fun cs T fr he => by
    obtain ⟨h1, h2, h3⟩ := hc cs T fr he
    exact ⟨h1, h2, fun e => Nat.lt_of_lt_of_le (h3 e) hB⟩⟩)⟩
theorem KeptQ.grownBox {B B' mg : Nat} {a w w' : World} {pb : Nat} {left : Value} {k x : Int} {wd : ByteArray} {vC vP vM : Value} (h : KeptQ B B' mg a w) (hb : ParBox w pb left k x wd vC vP vM) (hp : B ≤ pb) (hg : w.grownBy w' (some pb)) : KeptQ B B' mg a w' := by
  refine h.trans ⟨hg.os, hg.tape, hg.output, hg.size, fun k hk hc => hg.block k hk ?_⟩
  intro e
  simp at e
  subst e
  rcases hc with hc | ⟨_, hc⟩
  · omega
  · exact (hc _ _ _ hb).2.1 rfl
theorem KeptQ.grownMap {B B' mg : Nat} {a w w' : World} (h : KeptQ B B' mg a w) (hm : B ≤ mg) (hg : w.grownBy w' (some mg)) : KeptQ B B' mg a w' := by
  refine h.trans ⟨hg.os, hg.tape, hg.output, hg.size, fun k hk hc => hg.block k hk ?_⟩
  intro e
  simp at e
  subst e
  rcases hc with hc | ⟨hc, _⟩
  · omega
  · exact hc rfl
theorem KeptQ.grownRow {B B' mg B0 : Nat} {a w w' : World} {e : TypeId} {size : Nat} {v : Value} {n : Nat} {xs : List Value} (h : KeptQ B B' mg a w) (ho : w.ownsRow B0 e size v n xs) (hB : B ≤ B0) (he : e = 3 ∨ e = 46 ∧ B' ≤ B0) (hg : w.grownBy w' v.ownBlock) : KeptQ B B' mg a w' := by
  refine h.trans ⟨hg.os, hg.tape, hg.output, hg.size, fun k hk hc => hg.block k hk ?_⟩
  intro e'
  obtain ⟨_, ⟨rfl, _⟩ | ⟨g, cap, cur, rfl, hb, hh, _⟩⟩ := ho
  · simp [Value.ownBlock] at e'
  · simp [Value.ownBlock] at e'
    subst e'
    rcases hc with hc | ⟨_, hc⟩
    · omega
    · obtain ⟨h1, _, h4⟩ := hc _ _ _ hh
      rcases he with rfl | ⟨rfl, hx⟩
      · exact h1 rfl
      · have := h4 rfl
        omega
theorem KeptQ.own {B B' mg B0 : Nat} {w w' : World} {e : TypeId} {size : Nat} {v : Value} {n : Nat} {xs : List Value} (h : KeptQ B B' mg w w') (ho : w.ownsRow B0 e size v n xs) (he : e ≠ 3 ∧ e ≠ 78) (hn : e = 46 → w.heap.size ≤ B') (hmg : v.ownBlock ≠ some mg) : w'.ownsRow B0 e size v n xs := by
  obtain ⟨h1, ⟨rfl, h2⟩ | ⟨g, cap, cur, rfl, hb, hh, hc, hm', hz, ht⟩⟩ := ho
  · exact ⟨h1, Or.inl ⟨rfl, h2⟩⟩
  · have hlt := (Array.getElem?_eq_some_iff.1 hh).1
    refine ⟨h1, Or.inr ⟨g, cap, cur, rfl, hb, ?_, hc, hm', hz, ht⟩⟩
    rw [h.block g hlt (Or.inr ⟨fun e' => hmg (by rw [e']; rfl), fun cs T fr hx => ?_⟩)]
    · exact hh
    · rw [hh] at hx
      simp at hx
      obtain ⟨_, rfl, _⟩ := hx
      exact ⟨he.1, he.2, fun e' => by have := hn e'; omega⟩
theorem ParBox.apart {w : World} {pb : Nat} {left : Value} {k a : Int} {wd : ByteArray} {vC vP vM : Value} (h : ParBox w pb left k a wd vC vP vM) {B : Nat} {e : TypeId} {size : Nat} {v : Value} {n : Nat} {xs : List Value} (ho : w.ownsRow B e size v n xs) (he : e ≠ 78) : v.ownBlock = none ∨ v.ownBlock ≠ some pb := by
  obtain ⟨_, ⟨rfl, _⟩ | ⟨g, cap, cur, rfl, _, hh, _⟩⟩ := ho
  · exact Or.inl rfl
  · right
    intro hx
    simp [Value.ownBlock] at hx
    subst hx
    unfold ParBox at h
    rw [hh] at h
    simp at h
    exact he h.2
/-- A row is no map. -/
theorem row_no_map {w : World} {B : Nat} {e : TypeId} {size : Nat} {v : Value} {n mg k : Nat} {xs : List Value} {D : DataW Unit} (h : w.ownsRow B e size v n xs) (hm : w.ownsMap Try.prog 9 sElem mg k D) : v.ownBlock ≠ some mg := by
  obtain ⟨es, cl, hh, _⟩ := hm
  intro e'
  obtain ⟨_, ⟨rfl, _⟩ | ⟨g, cap, cur, rfl, _, hh', _⟩⟩ := h
  · simp [Value.ownBlock] at e'
  · simp [Value.ownBlock] at e'
    subst e'
    rw [hh] at hh'
    cases hh'
theorem box_no_map {w : World} {pb : Nat} {left : Value} {k a : Int} {wd : ByteArray} {vC vP vM : Value} {mg n : Nat} {D : DataW Unit} (h : ParBox w pb left k a wd vC vP vM) (hm : w.ownsMap Try.prog 9 sElem mg n D) : pb ≠ mg := by
  obtain ⟨es, cl, hh, _⟩ := hm
  rintro rfl
  unfold ParBox at h
  rw [hh] at h
  cases h
/-- The parser in memory. -/
structure QIn (B : Nat) (w : World) (pb : Nat) (s : ByteArray) (T : List Tk) (st : PSt) (g : Nat) (vC vP : Value) (mg : Nat) : Prop where
  pp : PPx B w pb s T st.i g vC vP (.map (some mg))
  places : w.ownsRow B 3 1 vP st.places.length (atsP st.places)
  map : ∃ D, w.ownsMap Try.prog 9 sElem mg st.vars.length D ∧ SNumIs D st.vars
  mhigh : B ≤ mg
section
variable {B : Nat} {w w' : World} {pb : Nat} {s : ByteArray} {T : List Tk} {i g : Nat} {vC vP vM : Value}
theorem PPx.below (h : PPx B w pb s T i g vC vP vM) (k : Below w.heap.size w w') : PPx B w' pb s T i g vC vP vM := by
  obtain ⟨q, j, m, c, hP⟩ := h
  exact ⟨q, j, m, c, hP.sc.below k, hP.lt, hP.on⟩
theorem PPx.box (h : PPx B w pb s T i g vC vP vM) : ∃ left, ParBox w pb left (kindP (tkA T i).kind) (tkA T i).pos (tkA T i).txt vC vP vM ∧ B ≤ pb := by
  obtain ⟨q, j, m, c, hP⟩ := h
  exact ⟨_, hP.sc.box, hP.sc.high⟩
theorem PPx.lt (h : PPx B w pb s T i g vC vP vM) : i < T.length := by
  obtain ⟨q, j, m, c, hP⟩ := h
  exact hP.lt
/-- Another block is written. -/
theorem PPx.far (h : PPx B w pb s T i g vC vP vM) {row : Option Nat} (hg : w.grownBy w' row) (h1 : row ≠ some pb) (h2 : row ≠ some g) : PPx B w' pb s T i g vC vP vM := by
  obtain ⟨q, j, m, c, hP⟩ := h
  refine ⟨q, j, m, c, ⟨?_, hP.sc.high, hP.sc.row.kept hg (Or.inr fun e => h2 (by rw [← e]; rfl)), hP.sc.len, hP.sc.drop, hP.sc.le⟩, hP.lt, hP.on⟩
  have hb := hP.sc.box
  have hlt := hb.lt
  unfold ParBox at hb ⊢
  rw [hg.block pb hlt (fun e => h1 e.symm)]
  exact hb
/-- What the glyphs' block is not. -/
theorem PPx.glyph (h : PPx B w pb s T i g vC vP vM) : ∃ cs fr, w.heap[g]? = some (.cells cs 106 fr) := by
  obtain ⟨q, j, m, c, hP⟩ := h
  obtain ⟨_, ⟨e, _⟩ | ⟨g', cap, cur, e, _, hh, _⟩⟩ := hP.sc.row
  · simp at e
  · simp at e
    obtain ⟨rfl, _⟩ := e
    exact ⟨_, _, hh⟩
end

section
variable {B : Nat} {w w' w2 : World} {pb : Nat} {s : ByteArray} {T : List Tk} {st : PSt} {g mg : Nat} {vC vP : Value}
theorem QIn.below (h : QIn B w pb s T st g vC vP mg) (k : Below w.heap.size w w') : QIn B w' pb s T st g vC vP mg := by
  obtain ⟨D, h1, h2⟩ := h.map
  exact ⟨h.pp.below k, own_below h.places k (Nat.le_refl _), ⟨D, h1.kept (below_grown k none) (by simp), h2⟩, h.mhigh⟩
/-- A token is taken. -/
theorem QIn.take (h : QIn B w pb s T st g vC vP mg) {i' : Nat} (hg : w.grownBy w' (some pb)) (hp : PPx B w' pb s T i' g vC vP (.map (some mg))) : QIn B w' pb s T ⟨i', st.vars, st.places⟩ g vC vP mg := by
  obtain ⟨D, h1, h2⟩ := h.map
  obtain ⟨left, hb, _⟩ := h.pp.box
  exact ⟨hp, h.places.kept hg (hb.apart h.places (by decide)), ⟨D, h1.kept hg (by simpa using fun e => box_no_map hb h1 e.symm), h2⟩, h.mhigh⟩
theorem PPx.row_apart {i : Nat} {vM : Value} (h : PPx B w pb s T i g vC vP vM) {B0 : Nat} {e : TypeId} {size : Nat} {v : Value} {n : Nat} {xs : List Value} (ho : w.ownsRow B0 e size v n xs) (he : e ≠ 78 ∧ e ≠ 106) : v.ownBlock ≠ some pb ∧ v.ownBlock ≠ some g := by
  obtain ⟨left, hb, _⟩ := h.box
  obtain ⟨cs, fr, hg⟩ := h.glyph
  constructor
  · rcases hb.apart ho he.1 with e | e
    · rw [e]; simp
    · exact e
  · intro e'
    obtain ⟨_, ⟨rfl, _⟩ | ⟨g', cap, cur, rfl, _, hh, _⟩⟩ := ho
    · simp [Value.ownBlock] at e'
    · simp [Value.ownBlock] at e'
      subst e'
      rw [hh] at hg
      simp at hg
      exact he.2 hg.2.1
/-- A row of another kind is written. -/
theorem QIn.far (h : QIn B w pb s T st g vC vP mg) {B0 : Nat} {e : TypeId} {size : Nat} {v : Value} {n : Nat} {xs : List Value} (ho : w.ownsRow B0 e size v n xs) (he : e ≠ 78 ∧ e ≠ 106 ∧ e ≠ 3) (hg : w.grownBy w' v.ownBlock) : QIn B w' pb s T st g vC vP mg := by
  obtain ⟨D, h1, h2⟩ := h.map
  obtain ⟨a1, a2⟩ := h.pp.row_apart ho ⟨he.1, he.2.1⟩
  exact ⟨h.pp.far hg a1 a2, h.places.kept hg (own_apart h.places ho he.2.2.symm), ⟨D, h1.kept hg (fun e => row_no_map ho h1 e.symm), h2⟩, h.mhigh⟩
/-- A variable is numbered. -/
theorem QIn.var (h : QIn B w pb s T st g vC vP mg) {sn : List ByteArray} {D : DataW Unit} (hg : w.grownBy w' (some mg)) (hm : w'.ownsMap Try.prog 9 sElem mg sn.length D) (hN : SNumIs D sn) : QIn B w' pb s T ⟨st.i, sn, st.places⟩ g vC vP mg := by
  obtain ⟨D0, h1, h2⟩ := h.map
  obtain ⟨left, hb, _⟩ := h.pp.box
  obtain ⟨cs, fr, hgl⟩ := h.pp.glyph
  refine ⟨h.pp.far hg (by simpa using fun e => box_no_map hb h1 e.symm) ?_, h.places.kept hg (Or.inr (row_no_map h.places h1)), ⟨D, hm, hN⟩, h.mhigh⟩
  intro e
  simp at e
  subst e
  obtain ⟨es, cl, hh, _⟩ := h1
  rw [hgl] at hh
  cases hh
/-- A place is put behind. -/
theorem QIn.place (h : QIn B w pb s T st g vC vP mg) {v : Value} {p : Pl} (ho : w2.ownsRow B 3 1 v (st.places.length + 1) (atsP st.places ++ [.int .i64 p.2.2.2])) (hg : w.grownBy w2 vP.ownBlock) :
    w2.cell? ⟨pb, 5, none⟩ = some vP ∧ w2.frozen? ⟨pb, 5, none⟩ = false ∧ QIn B (w2.setCell ⟨pb, 5, none⟩ v) pb s T ⟨st.i, st.vars, st.places ++ [p]⟩ g vC v mg := by
  obtain ⟨D, h1, h2⟩ := h.map
  obtain ⟨a1, a2⟩ := h.pp.row_apart h.places (by decide)
  obtain ⟨q, j, m, c, hP⟩ := h.pp.far hg a1 a2
  have hb := hP.sc.box
  have h1' := h1.kept hg (fun e => row_no_map h.places h1 e.symm)
  refine ⟨hb.c5, hb.soft 5, ⟨⟨q, j, m, c, ⟨heap_setCell_same w2 pb 5 _ _ _ hb, hP.sc.high, hb.row hP.sc.row (by decide) _ _, hP.sc.len, hP.sc.drop, hP.sc.le⟩, hP.lt, hP.on⟩, hb.row ?_ (by decide) _ _, ⟨D, h1'.setCell (fun e => box_no_map hb h1' e.symm) _, h2⟩, h.mhigh⟩⟩
  rw [atsP_snoc, List.length_append]
  exact ho
end

end Go.Proofs.Ytcpdadppblbndaa

namespace Go.Proofs.Ytcpdadppblbndaa
open Go.RowKit Go.WideMaps
set_option maxRecDepth 100000

/-- What term answers. -/
def TermQ (B B' pb : Nat) (w : World) (s : ByteArray) (T : List Tk) (g : Nat) (vC : Value) (mg : Nat) (r : Except Nat (PSt × List Nd)) (e : Ending) (w' : World) : Prop :=
  KeptQ B B' mg w w' ∧
    match r with
    | .ok (s1, l1) => ∃ vl vP, e = .returned (.tuple #[vl, .bool true]) ∧ QIn B w' pb s T s1 g vC vP mg ∧ w'.ownsRow B' 46 2 vl l1.length (nodeCells l1)
    | .error p => ∃ a n c i vP vM, e = .returned (.tuple #[.slice a n c, .bool false]) ∧ PPx B w' pb s T i g vC vP vM ∧ (tkA T i).pos = p
/-- The contract of term at a fuel. -/
def TermQC (B pb : Nat) (s : ByteArray) (T : List Tk) (g : Nat) (vC : Value) (mg f : Nat) : Prop :=
  ∀ (B' : Nat) (atom : Bool) (st : PSt) (vP vl : Value) (l : List Nd) (w : World), QIn B w pb s T st g vC vP mg → w.ownsRow B' 46 2 vl l.length (nodeCells l) → B ≤ B' → B' ≤ w.heap.size → (atom = true → (tkA T st.i).kind ≠ 118) → T.length < st.i + f → l.length ≤ st.i → st.places.length ≤ st.i → st.vars.length ≤ st.i →
    Calls Try.prog 74 #[.pointer (some ⟨pb, 0, none⟩), vl] w fun e w' => TermQ B B' pb w s T g vC mg (pTermG T f atom st l) e w'
section
variable {B B' pb : Nat} {s : ByteArray} {T : List Tk} {g : Nat} {vC vP vl : Value} {mg : Nat} {st : PSt} {l : List Nd} {w : World}
/-- What is written of a variable. -/
theorem var_put {w1 w2 w3 : World} {D : DataW Unit} {sn : List ByteArray} {v3 : Value} {x : Int} {X : Obj} {st1 : PSt} (h : QIn B w1 pb s T st1 g vC vP mg) (hl : w1.ownsRow B' 46 2 vl l.length (nodeCells l)) (hBB : B ≤ B') (hk : KeptQ B B' mg w w1)
    (hg : w1.grownBy w2 (some mg)) (hm : w2.ownsMap Try.prog 9 sElem mg sn.length D) (hN : SNumIs D sn) (ho : w3.ownsRow B' 46 2 v3 (l.length + 1) (nodeCells l ++ [.string ⟨#[]⟩, .int .i64 x])) (hg3 : (w2.alloc X).grownBy w3 vl.ownBlock) :
    QIn B w3 pb s T ⟨st1.i, sn, st1.places⟩ g vC vP mg ∧ w3.ownsRow B' 46 2 v3 (l ++ [((⟨#[]⟩ : ByteArray), x)]).length (nodeCells (l ++ [((⟨#[]⟩ : ByteArray), x)])) ∧ KeptQ B B' mg w w3 := by
  obtain ⟨D0, m1, _⟩ := h.map
  have h2 := h.var hg hm hN
  have hl2 := hl.kept hg (Or.inr (row_no_map hl m1))
  have hA := (Below.refl w2.heap.size w2).alloc (Nat.le_refl _) X
  refine ⟨(h2.below hA).far (own_below hl2 hA (Nat.le_refl _)) (by decide) hg3, by rw [nodeCells_snoc, List.length_append]; exact ho, ?_⟩
  exact ((hk.grownMap h.mhigh hg).trans (.of_below hA)).grownRow (own_below hl2 hA (Nat.le_refl _)) hBB (Or.inr ⟨rfl, Nat.le_refl _⟩) hg3

set_option maxHeartbeats 3000000 in
theorem term_var (atom : Bool) (f : Nat) (hT : ∀ i, (tkA T i).kind ∈ kdL) (hx : ∀ i, (tkA T i).txt.size ≤ 1000000) (hs : s.size ≤ 3000) (hTl : T.length ≤ 1000000) (h : QIn B w pb s T st g vC vP mg) (hl : w.ownsRow B' 46 2 vl l.length (nodeCells l)) (hBB : B ≤ B') (hBw : B' ≤ w.heap.size) (hk : (tkA T st.i).kind = 118) (hat : atom = false) (hl1 : l.length ≤ st.i) (hv1 : st.vars.length ≤ st.i) :
    Calls Try.prog 74 #[.pointer (some ⟨pb, 0, none⟩), vl] w fun e w' => TermQ B B' pb w s T g vC mg (pTermG T (f + 1) atom st l) e w' := by
  subst hat
  have hlt := h.pp.lt
  obtain ⟨iN, hN, hN0, hN1, hN2⟩ := info_parts infoNode
  obtain ⟨left, hb, _⟩ := h.pp.box
  obtain ⟨la, lc, rfl⟩ := own_shape hl
  rw [hk, show kindP 118 = 65 from rfl] at hb
  have d1 := hb.c1
  have d2 := hb.c2
  have d3 := hb.c3
  have CT := hide (fun o => pTake_any 118 (by decide) (by decide) (by decide) hT hs (h.pp.below ((Below.refl w.heap.size w).alloc (Nat.le_refl _) o)))
  rw [hk, show kindP 118 = 65 from rfl] at CT
  simp only [if_true, decide_true] at CT
  have HP : Hid (pTermG T (f + 1) false st l = .ok (⟨st.i + 1, addV st.vars (tkA T st.i).txt, st.places⟩, l ++ [(⟨#[]⟩, numV st.vars (tkA T st.i).txt)])) := hide (by rw [pTermG, if_pos ⟨hk, rfl⟩])
  obtain ⟨tx, htx⟩ : ∃ tx, (tkA T st.i).txt = tx := ⟨_, rfl⟩
  obtain ⟨tp, htp⟩ : ∃ tp, (tkA T st.i).pos = tp := ⟨_, rfl⟩
  have hxs := hx st.i
  rw [htx] at d3 HP hxs
  rw [htp] at d2
  have HQ := hide h
  have HL := hide hl
  clear h hl hb hk hx hT htx htp
  go_enter Try.func74, Try.ntmps74
  go_upto_region 3 with (first
    | (go_at_call 54; refine (unhide CT _).mono ?_; rintro e w1 ⟨rfl, hg1, hp1⟩; have hq1 := (HQ.out.below ((Below.refl w.heap.size w).alloc (Nat.le_refl _) _)).take hg1 hp1; have hx1 := hg1.block w.heap.size (by simp) (by obtain ⟨left, hb, _⟩ := HQ.out.pp.box; have := hb.lt; simp; omega); have HQ1 := hide hq1; have HX1 := hide hx1; have HG1 := hide hg1; clear hg1 hp1 hq1 hx1)
    | go_in)
  have hx1 : w1.heap[w.heap.size]? = some (.cells #[.int .i32 65, .int .i64 tp, .string tx] 71) := HX1.out.trans (by show (w.heap.push _)[w.heap.size]? = _; simp)
  have t2 : w1.cell? ⟨w.heap.size, 2, none⟩ = some (.string tx) := by unfold World.cell?; rw [hx1]; rfl
  obtain ⟨left1, hb1, _⟩ := HQ1.out.pp.box
  have m6 := hb1.c6
  have hA := (Below.refl w.heap.size w).alloc (Nat.le_refl _) (.cells #[.int .i32 65, .int .i64 tp, .string tx] 71)
  obtain ⟨leftA, hbA, hBp⟩ := (HQ.out.below hA).pp.box
  have HK1 : Hid (KeptQ B B' mg w w1) := hide ((KeptQ.of_below hA).grownBox hbA hBp HG1.out)
  have HL1 := hide ((own_below HL.out hA (Nat.le_refl _)).kept HG1.out (hbA.apart (own_below HL.out hA (Nat.le_refl _)) (by decide)))
  obtain ⟨D, hmp, hmn⟩ := HQ1.out.map
  have CN := hide (numberOfS_any mg D st.vars tx w1.drew hmp hmn (by omega) hxs)
  have hz1 := HK1.out.size
  have HMP := hide hmp
  clear hmp hmn hx1 hb1 hbA hA HQ HL HX1 HG1 CT d1 d2 d3
  go_region_law (first
    | (refine pstep_call (by rfl) 81 _ _ (by rfl) (enters_of Try.func81 (by kernel_rfl) rfl) _ (by rfl) (unhide CN) ?_; rintro e w2 ⟨D2, rfl, hm2, hn2, hg2⟩; refine ⟨_, rfl, ?_⟩; have HM2 := hide hm2; have HN2 := hide hn2; have HG2 := hide hg2; have HL2 := hide (World.ownsRow.kept (w := w1.drew) HL1.out hg2 (Or.inr (row_no_map HL1.out HMP.out))); have hz2 := hg2.size; clear hm2 hn2 hg2)
    | (refine step_append_one ?g1 (.tmp 13) (.tmp 22) 44 46 ?g2 (.agg #[.string ⟨#[]⟩, .int .i64 0]) 2 24 Try.underlying44 infoNode ?g3 ?g4 ?g5 B' _ l.length (nodeCells l) ?g6 (HL2.out.alloc _) ?g7 ?g8 w2.heap.size 1 [.string ⟨#[]⟩, .int .i64 (numV st.vars tx)] ?g9 ?g10 (new2 w2 _ _ 46 w2.heap.size rfl) (one2 _ _) ?_; (case g1 => rfl); (case g2 => rfl); (case g3 => rfl); (case g4 => decide); (case g5 => decide); (case g6 => rfl); (case g7 => omega); (case g8 => (simp at hz2 ⊢; omega)); (case g9 => rfl); (case g10 => rfl); intro v3 w3 ho3 hg3; have hput := var_put (w1 := w1.drew) (HQ1.out.below (below_drawn (w1 := w1.drew) ⟨1, rfl⟩)) HL1.out hBB (HK1.out.trans (.of_below (below_drawn (w1 := w1.drew) ⟨1, rfl⟩))) HG2.out HM2.out HN2.out ho3 hg3; have HPUT := hide hput; obtain ⟨va3, vc3, rfl⟩ := own_shape ho3; clear ho3 hg3 hput))
  all_goals
    go_wp2
    go_ret2
    refine ⟨HPUT.out.2.2, ?_⟩
    rw [HP.out]
    exact ⟨_, _, rfl, HPUT.out.1, HPUT.out.2.1⟩

set_option maxHeartbeats 3000000 in
theorem term_none (atom : Bool) (f : Nat) (hT : ∀ i, (tkA T i).kind ∈ kdL) (hs : s.size ≤ 3000) (h : QIn B w pb s T st g vC vP mg) (hk : (tkA T st.i).kind ≠ 118) (hk2 : (tkA T st.i).kind ≠ 110) :
    Calls Try.prog 74 #[.pointer (some ⟨pb, 0, none⟩), vl] w fun e w' => TermQ B B' pb w s T g vC mg (pTermG T (f + 1) atom st l) e w' := by
  obtain ⟨left, hb, _⟩ := h.pp.box
  have d1 := hb.c1
  have d2 := hb.c2
  have d3 := hb.c3
  have CT := hide (fun o => pTake_any 118 (by decide) (by decide) (by decide) hT hs (h.pp.below ((Below.refl w.heap.size w).alloc (Nat.le_refl _) o)))
  rw [show kindP 118 = 65 from rfl, if_neg hk, decide_eq_false hk] at CT
  have CU := hide (fun w1 (hp : PPx B w1 pb s T st.i g vC vP (.map (some mg))) => pTake_any 110 (by decide) (by decide) (by decide) hT hs hp)
  rw [show kindP 110 = 97 from rfl, if_neg hk2, decide_eq_false hk2] at CU
  have HP : Hid (pTermG T (f + 1) atom st l = .error (tkA T st.i).pos) := hide (by rw [pTermG, if_neg (fun e => hk e.1), if_pos hk2])
  have HQ := hide h
  clear h hb hT hk hk2
  generalize kindP (tkA T st.i).kind = K at *
  generalize (tkA T st.i).txt = tx at *
  obtain ⟨tp, htp⟩ : ∃ tp, (tkA T st.i).pos = tp := ⟨_, rfl⟩
  rw [htp] at d2 HP
  have HTP := hide htp
  clear htp
  go_enter Try.func74, Try.ntmps74
  go_wp2_with (first
    | (go_at_call 54; refine (CU.out _ HP1.out).mono ?_; rintro e w2 ⟨rfl, hg2, hp2⟩; have HG2 := hide hg2; have HP2 := hide hp2; clear hg2 hp2)
    | (go_at_call 54; refine (unhide CT _).mono ?_; rintro e w1 ⟨rfl, hg1, hp1⟩; have HG1 := hide hg1; have HP1 := hide hp1; clear hg1 hp1)
    | go_in)
  go_ret2
  have hA := (Below.refl w.heap.size w).alloc (Nat.le_refl _) (.cells #[.int .i32 K, .int .i64 tp, .string tx] 71)
  obtain ⟨leftA, hbA, hBp⟩ := (HQ.out.below hA).pp.box
  obtain ⟨left1, hb1, _⟩ := HP1.out.box
  refine ⟨((KeptQ.of_below hA).grownBox hbA hBp HG1.out).grownBox hb1 hBp HG2.out, ?_⟩
  rw [HP.out]
  exact ⟨_, _, _, _, _, _, rfl, HP2.out, HTP.out⟩
end

end Go.Proofs.Ytcpdadppblbndaa
