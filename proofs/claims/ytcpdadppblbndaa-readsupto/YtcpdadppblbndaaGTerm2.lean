/- The program's parser: a term that begins with a name. -/
import Derived.Test.YtcpdadppblbndaaGMemM
import Derived.Deep.DeepCutAuto
namespace Go.Proofs.Ytcpdadppblbndaa
open Go.RowKit Go.WideMaps
set_option maxRecDepth 100000

/-- What parts answers. -/
def PartsQ (B B' pb : Nat) (w : World) (s : ByteArray) (T : List Tk) (g : Nat) (vC : Value) (mg nm : Nat) (r : Except Nat (PSt × List Nd × Nat)) (e : Ending) (w' : World) : Prop :=
  KeptQ B B' mg w w' ∧
    match r with
    | .ok (s1, l1, n) => ∃ vl vP, e = .returned (.tuple #[vl, .bool true]) ∧ QIn B w' pb s T s1 g vC vP mg ∧ w'.ownsRow B' 46 2 vl (setN l1 nm n).length (nodeCells (setN l1 nm n))
    | .error p => ∃ a n c i vP vM, e = .returned (.tuple #[.slice a n c, .bool false]) ∧ PPx B w' pb s T i g vC vP vM ∧ (tkA T i).pos = p
def PartsQC (B pb : Nat) (s : ByteArray) (T : List Tk) (g : Nat) (vC : Value) (mg f : Nat) : Prop :=
  ∀ (B' : Nat) (st : PSt) (vP vl : Value) (l : List Nd) (x : ByteArray) (w : World), QIn B w pb s T ⟨st.i + 1, st.vars, st.places⟩ g vC vP mg → w.ownsRow B' 46 2 vl (l.length + 1) (nodeCells (l ++ [(x, 0)])) → B ≤ B' → B' ≤ w.heap.size → T.length < st.i + f → l.length + 1 ≤ st.i → st.places.length ≤ st.i → st.vars.length ≤ st.i →
    Calls Try.prog 82 #[.pointer (some ⟨pb, 0, none⟩), vl] w fun e w' => PartsQ B B' pb w s T g vC mg l.length (pPartsG T f st (l ++ [(x, 0)]) 0) e w'
theorem QIn.parts {B : Nat} {w : World} {pb : Nat} {s : ByteArray} {T : List Tk} {st : PSt} {g : Nat} {vC vP : Value} {mg : Nat} (h : QIn B w pb s T st g vC vP mg) (k n : Nat) : QIn B w pb s T ⟨st.i, st.vars, setParts st.places k n⟩ g vC vP mg :=
  ⟨h.pp, by rw [atsP_set, setParts_len]; exact h.places, h.map, h.mhigh⟩
theorem KeptQ.boxSet {B B' mg : Nat} {a w : World} {pb : Nat} {left : Value} {k x : Int} {wd : ByteArray} {vC vP vM : Value} (h : KeptQ B B' mg a w) (hb : ParBox w pb left k x wd vC vP vM) (hp : B ≤ pb) (j : Nat) (u : Value) : KeptQ B B' mg a (w.setCell ⟨pb, j, none⟩ u) := h.grownBox hb hp (grown_setCell _ _ _)
section
variable {B B' pb : Nat} {s : ByteArray} {T : List Tk} {g : Nat} {vC vP vl : Value} {mg : Nat} {st : PSt} {l : List Nd} {w : World}
/-- A place is put behind, and all that stays. -/
theorem place_put {w2 w3 : World} {st2 : PSt} {v : Value} {p : Pl} {tb : Nat} {o : Obj} {X : Obj} (h : QIn B w2 pb s T st2 g vC vP mg) (hl : w2.ownsRow B' 46 2 vl l.length (nodeCells l)) (hk : KeptQ B B' mg w w2) (ht : w2.heap[tb]? = some o) (hto : ∃ cs, o = .cells cs 71) (ho : w3.ownsRow B 3 1 v (st2.places.length + 1) (atsP st2.places ++ [.int .i64 p.2.2.2])) (hg : (w2.alloc X).grownBy w3 vP.ownBlock) :
    w3.cell? ⟨pb, 5, none⟩ = some vP ∧ w3.frozen? ⟨pb, 5, none⟩ = false ∧ QIn B (w3.setCell ⟨pb, 5, none⟩ v) pb s T ⟨st2.i, st2.vars, st2.places ++ [p]⟩ g vC v mg ∧ (w3.setCell ⟨pb, 5, none⟩ v).ownsRow B' 46 2 vl l.length (nodeCells l) ∧ KeptQ B B' mg w (w3.setCell ⟨pb, 5, none⟩ v) ∧ (w3.setCell ⟨pb, 5, none⟩ v).heap[tb]? = some o := by
  have hA := (Below.refl w2.heap.size w2).alloc (Nat.le_refl _) X
  have hQA := h.below hA
  obtain ⟨c5, f5, hQ⟩ := hQA.place (p := p) ho hg
  obtain ⟨a1, a2⟩ := hQA.pp.row_apart hQA.places (by decide)
  obtain ⟨left3, hb3, hBp⟩ := (hQA.pp.far hg a1 a2).box
  have hlA := own_below hl hA (Nat.le_refl _)
  have hl3 := hlA.kept hg (own_apart hlA hQA.places (by decide))
  have hk3 := (hk.trans (.of_below hA)).grownRow hQA.places (Nat.le_refl _) (Or.inl rfl) hg
  have hlt := (Array.getElem?_eq_some_iff.1 ht).1
  obtain ⟨cs, rfl⟩ := hto
  have htA : (w2.alloc X).heap[tb]? = some (.cells cs 71) := (hA.block tb hlt).trans ht
  refine ⟨c5, f5, hQ, hb3.row hl3 (by decide) _ _, hk3.boxSet hb3 hBp _ _, ?_⟩
  have hne : tb ≠ pb := by
    rintro rfl
    obtain ⟨leftA, hbA, _⟩ := hQA.pp.box
    unfold ParBox at hbA
    rw [htA] at hbA
    simp at hbA
  rw [Below.heap_setCell _ _ _ _ hne, hg.block tb (by have := hA.size; omega) ?_]
  · exact htA
  · intro e
    obtain ⟨_, ⟨rfl, _⟩ | ⟨g', cap, cur, rfl, _, hh, _⟩⟩ := hQA.places
    · simp [Value.ownBlock] at e
    · simp [Value.ownBlock] at e
      subst e
      rw [htA] at hh
      simp at hh

def partsT (k m : Nat) : Except Nat (PSt × List Nd × Nat) → Except Nat (PSt × List Nd)
  | .error p => .error p
  | .ok (st', l', n) => .ok (⟨st'.i, st'.vars, setParts st'.places k n⟩, setN l' m n)
/-- What parts answers is what term answers. -/
theorem parts_term {w7 w8 : World} {r : Except Nat (PSt × List Nd × Nat)} {e : Ending} {k : Nat} (hk : KeptQ B B' mg w w7) (h : PartsQ B B' pb w7 s T g vC mg l.length r e w8) :
    (∃ a n c b, e = .returned (.tuple #[.slice a n c, .bool b])) ∧ TermQ B B' pb w s T g vC mg (partsT k l.length r) e w8 := by
  obtain ⟨h1, h2⟩ := h
  cases r with
  | error p =>
    obtain ⟨a, n, c, i, vP, vM, rfl, h3, h4⟩ := h2
    exact ⟨⟨a, n, c, false, rfl⟩, hk.trans h1, a, n, c, i, vP, vM, rfl, h3, h4⟩
  | ok r =>
    obtain ⟨s1, l1, n⟩ := r
    obtain ⟨vl, vP, rfl, h3, h4⟩ := h2
    obtain ⟨a, c, hs⟩ := own_shape h4
    exact ⟨⟨a, _, c, true, by rw [hs]⟩, hk.trans h1, vl, vP, rfl, h3.parts _ _, h4⟩

set_option maxHeartbeats 4000000 in
theorem term_name (atom : Bool) (f : Nat) (hT : ∀ i, (tkA T i).kind ∈ kdL) (hs : s.size ≤ 3000) (hTl : T.length ≤ 1000000) (hPC : PartsQC B pb s T g vC mg f) (h : QIn B w pb s T st g vC vP mg) (hl : w.ownsRow B' 46 2 vl l.length (nodeCells l)) (hBB : B ≤ B') (hBw : B' ≤ w.heap.size) (hk : (tkA T st.i).kind = 110) (hf : T.length < st.i + (f + 1)) (hl1 : l.length ≤ st.i) (hp1 : st.places.length ≤ st.i) (hv1 : st.vars.length ≤ st.i) :
    Calls Try.prog 74 #[.pointer (some ⟨pb, 0, none⟩), vl] w fun e w' => TermQ B B' pb w s T g vC mg (pTermG T (f + 1) atom st l) e w' := by
  have hlt := h.pp.lt
  obtain ⟨iN, hN, hN0, hN1, hN2⟩ := info_parts infoNode
  obtain ⟨left, hb, _⟩ := h.pp.box
  obtain ⟨la, lc, rfl⟩ := own_shape hl
  obtain ⟨va, vc, rfl⟩ := own_shape h.places
  have d1 := hb.c1
  have d2 := hb.c2
  have d3 := hb.c3
  rw [hk, show kindP 110 = 97 from rfl] at d1
  have CT := hide (fun o => pTake_any 118 (by decide) (by decide) (by decide) hT hs (h.pp.below ((Below.refl w.heap.size w).alloc (Nat.le_refl _) o)))
  rw [show kindP 118 = 65 from rfl, if_neg (by rw [hk]; decide), decide_eq_false (by rw [hk]; decide)] at CT
  have CU := hide (fun w1 (hp : PPx B w1 pb s T st.i g vC (.slice va st.places.length vc) (.map (some mg))) => pTake_any 110 (by decide) (by decide) (by decide) hT hs hp)
  rw [show kindP 110 = 97 from rfl, if_pos hk, decide_eq_true hk] at CU
  have HQ := hide h
  have HL := hide hl
  have HK := hide hk
  have HT := hide hT
  have HPC := hide hPC
  clear h hl hb hk hT hPC
  obtain ⟨tx, htx⟩ : ∃ tx, (tkA T st.i).txt = tx := ⟨_, rfl⟩
  obtain ⟨tp, htp⟩ : ∃ tp, (tkA T st.i).pos = tp := ⟨_, rfl⟩
  rw [htp] at d2
  rw [htx] at d3
  have HTX := hide htx
  have HTP := hide htp
  clear htx htp
  go_enter Try.func74, Try.ntmps74
  go_upto_region 6 with (first
    | (go_at_call 54; refine (CU.out _ HP1.out).mono ?_; rintro e w2 ⟨rfl, hg2, hp2⟩; have HG2 := hide hg2; have HP2 := hide hp2; clear hg2 hp2)
    | (go_at_call 54; refine (unhide CT _).mono ?_; rintro e w1 ⟨rfl, hg1, hp1'⟩; have HG1 := hide hg1; have HP1 := hide hp1'; clear hg1 hp1')
    | go_in)
  have hA := (Below.refl w.heap.size w).alloc (Nat.le_refl _) (.cells #[.int .i32 97, .int .i64 tp, .string tx] 71)
  have hQA := HQ.out.below hA
  have hQ1 := hQA.take HG1.out HP1.out
  have hQ2 := hQ1.take HG2.out HP2.out
  obtain ⟨leftA, hbA, hBp⟩ := hQA.pp.box
  obtain ⟨left1, hb1, _⟩ := hQ1.pp.box
  have hlA := own_below HL.out hA (Nat.le_refl _)
  have hl1' := hlA.kept HG1.out (hbA.apart hlA (by decide))
  have hl2' := hl1'.kept HG2.out (hb1.apart hl1' (by decide))
  have hk2 : KeptQ B B' mg w w2 := ((KeptQ.of_below hA).grownBox hbA hBp HG1.out).grownBox hb1 hBp HG2.out
  have hpbl : pb < w.heap.size := by obtain ⟨left, hb, _⟩ := HQ.out.pp.box; exact hb.lt
  have hx2 : w2.heap[w.heap.size]? = some (.cells #[.int .i32 97, .int .i64 tp, .string tx] 71) := by
    rw [HG2.out.block w.heap.size (by have := HG1.out.size; simp at this; omega) (by simp; omega), HG1.out.block w.heap.size (by simp) (by simp; omega)]
    show (w.heap.push _)[w.heap.size]? = _
    simp
  have hz2 := hk2.size
  obtain ⟨left2, hb2, _⟩ := hQ2.pp.box
  have p5 := hb2.c5
  have t1 : w2.cell? ⟨w.heap.size, 1, none⟩ = some (.int .i64 tp) := by unfold World.cell?; rw [hx2]; rfl
  have t2 : w2.cell? ⟨w.heap.size, 2, none⟩ = some (.string tx) := by unfold World.cell?; rw [hx2]; rfl
  have p5A : ∀ o, (w2.alloc o).cell? ⟨pb, 5, none⟩ = some (.slice va st.places.length vc) := fun o => Below.at' ((Below.refl w2.heap.size w2).alloc (Nat.le_refl _) o) (Nat.le_refl _) p5
  have t1A : ∀ o, (w2.alloc o).cell? ⟨w.heap.size, 1, none⟩ = some (.int .i64 tp) := fun o => Below.at' ((Below.refl w2.heap.size w2).alloc (Nat.le_refl _) o) (Nat.le_refl _) t1
  have HQ2 := hide hQ2
  have HL2 := hide hl2'
  have HK2 := hide hk2
  have HX2 := hide hx2
  clear hA hQA hQ1 hQ2 hbA hb1 hb2 hlA hl1' hl2' hk2 hx2 HQ HL HP1 HP2 HG1 HG2 CT CU d1 d2 d3
  go_cut [] (fun wx => ∃ v5, QIn B wx pb s T ⟨st.i + 1, st.vars, st.places ++ [(tx, atom, 0, (tp : Int))]⟩ g vC v5 mg ∧ wx.ownsRow B' 46 2 (.slice la l.length lc) l.length (nodeCells l) ∧ KeptQ B B' mg w wx ∧ wx.heap[w.heap.size]? = some (.cells #[.int .i32 97, .int .i64 tp, .string tx] 71))
  case first =>
    refine pcalm ?_
    have hq2d : Hid (QIn B w2.drew pb s T ⟨st.i + 1, st.vars, st.places⟩ g vC (.slice va st.places.length vc) mg) := hide (HQ2.out.below (below_drawn (w1 := w2.drew) ⟨1, rfl⟩))
    have hk2d : Hid (KeptQ B B' mg w w2.drew) := hide (HK2.out.trans (.of_below (below_drawn (w1 := w2.drew) ⟨1, rfl⟩)))
    go_region_law (refine step_append_one ?g1 (.tmp 31) (.tmp 34) 25 3 ?g2 (.int .i64 0) 1 8 Try.underlying25 infoInt ?g3 ?g4 ?g5 B _ st.places.length (atsP st.places) ?g6 (hq2d.out.places.alloc _) ?g7 ?g8 w2.heap.size 1 [.int .i64 tp] ?g9 ?g10 (new1 w2.drew (.int .i64 tp) 3 w2.heap.size rfl) (one1 tp) ?_; (case g1 => rfl); (case g2 => rfl); (case g3 => rfl); (case g4 => decide); (case g5 => decide); (case g6 => rfl); (case g7 => omega); (case g8 => (simp; omega)); (case g9 => rfl); (case g10 => rfl); intro v3 w3 ho3 hg3; obtain ⟨c5, f5, hp3⟩ := place_put (p := (tx, atom, 0, (tp : Int))) (tb := w.heap.size) hq2d.out HL2.out hk2d.out HX2.out ⟨_, rfl⟩ ho3 hg3; have HP3 := hide hp3; obtain ⟨va3, vc3, rfl⟩ := own_shape ho3; clear ho3 hg3 hp3)
    all_goals
      refine unpcalm ?_
      go_wp2_with fail
      go_meet
      case rel => exact ⟨_, HP3.out⟩
  case rest =>
    obtain ⟨v5, hQ5, hl5, hk5, hx5⟩ := hcut
    have t2 : wc.cell? ⟨w.heap.size, 2, none⟩ = some (.string tx) := by unfold World.cell?; rw [hx5]; rfl
    have HQ5 := hide hQ5
    have HL5 := hide hl5
    have HK5 := hide hk5
    have hz5 := hk5.size
    clear hQ5 hl5 hk5 hx5 HQ2 HL2 HK2 HX2 p5 p5A t1 t1A
    have HNP : Hid (∀ (h40 : (tkA T (st.i + 1)).kind ≠ 40), pTermG T (f + 1) atom st l = .ok (⟨st.i + 1, st.vars, st.places ++ [(tx, atom, 0, (tp : Int))]⟩, l ++ [(tx, 0)])) := hide fun h40 => by
      rw [pTermG, if_neg (by rw [HK.out]; exact fun h => absurd h.1 (by decide)), if_neg (by rw [HK.out]; decide), if_neg h40, HTX.out, HTP.out]
    by_cases h40 : (tkA T (st.i + 1)).kind = 40
    · have CT4 := hide (fun w1 (hp : PPx B w1 pb s T (st.i + 1) g vC v5 (.map (some mg))) => pTake_any 40 (by decide) (by decide) (by decide) HT.out hs hp)
      rw [show kindP 40 = 40 from rfl, if_pos h40, decide_eq_true h40] at CT4
      have HPT : Hid (pTermG T (f + 1) atom st l = partsT st.places.length l.length (pPartsG T f ⟨st.i + 1, st.vars, st.places ++ [(tx, atom, 0, (tp : Int))]⟩ (l ++ [(tx, 0)]) 0)) := hide (by
        rw [pTermG, if_neg (by rw [HK.out]; exact fun h => absurd h.1 (by decide)), if_neg (by rw [HK.out]; decide), if_pos h40, HTX.out, HTP.out]
        cases pPartsG T f ⟨st.i + 1, st.vars, st.places ++ [(tx, atom, 0, (tp : Int))]⟩ (l ++ [(tx, 0)]) 0 with
        | error p => rfl
        | ok r => rfl)
      go_wp2_with (first
        | (at_builtin; refine wpList_append_own _ rfl (.tmp 38) (.tmp 42) 44 rfl B' 46 iN (.agg #[.string ⟨#[]⟩, .int .i64 0]) 2 24 Try.underlying44 hN hN0 hN1 hN2 rfl (by decide) _ _ _ rfl (HL5.out.alloc _) ⟨_, 0, none⟩ 1 1 [.string tx, .int .i64 0] rfl rfl (new2 wc _ _ _ _ rfl) (one2 _ _) (by unfold maxLen; omega) (by omega) (by simp; omega) ?_; intro v6 w6 ho6 hg6 _; have HQ6 := hide ((HQ5.out.below ((Below.refl wc.heap.size wc).alloc (Nat.le_refl _) _)).far (HL5.out.alloc _) (by decide) hg6); have HK6 := hide ((HK5.out.trans (.of_below ((Below.refl wc.heap.size wc).alloc (Nat.le_refl _) _))).grownRow (HL5.out.alloc _) hBB (Or.inr ⟨rfl, Nat.le_refl _⟩) hg6); have HL6 : Hid (w6.ownsRow B' 46 2 v6 (l.length + 1) (nodeCells (l ++ [(tx, 0)]))) := hide (by rw [nodeCells_snoc]; exact ho6); obtain ⟨va6, vc6, rfl⟩ := own_shape ho6; clear ho6 hg6)
        | (go_at_call 54; refine (CT4.out _ HQ6.out.pp).mono ?_; rintro e w7 ⟨rfl, hg7, hp7⟩; obtain ⟨left6, hb6, hBp6⟩ := HQ6.out.pp.box; have hQ7 := HQ6.out.take hg7 hp7; have hl7 := HL6.out.kept hg7 (hb6.apart HL6.out (by decide)); have hk7 := HK6.out.grownBox hb6 hBp6 hg7; have CP := hide (HPC.out B' ⟨st.i + 1, st.vars, st.places ++ [(tx, atom, 0, (tp : Int))]⟩ v5 _ l tx w7 hQ7 hl7 hBB (Nat.le_trans hBw hk7.size) (by simp; omega) (by simp; omega) (by simp; omega) (by simp; omega)); have HK7 := hide hk7; clear hg7 hp7 hQ7 hl7 hk7 hb6)
        | (go_at_call 82; refine (unhide CP).mono ?_; intro e w8 hP8; obtain ⟨⟨a8, n8, c8, b8, he8⟩, hTQ⟩ := parts_term (k := st.places.length) HK7.out hP8; subst he8; have HTQ := hide hTQ; clear hTQ)
        | go_in)
      go_ret2
      rw [HPT.out]
      exact HTQ.out
    · have CT4 := hide (fun w1 (hp : PPx B w1 pb s T (st.i + 1) g vC v5 (.map (some mg))) => pTake_any 40 (by decide) (by decide) (by decide) HT.out hs hp)
      rw [show kindP 40 = 40 from rfl, if_neg h40, decide_eq_false h40] at CT4
      have HNP' := hide (HNP.out h40)
      clear HNP
      go_wp2_with (first
        | (at_builtin; refine wpList_append_own _ rfl (.tmp 38) (.tmp 42) 44 rfl B' 46 iN (.agg #[.string ⟨#[]⟩, .int .i64 0]) 2 24 Try.underlying44 hN hN0 hN1 hN2 rfl (by decide) _ _ _ rfl (HL5.out.alloc _) ⟨_, 0, none⟩ 1 1 [.string tx, .int .i64 0] rfl rfl (new2 wc _ _ _ _ rfl) (one2 _ _) (by unfold maxLen; omega) (by omega) (by simp; omega) ?_; intro v6 w6 ho6 hg6 _; have HQ6 := hide ((HQ5.out.below ((Below.refl wc.heap.size wc).alloc (Nat.le_refl _) _)).far (HL5.out.alloc _) (by decide) hg6); have HK6 := hide ((HK5.out.trans (.of_below ((Below.refl wc.heap.size wc).alloc (Nat.le_refl _) _))).grownRow (HL5.out.alloc _) hBB (Or.inr ⟨rfl, Nat.le_refl _⟩) hg6); have HL6 : Hid (w6.ownsRow B' 46 2 v6 (l ++ [(tx, 0)]).length (nodeCells (l ++ [(tx, 0)]))) := hide (by rw [nodeCells_snoc, List.length_append]; exact ho6); obtain ⟨va6, vc6, rfl⟩ := own_shape ho6; clear ho6 hg6)
        | (go_at_call 54; refine (CT4.out _ HQ6.out.pp).mono ?_; rintro e w7 ⟨rfl, hg7, hp7⟩; obtain ⟨left6, hb6, hBp6⟩ := HQ6.out.pp.box; have HQ7 := hide (HQ6.out.take hg7 hp7); have HL7 := hide (HL6.out.kept hg7 (hb6.apart HL6.out (by decide))); have HK7 := hide (HK6.out.grownBox hb6 hBp6 hg7); clear hg7 hp7 hb6)
        | go_in)
      go_ret2
      refine ⟨HK7.out, ?_⟩
      rw [HNP'.out]
      exact ⟨_, _, rfl, HQ7.out, HL7.out⟩
end

end Go.Proofs.Ytcpdadppblbndaa
