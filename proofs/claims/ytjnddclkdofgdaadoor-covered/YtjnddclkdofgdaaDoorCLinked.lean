/- The program: literals that hang together by free variables. -/
import Derived.Test.YtjnddclkdofgdaaDoorCLink0
namespace Go.Proofs.YtjnddclkdofgdaaDoor
open Go.RowKit Go.Shelf
set_option maxRecDepth 100000

/-- A list is parted. -/
def Parted (c G R : List Lt) : Prop := ∀ l, l ∈ c ↔ l ∈ G ∨ l ∈ R
theorem NodesB.back {w wr : World} {B : Nat} {a : Option Addr} {l : List Nd} (h : NodesB wr B a l) (k : Below w.heap.size w wr) (hB : B ≤ w.heap.size) : NodesB w B a l :=
  ⟨⟨h.nodes.few, h.nodes.short, fun j hj => by
    obtain ⟨b, o, e, h1, h2⟩ := h.nodes.cell j hj
    have hl : b < B := h.low _ e
    have hb := k.block b (by omega)
    exact ⟨b, o, e, (World.cell?_of_block hb).symm.trans h1, (World.cell?_of_block hb).symm.trans h2⟩⟩, h.low⟩

set_option maxHeartbeats 4000000 in
theorem mLinked_any (B g : Nat) (dv : Value) (L : Bd') (w : World) (b o ccap : Nat) (c : List Lt) (hM : MIn w B g dv L) (hC : LitsK w B (some ⟨b, o, none⟩) c) (hcap : c.length ≤ ccap) (hF : Fine c) (h0 : 0 < c.length) (hBw : B ≤ w.heap.size) :
    Calls Tryd.prog 86 #[.pointer (some ⟨g, 0, none⟩), .slice (some ⟨b, o, none⟩) c.length ccap] w fun e w' => ∃ (G R : List Lt) (ga go gcap : Nat) (ra : Option Addr) (rcap : Nat), e = .returned (.tuple #[.slice (some ⟨ga, go, none⟩) G.length gcap, .slice ra R.length rcap]) ∧ G.length ≤ gcap ∧ R.length ≤ rcap ∧
      LitsK w' B (some ⟨ga, go, none⟩) G ∧ LitsK w' B ra R ∧ Parted c G R ∧ G.length + R.length = c.length ∧ 0 < G.length ∧ Apart L G R ∧ Below w.heap.size w w' := by
  have hc8 := hC.few
  have hi1 : (1 : Int) ≤ (ccap : Int) := by omega
  have hi2 : (1 : Int) ≤ (c.length : Int) := by omega
  have hi3 : (c.length : Int) ≤ (ccap : Int) := by omega
  obtain ⟨ra0, hra0, htl⟩ : ∃ ra, (if ccap = 1 then some (⟨b, o, none⟩ : Addr) else some ⟨b, o + 2, none⟩) = ra ∧ LitsK w B ra c.tail := by
    refine ⟨_, rfl, ?_⟩
    by_cases h1 : ccap = 1
    · have : c.tail = [] := List.eq_nil_of_length_eq_zero (by simp; omega)
      rw [this]
      exact ⟨by simp, fun k hk => by simp at hk⟩
    · rw [if_neg h1]
      exact hC.tail
  have HM := hide hM
  have HC := hide hC
  have HF := hide hF
  have HTL := hide htl
  have HG0 : Hid (GrpV w B b o c[0] w (.slice (some ⟨b, o, none⟩) 1 1) none [c[0]]) := hide (Or.inl ⟨rfl, rfl, rfl⟩)
  clear hM hC hF htl
  obtain ⟨iL, hL, hL0, hL1, hL2⟩ := info_parts infoLit
  go_enter Tryd.func86, Tryd.ntmps86
  go_wp2_with fail
  go_quiet (fail)
  go_wp2
  have HWD : Hid (Below w.heap.size w (w.drewN nq)) := hide (below_drawn ⟨_, rfl⟩)
  clear hra0 hi1 hi2 hi3
  go_loopw [4, 5, 6] (fun gv rv kv wr => ∃ (kk : Nat) (G R : List Lt) (gk : Option Nat) (ra : Option Addr) (rcap : Nat), kk ≤ G.length ∧ kv = .int .i64 kk ∧ GrpV w B b o c[0] wr gv gk G ∧ rv = .slice ra R.length rcap ∧ R.length ≤ rcap ∧ LitsK wr B ra R ∧ (∀ q, ra = some q → gk ≠ some q.block) ∧ Below w.heap.size w wr ∧
      (∀ l, l ∈ c ↔ l ∈ G ∨ l ∈ R) ∧ G.length + R.length = c.length ∧ 0 < G.length ∧ (∀ x ∈ G.take kk, ∀ y ∈ R, x.2.any (shareB L y.2) = false)) (fun _ _ kv _ => c.length - (intOf kv).toNat)
  case atStart =>
    refine ⟨0, [c[0]], c.tail, none, ra0, ccap - 1, Nat.zero_le _, rfl, HG0.out.below HWD.out, ?_, by simp; omega, HTL.out.fr (Fr.of_below HWD.out), by simp, HWD.out, ?_, by simp; omega, by simp, by simp⟩
    · simp
    · intro l
      cases c with
      | nil => simp at h0
      | cons x r => simp
  case round =>
    obtain ⟨kk, G, R, gk, ra, rcap, hkk, rfl, hG, rfl, hrc, hR, hq, hb, hmem, hlen, hG0, hsh⟩ := hrel
    have hG8 : G.length ≤ 8 := by omega
    obtain ⟨ga, go, gcap, rfl, hgc, hGL⟩ := hG.lits h0 HC.out hb hG8
    have hws := hb.size
    by_cases hlt : kk < G.length
    · have hgl : (kk : Int) < (G.length : Int) := by omega
      obtain ⟨x, hx⟩ : ∃ x, x = G[kk] := ⟨_, rfl⟩
      have hxc : x ∈ c := (hmem x).2 (Or.inl (by rw [hx]; exact List.getElem_mem _))
      obtain ⟨htx, hx60⟩ := HF.out x hxc
      have hgkB : ∀ k, gk = some k → B ≤ k := fun k hk => Nat.le_trans hBw (hG.lt k hk).1
      have HIS := hide (Inner.start (p := fun y => x.2.any (shareB L y.2)) hG hb)
      have HX := hide hx
      have HR := hide hR
      have HQ := hide hq
      have HMEM := hide hmem
      have HSH := hide hsh
      have HGK := hide hgkB
      have HGLT := hide hG.lt
      have HB := hide hb
      clear hx hR hq hmem hsh hgkB hG hb hGL
      go_wp2
      generalize hWR : wr = W0 at *
      clear hWR
      go_loopw [4, 7, 22] (fun gv av i wi => ∃ j : Nat, j ≤ R.length ∧ i = .int .i64 j ∧ Inner w W0 B b o c[0] (fun y => x.2.any (shareB L y.2)) gk G (R.take j) wi gv av) (fun _ _ i _ => R.length - (intOf i).toNat)
      case atStart => exact ⟨0, Nat.zero_le _, rfl, HIS.out⟩
      case round =>
        obtain ⟨j, hj, rfl, hI⟩ := hrel
        by_cases hjl : j < R.length
        · obtain ⟨gk', hg1, hg2, hg3⟩ := hI.grp
          have hpl := len_parts (fun y => x.2.any (shareB L y.2)) (R.take j)
          have htj : (R.take j).length ≤ j := List.length_take_le _ _
          have hGf : (G ++ (R.take j).filter fun y => x.2.any (shareB L y.2)).length ≤ 8 := by simp; omega
          obtain ⟨ga', go', gcap', rfl, hgc', hGL'⟩ := hg1.lits h0 HC.out hI.low hGf
          have hkl : kk < (G ++ (R.take j).filter fun y => x.2.any (shareB L y.2)).length := by simp; omega
          have hkx : (G ++ (R.take j).filter fun y => x.2.any (shareB L y.2))[kk] = x := by rw [List.getElem_append_left hlt]; exact HX.out.symm
          obtain ⟨b1, o1, xa, xc, e, hs1, x1, x2, hxc1, hX⟩ := hGL'.cell kk hkl
          obtain ⟨rfl, rfl⟩ : ga' = b1 ∧ go' = o1 := by simpa using e
          rw [hkx] at x1 x2 hxc1 hX
          have hRi := HR.out.move hI.rest HQ.out HGK.out
          obtain ⟨b2, o2, ya, yc, rfl, hs2, y1, y2, hyc, hY⟩ := hRi.cell j hjl
          obtain ⟨y, hy⟩ : ∃ y, y = R[j] := ⟨_, rfl⟩
          have hyc2 : y ∈ c := (HMEM.out y).2 (Or.inr (by rw [hy]; exact List.getElem_mem _))
          obtain ⟨hty, hy60⟩ := HF.out y hyc2
          rw [← hy] at y1 y2 hyc hY
          have htk : R.take (j + 1) = R.take j ++ [y] := by rw [List.take_succ_eq_append_getElem hjl, hy]
          have hMi := HM.out.below hI.low
          have hk' : (kk : Int) < ((G ++ (R.take j).filter fun y => x.2.any (shareB L y.2)).length : Int) := by omega
          generalize hGG : (G ++ (R.take j).filter fun y => x.2.any (shareB L y.2)) = GG at *
          obtain ⟨xb, xl⟩ := x
          obtain ⟨yb, yl⟩ := y
          simp only at x1 x2 hxc1 hX y1 y2 hyc hY hty hy60 htx hx60 hg1 hg2 hg3
          have hb2 : Below wr.heap.size wr (wr.alloc (.cells #[.bool yb, .slice ya yl.length yc] 30)) := (Below.refl _ _).alloc (Nat.le_refl _) _
          have hbx := box2 wr (.bool yb) (.slice ya yl.length yc) 30
          have CS := hide (fun wx (hx : ∃ n, wx = (wr.alloc (.cells #[.bool yb, .slice ya yl.length yc] 30)).drewN n) => mShare_any B g dv L wx xb yb xa ya xc yc xl yl ((hMi.below hb2).drawn hx) ((hX.fr (Fr.of_below hb2)).fr ((Fr.refl _ _).drawn hx)) ((hY.fr (Fr.of_below hb2)).fr ((Fr.refl _ _).drawn hx)) htx)
          have x12 := Below.at' hb2 (Nat.le_refl _) x1
          have x22 := Below.at' hb2 (Nat.le_refl _) x2
          obtain ⟨hbx0, hbx1⟩ := hbx
          have HI := hide (hI.below hb2)
          have HG1 := hide (hg1.below hb2)
          have HG2 := hide hg2
          have HG3 := hide hg3
          have HTK := hide htk
          have HAY : Hid (AtomB w B (.slice ya yl.length yc) yl) := hide ⟨ya, yc, rfl, hyc, hY.back hI.low hBw⟩
          clear hI hg1 hg2 hg3 htk hMi hX hY hs1 hs2 hGL' hy hpl hRi
          cases hpv : xl.any (shareB L yl) with
          | false =>
            rw [hpv] at CS
            have HPV := hide hpv
            clear hpv
            go_wp2_with fail
            generalize hWI : wr.alloc (.cells #[.bool yb, .slice ya yl.length yc] 30) = WI at *
            clear hb2 hWI
            go_region_held3 (fun w' => w'.cell? ⟨ga', go' + kk * 2, none⟩ = some (.bool xb) ∧ w'.cell? ⟨ga', go' + kk * 2 + 1, none⟩ = some (.slice xa xl.length xc) ∧ w'.cell? ⟨wr.heap.size, 0, none⟩ = some (.bool yb) ∧ w'.cell? ⟨wr.heap.size, 1, none⟩ = some (.slice ya yl.length yc)) (go_keep)
              ((go_at_call 103; refine (unhide CS _ (by first | exact ⟨0, rfl⟩ | exact ⟨1, rfl⟩ | exact ⟨_, rfl⟩)).mono ?_; rintro e w1 ⟨rfl, hd1⟩; replace hd1 := undraw (W := WI) (by first | exact ⟨0, rfl⟩ | exact ⟨1, rfl⟩ | exact ⟨_, rfl⟩) hd1; have c0 := Below.at' hd1 (Nat.le_refl _) x12; have c1 := Below.at' hd1 (Nat.le_refl _) x22; have c2 := Below.at' hd1 (Nat.le_refl _) hbx0; have c3 := Below.at' hd1 (Nat.le_refl _) hbx1; have HD1 := hide hd1; clear hd1))
            clear x12 x22 hbx0 hbx1 x1 x2 y1 y2 c0 c1
            obtain ⟨P, hP, hown, hA⟩ := (HI.out.below HD1.out).row
            have HP := hide hP
            have HA := hide hA
            have hPl : P.length ≤ 8 := by
              have := congrArg List.length hP
              simp at this
              have h2 := List.length_filter_le (fun y => !(xl.any (shareB L y.2))) (R.take j)
              omega
            clear hP hA
            have HIN := hide (HI.out.below HD1.out)
            have hw1s := (HIN.out).size
            go_wp2_with (first
              | (at_builtin; refine wpList_append_lies _ rfl _ _ 22 rfl W0.heap.size 30 iL (.agg #[.bool false, .slice none 0 0]) 2 32 Tryd.underlying22 hL hL0 hL1 hL2 rfl (by decide) _ _ _ rfl (hown.alloc _) ⟨w1.heap.size, 0, none⟩ 1 1 [.bool yb, .slice ya yl.length yc] rfl rfl ?d1 ?d2 (by decide) ?d3 ?d4 ?d5 _ rfl ?_)
              | go_in)
            case d1 => exact new2 _ _ _ _ _ (by simp)
            case d2 => first | exact oneLit _ _ _ _ | exact ⟨rfl, rfl⟩
            case d3 => unfold maxLen; omega
            case d4 => omega
            case d5 => simp; omega
            intro g' cap w2 ho' hgr hat _
            have HN := hide (Inner.apart (y := (yb, yl)) (HIN.out.below ((Below.refl _ _).alloc (Nat.le_refl _) _)) HPV.out (RowK.more (x := (yb, yl)) HP.out HA.out HAY.out ho') hgr (hat.imp id fun h => by rw [h]; simp) hws)
            clear ho' hgr hat hown
            go_wp2
            go_roundw
            case rel => exact ⟨j + 1, by omega, by go_num, by rw [HTK.out]; exact HN.out⟩
            case measure => simp [intOf]; omega
          | true =>
            rw [hpv] at CS
            have HPV := hide hpv
            clear hpv
            rcases HG1.out with ⟨hv, hG1, hgn⟩ | ⟨⟨P, hP, hown, hA⟩, hgn, -⟩
            · have hv' : (b = ga' ∧ o = go') ∧ GG.length = 1 ∧ gcap' = 1 := by
                have := hv
                simp at this
                exact ⟨⟨this.1.1.symm, this.1.2.symm⟩, this.2⟩
              obtain ⟨⟨hb1, hb2'⟩, hGl, hgc1⟩ := hv'
              subst hb1 hb2' hgc1
              obtain ⟨b', o', a0, ac0, e0, -, z1, z2, zc, hZ⟩ := HC.out.cell 0 h0
              obtain ⟨rfl, rfl⟩ : b = b' ∧ o = o' := by simpa using e0
              have HAZ : Hid (AtomB w B (.slice a0 c[0].2.length ac0) c[0].2) := hide ⟨a0, ac0, rfl, zc, hZ⟩
              have HGG : Hid (G ++ (R.take j).filter (fun y => xl.any (shareB L y.2)) = [c[0]]) := hide (hGG.trans hG1)
              have HGN := hide hgn
              have hkx0 : (kk : Int) < 1 := by omega
              subst hG1
              clear hv hGl hgn hZ zc hGG hkx hk' hgc' hGf
              go_wp2_with fail
              generalize hWI : wr.alloc (.cells #[.bool yb, .slice ya yl.length yc] 30) = WI at *
              clear hb2 hWI
              go_region_held3 (fun w' => w'.cell? ⟨b, o + kk * 2, none⟩ = some (.bool xb) ∧ w'.cell? ⟨b, o + kk * 2 + 1, none⟩ = some (.slice xa xl.length xc) ∧ w'.cell? ⟨wr.heap.size, 0, none⟩ = some (.bool yb) ∧ w'.cell? ⟨wr.heap.size, 1, none⟩ = some (.slice ya yl.length yc)) (go_keep)
                ((go_at_call 103; refine (unhide CS _ (by first | exact ⟨0, rfl⟩ | exact ⟨1, rfl⟩ | exact ⟨_, rfl⟩)).mono ?_; rintro e w1 ⟨rfl, hd1⟩; replace hd1 := undraw (W := WI) (by first | exact ⟨0, rfl⟩ | exact ⟨1, rfl⟩ | exact ⟨_, rfl⟩) hd1; have c0 := Below.at' hd1 (Nat.le_refl _) x12; have c1 := Below.at' hd1 (Nat.le_refl _) x22; have c2 := Below.at' hd1 (Nat.le_refl _) hbx0; have c3 := Below.at' hd1 (Nat.le_refl _) hbx1; have HD1 := hide hd1; clear hd1))
              clear x12 x22 hbx0 hbx1 x1 x2 y1 y2 c0 c1
              have HIN := hide (HI.out.below HD1.out)
              have hw1s := (HIN.out).size
              have z1' := Below.at' ((HIN.out.below ((Below.refl _ _).alloc (Nat.le_refl _) (.cells #[.bool yb, .slice ya yl.length yc] 30))).low) (Nat.le_refl _) z1
              have z2' := Below.at' ((HIN.out.below ((Below.refl _ _).alloc (Nat.le_refl _) (.cells #[.bool yb, .slice ya yl.length yc] 30))).low) (Nat.le_refl _) z2
              clear z1 z2
              go_wp2_with (first
                | (at_builtin; refine wpList_append_grows _ rfl _ _ 22 rfl 30 iL (.agg #[.bool false, .slice none 0 0]) 2 32 Tryd.underlying22 hL hL0 hL1 hL2 rfl (by decide) (some ⟨b, o, none⟩) 1 1 (litCells [(c[0], .slice a0 c[0].2.length ac0)]) (by rfl) (by simp) rfl ?s2 ⟨w1.heap.size, 0, none⟩ 1 1 [.bool yb, .slice ya yl.length yc] rfl rfl ?d1 ?d2 (by decide) ?d3 ?d4 ?_)
                | go_in)
              case s2 =>
                rintro _ ⟨⟩ q u hu
                rw [Addr.add_lit]
                match q, hu with
                | 0, hu => simp [litCells] at hu; subst hu; simpa using z1'
                | 1, hu => simp [litCells] at hu; subst hu; simpa using z2'
                | q + 2, hu => simp [litCells] at hu
              case d1 => exact new2 _ _ _ _ _ (by simp)
              case d2 => first | exact oneLit _ _ _ _ | exact ⟨rfl, rfl⟩
              case d3 => unfold maxLen; omega
              case d4 => omega
              intro v' w2 ho' hgr
              obtain ⟨g', cap, rfl, hge, -⟩ := ho'.form (by omega)
              have HN := hide (Inner.group (y := (yb, yl)) (gk' := none) (HIN.out.below ((Below.refl _ _).alloc (Nat.le_refl _) _)) HPV.out (by simp) (by rw [← HGN.out]; exact HG3.out)
                (by rw [HGG.out]; exact GrpV.more (x := (yb, yl)) (P := [(c[0], .slice a0 c[0].2.length ac0)]) rfl (fun q hq => by simp at hq; subst hq; exact HAZ.out) HAY.out (own_mono (B' := w.heap.size) ho' (by have := (HIN.out).low.size; first | (simp; omega) | omega))) hgr (Or.inr (by simpa using hge)) (by simp))
              clear ho' hgr hge
              go_wp2
              go_roundw
              case rel => exact ⟨j + 1, by omega, by go_num, by rw [HTK.out]; exact HN.out⟩
              case measure => simp [intOf]; omega
            · have HP := hide hP
              have HA := hide hA
              have HGN := hide hgn
              have HGG := hide hGG
              have hPl : P.length ≤ 8 := by
                have := congrArg List.length hP
                simp at this
                omega
              have HOW := hide hown
              clear hP hA hgn hGG hown
              go_wp2_with fail
              generalize hWI : wr.alloc (.cells #[.bool yb, .slice ya yl.length yc] 30) = WI at *
              clear hb2 hWI
              go_region_held3 (fun w' => w'.cell? ⟨ga', go' + kk * 2, none⟩ = some (.bool xb) ∧ w'.cell? ⟨ga', go' + kk * 2 + 1, none⟩ = some (.slice xa xl.length xc) ∧ w'.cell? ⟨wr.heap.size, 0, none⟩ = some (.bool yb) ∧ w'.cell? ⟨wr.heap.size, 1, none⟩ = some (.slice ya yl.length yc)) (go_keep)
                ((go_at_call 103; refine (unhide CS _ (by first | exact ⟨0, rfl⟩ | exact ⟨1, rfl⟩ | exact ⟨_, rfl⟩)).mono ?_; rintro e w1 ⟨rfl, hd1⟩; replace hd1 := undraw (W := WI) (by first | exact ⟨0, rfl⟩ | exact ⟨1, rfl⟩ | exact ⟨_, rfl⟩) hd1; have c0 := Below.at' hd1 (Nat.le_refl _) x12; have c1 := Below.at' hd1 (Nat.le_refl _) x22; have c2 := Below.at' hd1 (Nat.le_refl _) hbx0; have c3 := Below.at' hd1 (Nat.le_refl _) hbx1; have HD1 := hide hd1; clear hd1))
              clear x12 x22 hbx0 hbx1 x1 x2 y1 y2 c0 c1
              have HIN := hide (HI.out.below HD1.out)
              have hw1s := (HIN.out).low.size
              have hown := own_below HOW.out HD1.out (Nat.le_refl _)
              go_wp2_with (first
                | (at_builtin; refine wpList_append_lies _ rfl _ _ 22 rfl w.heap.size 30 iL (.agg #[.bool false, .slice none 0 0]) 2 32 Tryd.underlying22 hL hL0 hL1 hL2 rfl (by decide) _ _ _ rfl (hown.alloc _) ⟨w1.heap.size, 0, none⟩ 1 1 [.bool yb, .slice ya yl.length yc] rfl rfl ?d1 ?d2 (by decide) ?d3 ?d4 ?d5 _ rfl ?_)
                | go_in)
              case d1 => exact new2 _ _ _ _ _ (by simp)
              case d2 => first | exact oneLit _ _ _ _ | exact ⟨rfl, rfl⟩
              case d3 => unfold maxLen; omega
              case d4 => omega
              case d5 => simp; omega
              intro g' cap w2 ho' hgr hat _
              have HN := hide (Inner.group (y := (yb, yl)) (gk' := gk') (HIN.out.below ((Below.refl _ _).alloc (Nat.le_refl _) _)) HPV.out HG2.out HG3.out
                (by rw [HGG.out]; exact GrpV.more (x := (yb, yl)) HP.out HA.out HAY.out ho') (by rw [HGN.out]; exact hgr) (by rw [HGN.out]; exact hat.imp id fun h => by rw [h]; simp) (fun k hk => (HG1.out.lt k hk).1))
              clear ho' hgr hat hown
              go_wp2
              go_roundw
              case rel => exact ⟨j + 1, by omega, by go_num, by rw [HTK.out]; exact HN.out⟩
              case measure => simp [intOf]; omega
        · have hRk : R.take j = R := List.take_of_length_le (by omega)
          rw [hRk] at hI
          have hp := len_parts (fun y => x.2.any (shareB L y.2)) R
          obtain ⟨gk', hg1, hg2, hg3⟩ := hI.grp
          obtain ⟨aa, acap, rfl, ha1, ha2, ha3⟩ := hI.row.lits hI.low (by omega)
          have HG1 := hide hg1
          have HA2 := hide ha2
          have HA3 := hide (fun q (h : aa = some q) => hg2 q.block (ha3 q h))
          have HL := hide hI.low
          have HSN : Hid (∀ z ∈ (G ++ R.filter fun y => x.2.any (shareB L y.2)).take (kk + 1), ∀ y ∈ R.filter fun y => !(x.2.any (shareB L y.2)), z.2.any (shareB L y.2) = false) := hide (by
            intro z hz y hy
            rw [List.take_append_of_le_length (by omega), List.take_succ_eq_append_getElem hlt] at hz
            rw [List.mem_filter] at hy
            rcases List.mem_append.1 hz with hz | hz
            · exact HSH.out z hz y hy.1
            · simp at hz
              rw [hz, ← HX.out]
              simpa using hy.2)
          have hG8' : (G ++ R.filter fun y => x.2.any (shareB L y.2)).length = G.length + (R.filter fun y => x.2.any (shareB L y.2)).length := by simp
          clear hRk hI hg1 hg2 hg3 ha2 ha3
          go_wp2
          go_roundw
          case rel => exact ⟨kk + 1, _, _, gk', aa, acap, by omega, by go_num, HG1.out, rfl, ha1, HA2.out, HA3.out, HL.out, mem_parts _ G R c HMEM.out, by omega, by omega, HSN.out⟩
          case measure => simp [intOf]; omega
    · have HGL := hide hGL
      have HR := hide hR
      have HMEM := hide hmem
      have HB := hide hb
      have HA : Hid (Apart L G R) := hide (by
        intro z hz y hy
        rw [List.take_of_length_le (by omega)] at hsh
        exact share_apart (hsh z hz y hy))
      have hgl : ¬ (kk : Int) < (G.length : Int) := by omega
      clear hGL hR hq hmem hsh hG hb
      go_wp2
      go_ret2
      exact ⟨G, R, ga, go, gcap, ra, rcap, rfl, hgc, hrc, HGL.out, HR.out, HMEM.out, hlen, hG0, HA.out, HB.out⟩

end Go.Proofs.YtjnddclkdofgdaaDoor
