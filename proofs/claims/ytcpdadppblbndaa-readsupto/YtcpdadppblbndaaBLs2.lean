/- The book takes a list of clauses. -/
import Derived.Test.YtcpdadppblbndaaRdMM
namespace Go.Proofs.Ytcpdadppblbndaa
open Go.RowKit Go.Shelf
set_option maxRecDepth 100000

theorem infoLitss2 : (Try.prog.info? 26).map (fun i => (i.zero, i.size, i.bytes)) = some (some (.slice none 0 0), 1, 24) := by kernel_rfl
theorem lisEl_one (gl : Nat) : ∀ u ∈ lisEl gl, u.oneCell' = true := by
  intro u hu
  simp at hu
  subst hu
  rfl
theorem fill_put1 (a : Value) (xs : List Value) (k : Nat) (h : k + 1 ≤ xs.length) : (rep k [a] ++ xs.drop k).set k a = rep (k + 1) [a] ++ xs.drop (k + 1) := by
  have hl : (rep k [a]).length = k := by rw [rep_length]; simp
  have hd : xs.drop k = xs[k] :: xs.drop (k + 1) := List.drop_eq_getElem_cons (by omega)
  have hr : rep (k + 1) [a] = rep k [a] ++ [a] := by rw [rep_add, rep_succ]; simp [rep]
  rw [hd, hr, List.set_append_right _ _ (by omega), hl, Nat.sub_self, List.set_cons_zero, List.append_assoc]
  rfl
theorem DSt.put1 {w wr : World} {B bk g n c k : Nat} {nv mv nv1 mv1 xv yv a : Value} {L : List Value} {E : List (Value × Int)} {F : List LTri} {G : List GTri} {m : Int} {e : TypeId} {xs : List Value} {K : List (Nat × Obj)} (h : DSt w B bk nv mv L nv1 mv1 xv yv E F G m e [a] (.slice (some ⟨g, 0, none⟩) n c) n (rep k [a] ++ xs.drop k) K [] wr) (hk : k + 1 ≤ xs.length) :
    DSt w B bk nv mv L nv1 mv1 xv yv E F G m e [a] (.slice (some ⟨g, 0, none⟩) n c) n (rep (k + 1) [a] ++ xs.drop (k + 1)) K [] (wr.setCell ⟨g, k, none⟩ a) := by
  have s1 := (h.own.stored k a).1
  rw [fill_put1 a xs k hk] at s1
  exact h.grown (grown_setCell wr ⟨g, k, none⟩ a) s1 (by simp)
/-- The book behind a list of clauses. -/
structure OlR (w : World) (B bk : Nat) (nv mv xv yv l : Value) (E : List (Value × Int)) (F : List LTri) (G : List GTri) (next : Int) (QV : List (List (Lt × Value) × Value)) (w' : World) (nv' mv' xv' yv' : Value) (E1 : List (Value × Int)) (F1 : List LTri) (G1 : List GTri) (next1 : Int) : Prop where
  book : Book2 w' B bk nv' mv' xv' yv' E1 F1 G1 next1
  lenE : E1.length ≤ E.length + 1280
  lenF : F1.length ≤ F.length + 40
  lenG : G1.length = G.length + 1
  lo : next - 361 ≤ next1
  far : AFar w w' bk nv mv (xv :: yv :: l :: inner QV)
  mn : Moved w nv nv'
  mm : Moved w mv mv'
  mx : Moved w xv xv'
  my : Moved w yv yv'
  held : ∀ k ∈ held E1 F1 G1, k ∈ Go.Proofs.Ytcpdadppblbndaa.held E F G ∨ l.ownBlock = some k ∨ (∃ v ∈ inner QV, v.ownBlock = some k) ∨ w.heap.size ≤ k

set_option maxHeartbeats 4000000 in
theorem ownsClauses_any (B bk : Nat) (nv mv xv yv l : Value) (E : List (Value × Int)) (F : List LTri) (G : List GTri) (next : Int) (QV : List (List (Lt × Value) × Value)) (w : World) (h : Book2 w B bk nv mv xv yv E F G next) (ht : Takes w B xv l E F G QV) (hE : E.length ≤ 7000000000) (hF1 : F.length < 900000000) (hG1 : G.length < 900000000) (hnx : -7000000000 ≤ next) (hB : B ≤ w.heap.size) :
    Calls Try.prog 10 #[.pointer (some ⟨bk, 0, none⟩), l] w fun e w' => e = .returned (.tuple #[]) ∧ ∃ nv' mv' xv' yv' E1 F1 G1 next1, OlR w B bk nv mv xv yv l E F G next QV w' nv' mv' xv' yv' E1 F1 G1 next1 := by
  obtain ⟨la, lc, rfl⟩ := own_shape ht.mem.mem.1
  obtain ⟨ya, yn, yc, rfl⟩ := own_shape3 h.ry
  have H0 : Hid (BSt w B bk nv mv xv (.slice ya yn yc) E F G next QV 0 w nv mv xv E F next) := hide (BSt.start h)
  have HT := hide ht
  have HH := hide h
  have h40 := ht.few
  clear h ht
  go_enter Try.func10, Try.ntmps10
  go_wp2
  go_loopw [4] (fun i wr => ∃ (k : Nat) (nv1 mv1 xv1 : Value) (E1 : List (Value × Int)) (F1 : List LTri) (next1 : Int), k ≤ QV.length ∧ i = .int .i64 k ∧ BSt w B bk nv mv xv (.slice ya yn yc) E F G next QV k wr nv1 mv1 xv1 E1 F1 next1) (fun i _ => QV.length - (intOf i).toNat)
  case atStart => exact ⟨0, nv, mv, xv, E, F, next, Nat.zero_le _, rfl, H0.out⟩
  case round =>
    obtain ⟨k, nv1, mv1, xv1, E1, F1, next1, hk, rfl, hS⟩ := hrel
    obtain ⟨hrow, hrd⟩ := hS.ready HH.out HT.out
    have hlE := hS.lenE
    have hlF := hS.lenF
    have hlo := hS.lo
    have hz := hS.far.size
    by_cases hlt : k < QV.length
    · obtain ⟨hcl, hat, hapk⟩ := hrd hlt
      have h8 := HT.out.small QV[k] (List.getElem_mem _)
      have hcm := (HT.out.mem.mem.2 QV[k] (List.getElem_mem _)).2
      obtain ⟨gC, cC, hva⟩ := own_at hrow (by omega)
      simp at hva
      obtain ⟨rfl, rfl⟩ := hva
      have e2 : wr.cell? ⟨gC, k, none⟩ = some QV[k].2 := by rw [hrow.cellAt _ (by omega)]; simp [hlt]
      have HMORE := hide (fun (w2 : World) (nv2 mv2 xv2 : Value) (E2 : List (Value × Int)) (F2 : List LTri) (r : OcR wr B bk nv1 mv1 xv1 (.slice ya yn yc) QV[k].2 E1 F1 G next1 QV[k].1 w2 nv2 mv2 xv2 E2 F2) => hS.more hlt h8 r)
      have CN := hide (ownsClause_any B bk nv1 mv1 xv1 (.slice ya yn yc) QV[k].2 E1 F1 G next1 QV[k].1 wr hS.book hcl hat (fun q hq => Nat.le_trans (countL_mem (QV[k].1.map Prod.fst) q.1 (List.mem_map_of_mem hq)) hcm.2.1) hcm.2.2 (HT.out.nodup hlt) hapk (by omega) (by omega) (by omega) (by omega))
      obtain ⟨aa, an, ac, hsh⟩ := own_shape3 hcl
      rw [hsh] at e2 CN HMORE
      clear hS hrow hrd hcl hat hapk hsh h8 hcm
      go_wp2_with (first
        | (go_at_call 21; refine (unhide CN).mono ?_; rintro e w2 ⟨rfl, nv2, mv2, xv2, E2, F2, hr2⟩; have HS2 := hide (HMORE.out w2 nv2 mv2 xv2 E2 F2 hr2); clear hr2)
        | go_in)
      go_roundw
      case rel => exact ⟨k + 1, nv2, mv2, xv2, E2, F2, _, by omega, by go_num, HS2.out⟩
      case measure => simp [intOf]; omega
    · have hke : k = QV.length := by omega
      subst hke
      have c8 := hS.book.base.c8
      have f8 := hS.book.base.soft 8
      have hbl := hS.book.base.lt
      have hlo1 := hS.book.base.lo
      have hhi := hS.book.base.hi
      have hmn := hS.mn
      have hmm := hS.mm
      have hmx := hS.mx
      have hheld := hS.held
      rw [List.take_length] at hheld
      have hD := hS.full HT.out hrow (by omega) (by omega)
      have HD := hide hD
      have HHELD := hide hheld
      clear hS hrow hrd hD hheld
      go_upto_region 6 with (fail)
      have hmr : -10000000000 ≤ next1 - 1 ∧ next1 - 1 ≤ 0 ∧ next - 361 ≤ next1 - 1 := by omega
      clear c8 f8 hlo hhi hlo1
      generalize ((wr.setCell ⟨bk, 8, none⟩ (.int .i64 (next1 - 1))).alloc (.cells #[.string ⟨#[61]⟩, .int .i64 (next1 - 1)] 46)).alloc (.cells (litEl wr.heap.size).toArray 49) = W2 at *
      generalize next1 - 1 = m at *
      generalize wr.heap.size = ga at *
      go_wp2
      go_loopw [6] (fun i wr => ∃ k : Nat, k ≤ QV.length ∧ i = .int .i64 k ∧ DSt w B bk nv mv (xv :: .slice ya yn yc :: .slice la QV.length lc :: inner QV) nv1 mv1 xv1 (.slice ya yn yc) E1 F1 G m 42 (lisEl (ga + 1)) (.slice la QV.length lc) QV.length (rep k (lisEl (ga + 1)) ++ (QV.map Prod.snd).drop k) [(ga, Obj.cells #[Value.string { data := #[61] }, Value.int IntKind.i64 m] 46), (ga + 1, Obj.cells (litEl ga).toArray 49)] [] wr) (fun i _ => QV.length - (intOf i).toNat)
      case atStart => exact ⟨0, Nat.zero_le _, rfl, by simpa [rep] using HD.out⟩
      case round =>
        obtain ⟨k, hk, rfl, hW⟩ := hrel
        have hown : wr.ownsRow B 42 1 (.slice la QV.length lc) QV.length (rep k (lisEl (ga + 1)) ++ (QV.map Prod.snd).drop k) := hW.own
        by_cases hlt2 : k < QV.length
        · have hlti : (k : Int) < (QV.length : Int) := by omega
          obtain ⟨g, c', hva⟩ := own_at hown (by omega)
          simp at hva
          obtain ⟨rfl, rfl⟩ := hva
          have f0 := hown.frozenAt k
          have hrl : (rep k (lisEl (ga + 1))).length = k := by rw [rep_length]; simp
          have e0 : wr.cell? ⟨g, k, none⟩ = some QV[k].2 := by
            rw [hown.cellAt k (by omega), List.getElem?_append_right (by omega), List.getElem?_drop, hrl, show k + (k - k) = k by omega]
            simp [hlt2]
          have HP := hide (hW.put1 (by simp; omega))
          clear hW hown
          go_wp2
          go_roundw
          case rel => exact ⟨k + 1, by omega, by go_num, HP.out⟩
          case measure => simp [intOf]; omega
        · have hke : k = QV.length := by omega
          subst hke
          rw [List.drop_eq_nil_of_le (by simp), List.append_nil] at hW
          have HS0 := hide (hW.start (by omega))
          have hws := hW.far.size
          have hF := hW.book.fewF
          have hbl3 := hW.book.base.lt
          clear hW hown HD
          go_wp2_with (first
            | (at_builtin; refine wpList_append_vals rfl (.tmp 59) (.tmp 63) 27 26 rfl (.slice none 0 0) 24 Try.underlying27 infoLitss2 rfl (by omega) B _ (G.length * 3) (G.flatMap GTri.vals) rfl (HS2.out.book.ry.alloc _) (by omega) (by simp; omega) w2.heap.size 3 3 [.slice la QV.length lc, .slice a1 (QV.length + 1) c1, .slice a2 (QV.length + 2) c2] rfl rfl (by omega) (news3v w2 _ _ _ 26) (one3v _ _ _ _ _ _ _ _ _) ?_; intro v3 w3 r1 r2 r3; obtain ⟨hM, d0, df⟩ := HS2.out.lists (ga := ga) (gl := ga + 1) (by simp) (by simp) (by simp) (by omega) ⟨_, _, _, rfl⟩ r1 r2 r3 (by omega); have HM := hide hM; have hw3 : w2.heap.size ≤ w3.heap.size := (by have := r2.size; simp at this; omega); obtain ⟨a3, n3, c3, rfl⟩ := own_shape3 r1; clear r1 r2 r3 hM)
            | (at_builtin; refine wpList_append_rep rfl (.tmp 50) (.tmp 53) 26 42 rfl (lisEl (ga + 1)) (.slice none 0 0) 24 Try.underlying26 infoLits2 rfl (Nat.succ_pos _) (by omega) (lisEl_one (ga + 1)) B _ QV.length rfl (HS1.out.own.alloc _) (by simp; omega) ⟨w1.heap.size, 0, none⟩ 2 2 rfl (by omega) (by omega) (news_rep w1 (rep 2 (lisEl (ga + 1))) 42) ?_; intro v2 w2 r1 r2 r3 r4 r5; have HS2 := hide (HS1.out.next r1 r2 r3 r4 r5 (by omega)); have hw2 := HS2.out.far.size; have q2 := HS2.out.book.base.c3; have hbl5 := HS2.out.book.base.lt; obtain ⟨a2, c2, rfl⟩ := own_shape r1; clear r1 r2 r3 r4 r5)
            | (at_builtin; refine wpList_append_rep rfl (.tmp 46) (.tmp 48) 26 42 rfl (lisEl (ga + 1)) (.slice none 0 0) 24 Try.underlying26 infoLits2 rfl (Nat.succ_pos _) (by omega) (lisEl_one (ga + 1)) B _ QV.length rfl (HS0.out.own.alloc _) (by simp; omega) ⟨wr.heap.size, 0, none⟩ 1 1 rfl (by omega) (by omega) (news_rep wr (rep 1 (lisEl (ga + 1))) 42) ?_; intro v1 w1 r1 r2 r3 r4 r5; have HS1 := hide (HS0.out.next r1 r2 r3 r4 r5 (by omega)); have hw1 := HS1.out.far.size; have hbl4 := HS1.out.book.base.lt; obtain ⟨a1, c1, rfl⟩ := own_shape r1; clear r1 r2 r3 r4 r5)
            | go_in)
          go_end0
          obtain ⟨m1, m2, m3, m4⟩ := HM.out
          refine ⟨rfl, nv1, mv1, xv1, _, E1, F1, _, m, ⟨m1, by omega, by omega, by simp, hmr.2.2, m2, hmn, hmm, hmx, m3, fun j hj => ?_⟩⟩
          rcases m4 j hj with q | q | q
          · rcases HHELD.out j q with q | q | q
            · exact Or.inl q
            · exact Or.inr (Or.inr (Or.inl q))
            · exact Or.inr (Or.inr (Or.inr q))
          · exact Or.inr (Or.inl q)
          · exact Or.inr (Or.inr (Or.inr q))

end Go.Proofs.Ytcpdadppblbndaa
