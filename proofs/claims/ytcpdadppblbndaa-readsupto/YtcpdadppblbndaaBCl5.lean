/- The book takes a clause. -/
import Derived.Test.YtcpdadppblbndaaBCl4M
namespace Go.Proofs.Ytcpdadppblbndaa
open Go.RowKit Go.Shelf
set_option maxRecDepth 100000

theorem infoLit2 : (Try.prog.info? 49).map (fun i => (i.zero, i.size, i.bytes)) = some (some (.agg #[.bool false, .slice none 0 0]), 2, 32) := by kernel_rfl
theorem infoLits2 : (Try.prog.info? 42).map (fun i => (i.zero, i.size, i.bytes)) = some (some (.slice none 0 0), 1, 24) := by kernel_rfl
theorem litEl_one (ga : Nat) : ∀ u ∈ litEl ga, u.oneCell' = true := by
  intro u hu
  simp at hu
  rcases hu with rfl | rfl <;> rfl
theorem DSt.put2 {w wr : World} {B bk g n c k : Nat} {nv mv nv1 mv1 xv yv a b : Value} {L : List Value} {E : List (Value × Int)} {F : List LTri} {G : List GTri} {m : Int} {e : TypeId} {xs : List Value} {K : List (Nat × Obj)} (h : DSt w B bk nv mv L nv1 mv1 xv yv E F G m e [a, b] (.slice (some ⟨g, 0, none⟩) n c) n (rep k [a, b] ++ xs.drop (k * 2)) K [] wr) (hk : (k + 1) * 2 ≤ xs.length) :
    DSt w B bk nv mv L nv1 mv1 xv yv E F G m e [a, b] (.slice (some ⟨g, 0, none⟩) n c) n (rep (k + 1) [a, b] ++ xs.drop ((k + 1) * 2)) K [] ((wr.setCell ⟨g, k * 2, none⟩ a).setCell ⟨g, k * 2 + 1, none⟩ b) := by
  have s1 := (h.own.stored (k * 2) a).1
  have s2 := (s1.stored (k * 2 + 1) b).1
  rw [fill_put a b xs k hk] at s2
  exact h.grown ((grown_setCell wr ⟨g, k * 2, none⟩ a).trans (grown_setCell (wr.setCell ⟨g, k * 2, none⟩ a) ⟨g, k * 2 + 1, none⟩ b)) s2 (by simp)
theorem BookIn.c2 {w : World} {B bk : Nat} {xy : Value × Value} {nv mv : Value} {E : List (Value × Int)} {next : Int} (h : BookIn w B bk xy nv mv E next) : w.cell? ⟨bk, 2, none⟩ = some xy.1 := by simp [World.cell?, h.box]
theorem BookIn.c3 {w : World} {B bk : Nat} {xy : Value × Value} {nv mv : Value} {E : List (Value × Int)} {next : Int} (h : BookIn w B bk xy nv mv E next) : w.cell? ⟨bk, 3, none⟩ = some xy.2 := by simp [World.cell?, h.box]
theorem box2 {w : World} {bx : Nat} {a b : Value} {t : TypeId} (h : w.heap[bx]? = some (.cells [a, b].toArray t)) : w.cell? ⟨bx, 0, none⟩ = some a ∧ w.cell? ⟨bx, 1, none⟩ = some b := by
  constructor <;> simp [World.cell?, h]
/-- The book behind a clause. -/
structure OcR (w : World) (B bk : Nat) (nv mv xv yv c : Value) (E : List (Value × Int)) (F : List LTri) (G : List GTri) (next : Int) (Q : List (Lt × Value)) (w' : World) (nv' mv' xv' : Value) (E1 : List (Value × Int)) (F1 : List LTri) : Prop where
  book : Book2 w' B bk nv' mv' xv' yv E1 F1 G (next - Q.length - 1)
  lenE : E1.length = E.length + 4 * Q.length
  lenF : F1.length = F.length + 1
  far : AFar w w' bk nv mv (xv :: c :: Q.map Prod.snd)
  mn : Moved w nv nv'
  mm : Moved w mv mv'
  mx : Moved w xv xv'
  held : ∀ k ∈ held E1 F1 G, k ∈ Go.Proofs.Ytcpdadppblbndaa.held E F G ∨ c.ownBlock = some k ∨ (∃ q ∈ Q, q.2.ownBlock = some k) ∨ w.heap.size ≤ k
set_option maxHeartbeats 4000000 in
theorem ownsClause_any (B bk : Nat) (nv mv xv yv c : Value) (E : List (Value × Int)) (F : List LTri) (G : List GTri) (next : Int) (Q : List (Lt × Value)) (w : World) (h : Book2 w B bk nv mv xv yv E F G next) (hr : w.ownsRow B 49 2 c Q.length (litCells Q)) (ha : ∀ q ∈ Q, OwnN w B q.2 q.1.2) (hsm : ∀ q ∈ Q, q.1.2.length ≤ 1000000) (hQ : Q.length ≤ 1000000) (hnd : ((Q.map Prod.snd).filterMap Value.ownBlock).Nodup) (hap : ∀ k ∈ held E F G, c.ownBlock ≠ some k ∧ ∀ q ∈ Q, q.2.ownBlock ≠ some k) (hE : E.length ≤ 8000000000) (hF1 : F.length < 1000000000) (hnx : -8000000000 ≤ next) (hB : B ≤ w.heap.size) :
    Calls Try.prog 21 #[.pointer (some ⟨bk, 0, none⟩), c] w fun e w' => e = .returned (.tuple #[]) ∧ ∃ nv' mv' xv' E1 F1, OcR w B bk nv mv xv yv c E F G next Q w' nv' mv' xv' E1 F1 := by
  obtain ⟨ca, cc, rfl⟩ := own_shape hr
  obtain ⟨xa, xn, xc, rfl⟩ := own_shape3 h.rx
  have H0 : Hid (ASt w B bk nv mv (.slice xa xn xc) yv E F G next (Q.map Prod.snd) 0 w nv mv E) := hide ⟨by simpa using h, by simp, by simpa using AFar.refl w bk nv mv, Moved.refl _ _, Moved.refl _ _, fun j hj => Or.inl hj⟩
  have HR := hide hr
  have HA := hide ha
  have HND := hide hnd
  have HAP := hide hap
  have HSM := hide hsm
  have HH := hide h
  have HF := hide hF1
  clear h hr ha hnd hap hsm
  go_enter Try.func21, Try.ntmps21
  go_wp2
  go_loopw [4] (fun i wr => ∃ (k : Nat) (nv1 mv1 : Value) (E1 : List (Value × Int)), k ≤ Q.length ∧ i = .int .i64 k ∧ ASt w B bk nv mv (.slice xa xn xc) yv E F G next (Q.map Prod.snd) k wr nv1 mv1 E1) (fun i _ => Q.length - (intOf i).toNat)
  case atStart => exact ⟨0, nv, mv, E, Nat.zero_le _, rfl, H0.out⟩
  case round =>
    obtain ⟨k, nv1, mv1, E1, hk, rfl, hS⟩ := hrel
    obtain ⟨hrow, hrd⟩ := hS.ready HH.out HR.out HA.out HND.out HAP.out
    have hlen := hS.len
    have hz := hS.far.size
    by_cases hlt : k < Q.length
    · obtain ⟨hatom, hapk⟩ := hrd hlt
      have hq := HSM.out Q[k] (List.getElem_mem _)
      obtain ⟨gC, cC, hva⟩ := own_at hrow (by omega)
      simp at hva
      obtain ⟨rfl, rfl⟩ := hva
      have e2 : wr.cell? ⟨gC, k * 2 + 1, none⟩ = some Q[k].2 := by rw [hrow.cellAt _ (by omega), (litCells_at Q k hlt).2]
      have HMORE := hide (fun (w2 : World) (nv2 mv2 : Value) (E2 : List (Value × Int)) (r : OwR wr B bk (.slice xa xn xc, yv) nv1 mv1 Q[k].2 E1 (next - k) w2 nv2 mv2 E2) => hS.more (l := Q[k].1.2) (by simpa using hlt) (by simpa using hatom) (by simpa using hapk) (by simpa using r))
      have CN := hide (ownsNodes_any (xy := (.slice xa xn xc, yv)) B bk nv1 mv1 Q[k].2 E1 (next - k) Q[k].1.2 wr hS.book.base hatom (fun x hx => by
        cases hb : x.1.ownBlock with
        | none => exact Or.inl rfl
        | some j => exact Or.inr fun e => hapk j (List.mem_append.2 (Or.inl (List.mem_filterMap.2 ⟨x, hx, hb⟩))) e.symm) (by omega) (by omega) (by omega) (by omega))
      obtain ⟨aa, an, ac, hsh⟩ := own_shape3 hatom
      rw [hsh] at e2 CN HMORE
      clear hS hrow hrd hatom hapk hsh hq
      go_wp2_with (first
        | (go_at_call 34; refine (unhide CN).mono ?_; rintro e w2 ⟨nv2, mv2, E2, rfl, hr2⟩; have HS2 := hide (HMORE.out w2 nv2 mv2 E2 hr2); clear hr2)
        | go_in)
      go_roundw
      case rel => exact ⟨k + 1, nv2, mv2, _, by omega, by go_num, HS2.out⟩
      case measure => simp [intOf]; omega
    · have hke : k = Q.length := by omega
      subst hke
      have c8 := hS.book.base.c8
      have f8 := hS.book.base.soft 8
      have hbl := hS.book.base.lt
      have hlo := hS.book.base.lo
      have hhi := hS.book.base.hi
      have hlen := hS.len
      have hz := hS.far.size
      have hmn := hS.mn
      have hmm := hS.mm
      have hheld := hS.held
      have hD := hS.full HR.out hrow HA.out (fun k hk => (HAP.out k hk).1) (by omega) (by omega)
      have HD := hide hD
      have HHELD := hide hheld
      have hE1 : E1.length ≤ 9000000000 := by omega
      clear hS hrow hrd hD hheld
      go_upto_region 6 with (fail)
      have hmr : -10000000000 ≤ next - (Q.length : Int) - 1 ∧ next - (Q.length : Int) - 1 ≤ 0 := by omega
      clear c8 f8 hlo hhi
      generalize ((wr.setCell ⟨bk, 8, none⟩ (.int .i64 (next - (Q.length : Int) - 1))).alloc (.cells #[.string ⟨#[61]⟩, .int .i64 (next - (Q.length : Int) - 1)] 46)).alloc (.cells (litEl wr.heap.size).toArray 49) = W2 at *
      generalize hMM : next - (Q.length : Int) - 1 = m at *
      have HMM := hide hMM
      clear hMM
      generalize wr.heap.size = ga at *
      go_wp2
      go_loopw [6] (fun i wr => ∃ k : Nat, k ≤ Q.length ∧ i = .int .i64 k ∧ DSt w B bk nv mv (.slice xa xn xc :: Value.slice ca Q.length cc :: List.map Prod.snd Q) nv1 mv1 (.slice xa xn xc) yv E1 F G m 49 (litEl ga) (Value.slice ca Q.length cc) Q.length (rep k (litEl ga) ++ (litCells Q).drop (k * 2)) [(ga, Obj.cells #[Value.string { data := #[61] }, Value.int IntKind.i64 m] 46), (ga + 1, Obj.cells (litEl ga).toArray 49)] [] wr) (fun i _ => Q.length - (intOf i).toNat)
      case atStart => exact ⟨0, Nat.zero_le _, rfl, by simpa [rep] using HD.out⟩
      case round =>
        obtain ⟨k, hk, rfl, hW⟩ := hrel
        have hkb : wr.heap[ga + 1]? = some (.cells (litEl ga).toArray 49) := hW.kept (ga + 1, .cells (litEl ga).toArray 49) (List.mem_cons_of_mem _ (List.mem_cons_self ..))
        obtain ⟨z0, z1⟩ := box2 hkb
        have hown : wr.ownsRow B 49 2 (Value.slice ca Q.length cc) Q.length (rep k (litEl ga) ++ (litCells Q).drop (k * 2)) := hW.own
        clear hkb
        by_cases hlt2 : k < Q.length
        · have hlti : (k : Int) < (Q.length : Int) := by omega
          have hll := litCells_length Q
          obtain ⟨g, c', hva⟩ := own_at hown (by omega)
          simp at hva
          obtain ⟨rfl, rfl⟩ := hva
          have f0 := hown.frozenAt (k * 2)
          have f1 := hown.frozenAt (k * 2 + 1)
          have hrl : (rep k (litEl ga)).length = k * 2 := rep_length _ _
          have e0 : wr.cell? ⟨g, k * 2, none⟩ = some (.bool Q[k].1.1) := by
            rw [hown.cellAt (k * 2) (by omega), List.getElem?_append_right (by omega), List.getElem?_drop, hrl, show k * 2 + (k * 2 - k * 2) = k * 2 by omega, (litCells_at Q k hlt2).1]
          have e1 : wr.cell? ⟨g, k * 2 + 1, none⟩ = some Q[k].2 := by
            rw [hown.cellAt (k * 2 + 1) (by omega), List.getElem?_append_right (by omega), List.getElem?_drop, hrl, show k * 2 + (k * 2 + 1 - k * 2) = k * 2 + 1 by omega, (litCells_at Q k hlt2).2]
          have HP := hide (hW.put2 (by omega))
          clear hW hown
          go_wp2
          go_roundw
          case rel => exact ⟨k + 1, by omega, by go_num, HP.out⟩
          case measure => simp [intOf]; omega
        · have hke : k = Q.length := by omega
          subst hke
          rw [List.drop_eq_nil_of_le (by rw [litCells_length]; omega), List.append_nil] at hW
          have HS0 := hide (hW.start (by omega))
          have hws := hW.far.size
          have hF := hW.book.fewF
          have hbl3 := hW.book.base.lt
          clear hW hown HD
          go_wp2_with (first
            | (at_builtin; refine wpList_append_vals rfl (.tmp 59) (.tmp 63) 26 42 rfl (.slice none 0 0) 24 Try.underlying26 infoLits2 rfl (by omega) B _ (F.length * 3) (F.flatMap LTri.vals) rfl (HS2.out.book.rx.alloc _) (by omega) (by simp; omega) w2.heap.size 3 3 [.slice ca Q.length cc, .slice a1 (Q.length + 1) c1, .slice a2 (Q.length + 2) c2] rfl rfl (by omega) (news3v w2 _ _ _ 42) (one3v _ _ _ _ _ _ _ _ _) ?_; intro v3 w3 r1 r2 r3; obtain ⟨hM, d0, df⟩ := HS2.out.lits (by simp) (by simp) (by omega) ⟨_, _, _, rfl⟩ r1 r2 r3 HF.out; have HM := hide hM; have hw3 : w2.heap.size ≤ w3.heap.size := (by have := r2.size; simp at this; omega); obtain ⟨a3, n3, c3, rfl⟩ := own_shape3 r1; clear r1 r2 r3 hM)
            | (at_builtin; refine wpList_append_rep rfl (.tmp 50) (.tmp 53) 42 49 rfl (litEl ga) (.agg #[.bool false, .slice none 0 0]) 32 Try.underlying42 infoLit2 rfl (Nat.succ_pos _) (by omega) (litEl_one ga) B _ Q.length rfl (HS1.out.own.alloc _) (by simp; omega) ⟨w1.heap.size, 0, none⟩ 2 2 rfl (by omega) (by omega) (news_rep w1 (rep 2 (litEl ga)) 49) ?_; intro v2 w2 r1 r2 r3 r4 r5; have HS2 := hide (HS1.out.next r1 r2 r3 r4 r5 (by omega)); have hw2 := HS2.out.far.size; have q2 := HS2.out.book.base.c2; have hbl5 := HS2.out.book.base.lt; obtain ⟨a2, c2, rfl⟩ := own_shape r1; clear r1 r2 r3 r4 r5)
            | (at_builtin; refine wpList_append_rep rfl (.tmp 46) (.tmp 48) 42 49 rfl (litEl ga) (.agg #[.bool false, .slice none 0 0]) 32 Try.underlying42 infoLit2 rfl (Nat.succ_pos _) (by omega) (litEl_one ga) B _ Q.length rfl (HS0.out.own.alloc _) (by simp; omega) ⟨wr.heap.size, 0, none⟩ 1 1 rfl (by omega) (by omega) (news_rep wr (rep 1 (litEl ga)) 49) ?_; intro v1 w1 r1 r2 r3 r4 r5; have HS1 := hide (HS0.out.next r1 r2 r3 r4 r5 (by omega)); have hw1 := HS1.out.far.size; obtain ⟨y0, y1⟩ := box2 (show w1.heap[ga + 1]? = some (.cells (litEl ga).toArray 49) from HS1.out.kept (ga + 1, .cells (litEl ga).toArray 49) (List.mem_cons_of_mem _ (List.mem_cons_self ..))); have hbl4 := HS1.out.book.base.lt; obtain ⟨a1, c1, rfl⟩ := own_shape r1; clear r1 r2 r3 r4 r5)
            | go_in)
          go_end0
          obtain ⟨m1, m2, m3, m4⟩ := HM.out
          refine ⟨rfl, nv1, mv1, _, E1, _, ⟨by rw [HMM.out]; exact m1, hlen, by simp, m2, hmn, hmm, m3, fun j hj => ?_⟩⟩
          rcases m4 j hj with q | q | q
          · rcases HHELD.out j q with q | ⟨v, hv, hvj⟩ | q
            · exact Or.inl q
            · obtain ⟨q, hq, rfl⟩ := List.mem_map.1 (List.mem_of_mem_take hv)
              exact Or.inr (Or.inr (Or.inl ⟨q, hq, hvj⟩))
            · exact Or.inr (Or.inr (Or.inr q))
          · exact Or.inr (Or.inl q)
          · exact Or.inr (Or.inr (Or.inr q))

end Go.Proofs.Ytcpdadppblbndaa
