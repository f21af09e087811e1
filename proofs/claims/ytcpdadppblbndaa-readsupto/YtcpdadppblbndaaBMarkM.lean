/- Lists that their owner writes full of one element, of any kind, and what is put behind them. The law's book in memory, with the lists of literals and of clauses in it. -/
import Derived.Test.YtcpdadppblbndaaLMemM
import Derived.Test.YtcpdadppblbndaaBOwn
namespace Go.Proofs.Ytcpdadppblbndaa
open Go.RowKit Go.Shelf
set_option maxRecDepth 100000

/-- So many times the same element. -/
def rep (n : Nat) (el : List Value) : List Value := (List.replicate n el).flatten
theorem rep_length (n : Nat) (el : List Value) : (rep n el).length = n * el.length := by simp [rep]
theorem rep_succ (n : Nat) (el : List Value) : rep (n + 1) el = el ++ rep n el := by simp [rep, List.replicate_succ]
theorem rep_add (n k : Nat) (el : List Value) : rep (n + k) el = rep n el ++ rep k el := by
  unfold rep
  rw [← List.flatten_append, List.replicate_append_replicate]
theorem rep_at (el : List Value) : ∀ (n i : Nat), i < n * el.length → (rep n el)[i]? = el[i % el.length]? := by
  intro n
  induction n with
  | zero => intro i h; simp at h
  | succ n ih =>
    intro i h
    rw [rep_succ]
    by_cases hi : i < el.length
    · rw [List.getElem?_append_left hi, Nat.mod_eq_of_lt hi]
    · rw [Nat.succ_mul] at h
      rw [List.getElem?_append_right (by omega), ih _ (by omega), ← Nat.mod_eq_sub_mod (by omega)]
/-- A list of one element. -/
def MkG (e : TypeId) (el : List Value) (w : World) (v : Value) : Prop := v = .slice none 0 0 ∨ ∃ g n c cur, v = .slice (some ⟨g, 0, none⟩) n c ∧ w.heap[g]? = some (.cells cur e) ∧ (∀ i, i < n * el.length → cur[i]? = el[i % el.length]?) ∧ n ≤ 1000000000000
section
variable {e : TypeId} {el : List Value} {w w' : World} {v : Value}
theorem MkG.of_own {B n : Nat} (h : w.ownsRow B e el.length v n (rep n el)) (hn : n ≤ 1000000000000) : MkG e el w v := by
  obtain ⟨h1, ⟨rfl, h2⟩ | ⟨g, cap, cur, rfl, hb, hh, hc, hm, hz, ht⟩⟩ := h
  · exact Or.inl rfl
  · refine Or.inr ⟨g, n, cap, cur, rfl, hh, fun i hi => ?_, hn⟩
    have a := rep_at el n i hi
    rw [← ht, List.getElem?_take, if_pos hi] at a
    simpa using a
theorem MkG.grown {o : Option Nat} (h : MkG e el w v) (hg : w.grownBy w' o) (ho : v.ownBlock = none ∨ v.ownBlock ≠ o) : MkG e el w' v := by
  rcases h with h | ⟨g, n, c, cur, rfl, hh, hk⟩
  · exact Or.inl h
  · refine Or.inr ⟨g, n, c, cur, rfl, ?_, hk⟩
    rw [hg.block g (Array.getElem?_eq_some_iff.1 hh).1 ?_, hh]
    rcases ho with ho | ho
    · simp [Value.ownBlock] at ho
    · intro e; exact ho (by rw [← e]; rfl)
theorem MkG.below (h : MkG e el w v) (hb : Below w.heap.size w w') : MkG e el w' v := h.grown (grown_below (o := none) hb) (by cases v.ownBlock <;> simp)
end
/-- The element is put behind such a list: all such lists stay. -/
theorem run_append_rep (w : World) (t ty e : TypeId) (el : List Value) (z : Value) (bytes : Nat) (ht : Try.prog.underlying t = some (.slice e)) (hinfo : (Try.prog.info? e).map (fun i => (i.zero, i.size, i.bytes)) = some (some z, el.length, bytes)) (hz1 : z.cells.size = el.length) (hsz0 : 0 < el.length) (hby : bytes ≤ 40) (h1 : ∀ u ∈ el, u.oneCell' = true)
    (B : Nat) (v : Value) (n : Nat) (ho : w.ownsRow B e el.length v n (rep n el)) (hB : B ≤ w.heap.size) (a : Addr) (k c : Nat) (hk : 0 < k ∧ k ≤ 3) (hn : n ≤ 100000000000) (hnews : ∀ j u, (rep k el)[j]? = some u → w.cell? (a.add j) = some u) :
    ∃ v' w', (Builtin.append_ #[t, t] ty #[v, .slice (some a) k c]).run Try.prog w = .ok v' w' ∧ w'.ownsRow B e el.length v' (n + k) (rep (n + k) el) ∧ w'.ownsRow B e el.length v n (rep n el) ∧ w.grownBy w' v.ownBlock ∧ Moved w v v' ∧ ∀ u, MkG e el w u → MkG e el w' u := by
  obtain ⟨i, hi, hz, hss, hy⟩ := info_parts hinfo
  have hcells := rep_add n k el
  have hl := rep_length k el
  have h1' : ∀ u ∈ rep k el, u.oneCell' = true := by
    intro u hu
    unfold rep at hu
    obtain ⟨x, hx, hu⟩ := List.mem_flatten.1 hu
    rw [List.eq_of_mem_replicate hx] at hu
    exact h1 u hu
  have hb24 : (n + k) * bytes ≤ 140737488355328 := Nat.le_trans (Nat.mul_le_mul (show n + k ≤ 100000000003 by omega) hby) (by decide)
  by_cases hv : v.ownBlock = none
  · have hnil : v = .slice none 0 0 ∧ n = 0 := by
      obtain ⟨_, h | ⟨g, cap, cur, rfl, _⟩⟩ := ho
      · exact h
      · simp [Value.ownBlock] at hv
    obtain ⟨rfl, rfl⟩ := hnil
    obtain ⟨v', w', hr, r1, r2, r3⟩ := run_append_own (P := Try.prog) w w.heap.size t ty e i z el.length bytes ht hi hz hss hy hz1 hsz0 (.slice none 0 0) 0 [] (World.ownsRow_nil _ _ _ _) a k c (rep k el) hl hnews h1' (by unfold maxLen; omega) hb24 (Nat.le_refl _)
    refine ⟨v', w', hr, by rw [hcells]; exact own_mono r1 hB, World.ownsRow_nil _ _ _ _, r2, ?_, fun u hu => hu.grown r2 (by cases hub : u.ownBlock with | none => exact Or.inl rfl | some g => exact Or.inr (by simp [Value.ownBlock]))⟩
    cases hb : v'.ownBlock with
    | none => exact Or.inl (by rw [hb, hv])
    | some g' => exact Or.inr ⟨g', hb, (own_lt r1 g' hb).1⟩
  · obtain ⟨ho1, ⟨rfl, _⟩ | ⟨g, cap, cur, rfl, hbg, hg, hnc, hcm, hcs, htake⟩⟩ := ho
    · exact absurd rfl hv
    · have ho : w.ownsRow B e el.length (.slice (some ⟨g, 0, none⟩) n cap) n (rep n el) := ⟨ho1, Or.inr ⟨g, cap, cur, rfl, hbg, hg, hnc, hcm, hcs, htake⟩⟩
      by_cases hroom : n + k ≤ cap
      · have hfit : n * el.length + (rep k el).length ≤ cur.size := by rw [hl, hcs, ← Nat.add_mul]; exact Nat.mul_le_mul_right _ hroom
        have hr := run_append_room (P := Try.prog) w t ty e i ht hi g n cap cur hg a k c (rep k el) (by rw [hl, hss]) hnews h1' hroom (by rw [hss]; exact hfit)
        rw [hss] at hr
        have hget : ∀ j, ((cur.toList.take (n * el.length) ++ rep k el ++ cur.toList.drop (n * el.length + (rep k el).length)).toArray)[j]? = if j < n * el.length then cur[j]? else if j < n * el.length + k * el.length then (rep k el)[j - n * el.length]? else cur[j]? := by
          intro j
          have := splice_get cur.toList (rep k el) (n * el.length) (by simpa using hfit) j
          rw [hl] at this ⊢
          simpa using this
        have hkeep : ∀ n', (∀ j, j < n' * el.length → cur[j]? = el[j % el.length]?) → ∀ j, j < n' * el.length → ((cur.toList.take (n * el.length) ++ rep k el ++ cur.toList.drop (n * el.length + (rep k el).length)).toArray)[j]? = el[j % el.length]? := by
          intro n' hm j hj
          rw [hget]
          split
          · exact hm j hj
          · split
            · rename_i h1 h2
              rw [rep_at el k _ (by omega)]
              congr 1
              rw [Nat.mul_comm n, Nat.sub_mul_mod (by rw [Nat.mul_comm]; omega)]
            · exact hm j hj
        generalize hcur' : (cur.toList.take (n * el.length) ++ rep k el ++ cur.toList.drop (n * el.length + (rep k el).length)).toArray = cur' at *
        have hsz : cur'.size = cur.size := by rw [← hcur']; simp; omega
        have htl : cur'.toList = cur.toList.take (n * el.length) ++ rep k el ++ cur.toList.drop (n * el.length + (rep k el).length) := by rw [← hcur']
        have hh' : (w.setRow g cur').heap[g]? = some (.cells cur' e) := setRow_heap w g cur _ e _ hg
        have hgr : w.grownBy (w.setRow g cur') (some g) := ⟨rfl, rfl, rfl, by simp, fun q _ hq => setRow_other w g q _ (fun e => hq (by simp [e]))⟩
        refine ⟨_, _, hr, ⟨rep_length _ _, Or.inr ⟨g, cap, cur', rfl, hbg, hh', hroom, hcm, by rw [hsz, hcs], ?_⟩⟩, ⟨ho1, Or.inr ⟨g, cap, cur', rfl, hbg, hh', hnc, hcm, by rw [hsz, hcs], ?_⟩⟩, hgr, Or.inl rfl, ?_⟩
        · rw [htl, htake, hcells]
          exact List.take_left' (by rw [List.length_append, rep_length, rep_length, Nat.add_mul])
        · rw [htl, htake, List.append_assoc]
          exact List.take_left' (rep_length _ _)
        · intro u hu
          rcases hu with hu | ⟨g', n', c', cu, rfl, hgu, hmk, hn'⟩
          · exact Or.inl hu
          · by_cases e' : g' = g
            · subst e'
              rw [hg] at hgu
              simp at hgu
              subst hgu
              exact Or.inr ⟨g', n', c', cur', rfl, hh', hkeep n' hmk, hn'⟩
            · exact Or.inr ⟨g', n', c', cu, rfl, by rw [hgr.block g' (Array.getElem?_eq_some_iff.1 hgu).1 (by simpa using e'), hgu], hmk, hn'⟩
      · have holds : ∀ j u, (rep n el)[j]? = some u → w.cell? ((⟨g, 0, none⟩ : Addr).add j) = some u := ho.cells (g := g) rfl
        obtain ⟨v', w', hr', r1, r2, _⟩ := run_append_own (P := Try.prog) w B t ty e i z el.length bytes ht hi hz hss hy hz1 hsz0 _ n (rep n el) ho a k c (rep k el) hl hnews h1' (by unfold maxLen; omega) hb24 hB
        have hr := run_append_grow (P := Try.prog) w t ty e i z ht hi hz ⟨g, 0, none⟩ n cap (rep n el) (by rw [hss]; exact ho1) holds a k c (rep k el) (by rw [hl, hss]) hnews (by omega) (by omega) (growslice_fits_wide (by omega) (by rw [hy]; exact Nat.le_trans (Nat.mul_le_mul (show _ ≤ 200000000000 by omega) hby) (by decide)))
        rw [hr] at hr'
        injection hr' with e1 e2
        subst e1
        subst e2
        have hb : Below w.heap.size w (w.drew.alloc (.cells ((rep n el).toArray ++ (rep k el).toArray ++ Builtin.zeroCells z.cells (grownCap w (n + k) cap e - (n + k))) e)) := (below_drawn (w1 := w.drew) ⟨1, rfl⟩).alloc (Nat.le_refl _) _
        exact ⟨_, _, hr, by rw [hcells]; exact r1, own_below ho hb (Nat.le_refl _), r2, Or.inr ⟨_, rfl, Nat.le_refl _⟩, fun u hu => hu.below hb⟩

end Go.Proofs.Ytcpdadppblbndaa

namespace Go.Proofs.Ytcpdadppblbndaa
open Go.RowKit Go.Shelf
set_option maxRecDepth 100000

abbrev litEl (ga : Nat) : List Value := [.bool true, .slice (some ⟨ga, 0, none⟩) 1 1]
abbrev lisEl (gl : Nat) : List Value := [.slice (some ⟨gl, 0, none⟩) 1 1]
/-- Three lists of marked literals. -/
structure LTri where
  c : Value
  one : Value
  two : Value
  ga : Nat
  m : Int
def LTri.vals (f : LTri) : List Value := [f.c, f.one, f.two]
def LTri.held (f : LTri) : List Nat := f.ga :: f.vals.filterMap Value.ownBlock
structure LTri.Ok (w : World) (f : LTri) : Prop where
  marks : ∀ v ∈ f.vals, MkG 49 (litEl f.ga) w v
  len : ∃ a n c, f.one = .slice a (n + 1) c
  atom : w.heap[f.ga]? = some (.cells #[.string ⟨#[61]⟩, .int .i64 f.m] 46)
/-- Three lists of marked clauses. -/
structure GTri where
  c : Value
  one : Value
  two : Value
  gl : Nat
  ga : Nat
  m : Int
def GTri.vals (f : GTri) : List Value := [f.c, f.one, f.two]
def GTri.held (f : GTri) : List Nat := f.gl :: f.ga :: f.vals.filterMap Value.ownBlock
structure GTri.Ok (w : World) (f : GTri) : Prop where
  marks : ∀ v ∈ f.vals, MkG 42 (lisEl f.gl) w v
  len : ∃ a n c, f.one = .slice a (n + 1) c
  lit : w.heap[f.gl]? = some (.cells (litEl f.ga).toArray 49)
  atom : w.heap[f.ga]? = some (.cells #[.string ⟨#[61]⟩, .int .i64 f.m] 46)
/-- The whole book. -/
structure Book2 (w : World) (B bk : Nat) (nv mv xv yv : Value) (E : List (Value × Int)) (F : List LTri) (G : List GTri) (next : Int) : Prop where
  base : BookIn w B bk (xv, yv) nv mv E next
  rx : w.ownsRow B 42 1 xv (F.length * 3) (F.flatMap LTri.vals)
  ry : w.ownsRow B 26 1 yv (G.length * 3) (G.flatMap GTri.vals)
  fs : ∀ f ∈ F, f.Ok w
  gs : ∀ g ∈ G, g.Ok w
  fewF : F.length ≤ 1000000000
  fewG : G.length ≤ 1000000000
  xap : ∀ k ∈ G.flatMap GTri.held, xv.ownBlock ≠ some k
/-- The blocks that the book's lists hold. -/
def held (E : List (Value × Int)) (F : List LTri) (G : List GTri) : List Nat := E.filterMap (fun x => x.1.ownBlock) ++ (F.flatMap LTri.held ++ G.flatMap GTri.held)
theorem own_same {w w' : World} {B : Nat} {e : TypeId} {size : Nat} {v : Value} {n : Nat} {xs : List Value} (h : w.ownsRow B e size v n xs) (hs : ∀ k, v.ownBlock = some k → w'.heap[k]? = w.heap[k]?) : w'.ownsRow B e size v n xs := by
  obtain ⟨h1, ⟨rfl, h2⟩ | ⟨g, cap, cur, rfl, hb, hh, hr⟩⟩ := h
  · exact ⟨h1, Or.inl ⟨rfl, h2⟩⟩
  · exact ⟨h1, Or.inr ⟨g, cap, cur, rfl, hb, by rw [hs g rfl, hh], hr⟩⟩
theorem MkG.same {e : TypeId} {el : List Value} {w w' : World} {v : Value} (h : MkG e el w v) (hs : ∀ k, v.ownBlock = some k → w'.heap[k]? = w.heap[k]?) : MkG e el w' v := by
  rcases h with h | ⟨g, n, c, cur, rfl, hh, hk⟩
  · exact Or.inl h
  · exact Or.inr ⟨g, n, c, cur, rfl, by rw [hs g rfl, hh], hk⟩
theorem Marks.same {w w' : World} {v : Value} {m : Int} (h : Marks w v m) (hs : ∀ k, v.ownBlock = some k → w'.heap[k]? = w.heap[k]?) : Marks w' v m := by
  rcases h with h | ⟨g, n, c, cur, rfl, hh, hk⟩
  · exact Or.inl h
  · exact Or.inr ⟨g, n, c, cur, rfl, by rw [hs g rfl, hh], hk⟩
theorem LTri.Ok.same {w w' : World} {f : LTri} (h : f.Ok w) (hs : ∀ k ∈ f.held, w'.heap[k]? = w.heap[k]?) : f.Ok w' :=
  ⟨fun v hv => (h.marks v hv).same fun k hk => hs k (List.mem_cons_of_mem _ (List.mem_filterMap.2 ⟨v, hv, hk⟩)), h.len, by rw [hs _ (List.mem_cons_self ..), h.atom]⟩
theorem GTri.Ok.same {w w' : World} {f : GTri} (h : f.Ok w) (hs : ∀ k ∈ f.held, w'.heap[k]? = w.heap[k]?) : f.Ok w' :=
  ⟨fun v hv => (h.marks v hv).same fun k hk => hs k (List.mem_cons_of_mem _ (List.mem_cons_of_mem _ (List.mem_filterMap.2 ⟨v, hv, hk⟩))), h.len, by rw [hs _ (List.mem_cons_self ..), h.lit], by rw [hs _ (List.mem_cons_of_mem _ (List.mem_cons_self ..)), h.atom]⟩
section
variable {w w' : World} {B bk : Nat} {nv mv xv yv : Value} {E : List (Value × Int)} {F : List LTri} {G : List GTri} {next : Int}
/-- Held blocks are there. -/
theorem Book2.heldLt (h : Book2 w B bk nv mv xv yv E F G next) : ∀ k ∈ held E F G, k < w.heap.size := by
  have key : ∀ (e : TypeId) (el : List Value) (v : Value) (k : Nat), MkG e el w v → v.ownBlock = some k → k < w.heap.size := by
    intro e el v k hm hk
    rcases hm with rfl | ⟨g, n, c, cur, rfl, hh, _⟩
    · simp [Value.ownBlock] at hk
    · simp [Value.ownBlock] at hk
      subst hk
      exact (Array.getElem?_eq_some_iff.1 hh).1
  intro k hk
  rcases List.mem_append.1 hk with hk | hk
  · obtain ⟨x, hx, hxk⟩ := List.mem_filterMap.1 hk
    rcases h.base.mks x hx with e | ⟨g, n, c, cur, e, hh, _⟩
    · rw [e] at hxk; simp [Value.ownBlock] at hxk
    · rw [e] at hxk
      simp [Value.ownBlock] at hxk
      subst hxk
      exact (Array.getElem?_eq_some_iff.1 hh).1
  · rcases List.mem_append.1 hk with hk | hk
    · obtain ⟨f, hf, hk⟩ := List.mem_flatMap.1 hk
      rcases List.mem_cons.1 hk with rfl | hk
      · exact (Array.getElem?_eq_some_iff.1 (h.fs f hf).atom).1
      · obtain ⟨v, hv, hvk⟩ := List.mem_filterMap.1 hk
        exact key _ _ v k ((h.fs f hf).marks v hv) hvk
    · obtain ⟨f, hf, hk⟩ := List.mem_flatMap.1 hk
      rcases List.mem_cons.1 hk with rfl | hk
      · exact (Array.getElem?_eq_some_iff.1 (h.gs f hf).lit).1
      · rcases List.mem_cons.1 hk with rfl | hk
        · exact (Array.getElem?_eq_some_iff.1 (h.gs f hf).atom).1
        · obtain ⟨v, hv, hvk⟩ := List.mem_filterMap.1 hk
          exact key _ _ v k ((h.gs f hf).marks v hv) hvk
/-- The book stays while its blocks do. -/
theorem Book2.same (h : Book2 w B bk nv mv xv yv E F G next) (hb : w'.heap[bk]? = w.heap[bk]?) (h1 : ∀ v ∈ [nv, mv, xv, yv], ∀ k, v.ownBlock = some k → w'.heap[k]? = w.heap[k]?) (hs : ∀ k ∈ held E F G, w'.heap[k]? = w.heap[k]?) : Book2 w' B bk nv mv xv yv E F G next :=
  ⟨⟨by rw [hb, h.base.box], h.base.high, own_same h.base.rn (h1 nv (by simp)), own_same h.base.rm (h1 mv (by simp)), fun x hx => (h.base.mks x hx).same fun k hk => hs k (List.mem_append.2 (Or.inl (List.mem_filterMap.2 ⟨x, hx, hk⟩))), h.base.few, h.base.lo, h.base.hi⟩,
    own_same h.rx (h1 xv (by simp)), own_same h.ry (h1 yv (by simp)),
    fun f hf => (h.fs f hf).same fun k hk => hs k (List.mem_append.2 (Or.inr (List.mem_append.2 (Or.inl (List.mem_flatMap.2 ⟨f, hf, hk⟩))))),
    fun f hf => (h.gs f hf).same fun k hk => hs k (List.mem_append.2 (Or.inr (List.mem_append.2 (Or.inr (List.mem_flatMap.2 ⟨f, hf, hk⟩))))), h.fewF, h.fewG, h.xap⟩
theorem Book2.below (h : Book2 w B bk nv mv xv yv E F G next) (hb : Below w.heap.size w w') : Book2 w' B bk nv mv xv yv E F G next := by
  refine h.same (hb.block bk h.base.lt) (fun v hv k hk => hb.block k ?_) (fun k hk => hb.block k (h.heldLt k hk))
  simp at hv
  rcases hv with rfl | rfl | rfl | rfl
  · exact (own_lt h.base.rn k hk).2
  · exact (own_lt h.base.rm k hk).2
  · exact (own_lt h.rx k hk).2
  · exact (own_lt h.ry k hk).2
end

end Go.Proofs.Ytcpdadppblbndaa
