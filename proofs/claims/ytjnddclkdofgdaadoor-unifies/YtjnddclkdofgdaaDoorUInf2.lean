/- The program: Unify. -/
import Derived.Test.YtjnddclkdofgdaaDoorUNumM
namespace Go.Proofs.YtjnddclkdofgdaaDoor
open Go.RowKit Go.Shelf Go.WideMaps
set_option maxRecDepth 100000

theorem iff_fun {R S : Nat → Nat → Prop} (h : ∀ i j, R i j ↔ S i j) : R = S := by funext i j; exact propext (h i j)

/-- Two terms that were put are made the same. -/
theorem unify_two {B tb mp : Nat} {x y : List Nd} {w w0 : World} {a1 a2 : Option Addr} (h : AddR B tb mp ([] ++ tgs 0 x ++ tgs 0 y) w) (hx : termGo x 1 = true) (hy : termGo y 1 = true) (h1 : NodesIn w0 a1 x) (h2 : NodesIn w0 a2 y) (x60 : x.length ≤ 60) (y60 : y.length ≤ 60) :
    Calls Tryd.prog 58 #[.pointer (some ⟨tb, 0, none⟩), .int .i64 0, .int .i64 x.length] w fun e w' => ∃ ok vn ve vl vs, e = .returned (.bool ok) ∧ URes w B tb vn ve vl vs (.map (some mp)) (x ++ y) (rt0 (tgs 0 x ++ tgs 0 y)) 0 x.length ok w' := by
  rw [List.nil_append] at h
  have hs : (tgs 0 x ++ tgs 0 y).map Prod.snd = x ++ y := by rw [List.map_append, tgs_snd, tgs_snd]
  obtain ⟨vn, ve, vl, vs, htm⟩ := h.toIn (by simp; omega) (fun t ht => by
    rcases List.mem_append.1 ht with ht | ht
    · obtain ⟨n, hn, rfl⟩ := List.mem_map.1 ht
      obtain ⟨k, hk, rfl⟩ := List.getElem_of_mem hn
      exact h1.short k hk
    · obtain ⟨n, hn, rfl⟩ := List.mem_map.1 ht
      obtain ⟨k, hk, rfl⟩ := List.getElem_of_mem hn
      exact h2.short k hk)
  have hf := forest0 (tgs 0 x ++ tgs 0 y)
  have hn := namedRoot0 (tgs 0 x ++ tgs 0 y)
  have hc := clMod0 (tgs 0 x ++ tgs 0 y)
  have hw := h.whole
  rw [hs] at htm hn hc hw
  have hx0 : 0 < x.length := by
    cases x with
    | nil => simp [termGo] at hx
    | cons => simp
  have hy0 : 0 < y.length := by
    cases y with
    | nil => simp [termGo] at hy
    | cons => simp
  refine (uUnify_any B tb vn ve vl vs _ (x ++ y) _ (rt0 (tgs 0 x ++ tgs 0 y)) _ hw hf hn hc _ 0 x.length w htm (by simp; omega) (by simp; omega)).mono ?_
  rintro e w' ⟨ok, rfl, hr⟩
  exact ⟨ok, vn, ve, vl, vs, rfl, hr⟩

set_option maxHeartbeats 4000000 in
theorem iUnify_any (a1 a2 : Option Addr) (c1 c2 : Nat) (x y : List Nd) (w : World) (h1 : NodesIn w a1 x) (h2 : NodesIn w a2 y) (hT : Tabs w) :
    Calls Tryd.prog 36 #[.slice a1 x.length c1, .slice a2 y.length c2] w fun e w' => ∃ v yes er, e = .returned (.tuple #[v, .bool yes, .int .i64 er]) ∧ UR w x y v yes er w' := by
  have CI1 := hide (lIsTerm_any a1 c1 x w h1 hT)
  have HT := hide hT
  have H1 := hide h1
  have H2 := hide h2
  clear h1 h2 hT
  cases i1 : isTermL x with
  | false =>
    have HR : Hid (UOut x y [] false 5) := hide (Or.inl ⟨by simp [i1], rfl, rfl, rfl⟩)
    rw [i1] at CI1
    clear i1
    go_enter Tryd.func36, Tryd.ntmps36
    go_wp2_with (go_at_call 55; refine (unhide CI1).mono ?_; rintro e w1 ⟨rfl, hb1⟩; have HB1 := hide hb1; clear hb1)
    refine bodyPost_ret (v := .tuple #[.slice none 0 0, .bool false, .int .i64 5]) (by simp [results, Tryd.results36, go_sem]) rfl ?_
    exact ⟨_, _, _, rfl, UR.nil HR.out HB1.out⟩
  | true =>
    rw [i1] at CI1
    have CI2 := hide (fun wx (hx : Below w.heap.size w wx) => lIsTerm_any a2 c2 y wx (H2.out.below hx (Nat.le_refl _)) (HT.out.below hx (Nat.le_refl _)))
    cases i2 : isTermL y with
    | false =>
      have HR : Hid (UOut x y [] false 5) := hide (Or.inl ⟨by simp [i2], rfl, rfl, rfl⟩)
      rw [i2] at CI2
      clear i1 i2
      go_enter Tryd.func36, Tryd.ntmps36
      go_wp2_with (first
        | (go_at_call 55; refine (unhide CI2 _ HB1.out).mono ?_; rintro e w2 ⟨rfl, hb2⟩; have HB2 := hide (HB1.out.trans (hb2.mono hb1s)); clear hb2)
        | (go_at_call 55; refine (unhide CI1).mono ?_; rintro e w1 ⟨rfl, hb1⟩; have HB1 := hide hb1; have hb1s := hb1.size; clear hb1))
      refine bodyPost_ret (v := .tuple #[.slice none 0 0, .bool false, .int .i64 5]) (by simp [results, Tryd.results36, go_sem]) rfl ?_
      exact ⟨_, _, _, rfl, UR.nil HR.out HB2.out⟩
    | true =>
      rw [i2] at CI2
      have t1 : termGo x 1 = true ∧ x.length ≤ 60 := by unfold isTermL at i1; simpa using i1
      have t2 : termGo y 1 = true ∧ y.length ≤ 60 := by unfold isTermL at i2; simpa using i2
      have HI := hide (And.intro i1 i2)
      have hx60 := t1.2
      have hy60 := t2.2
      have HT1 := hide t1.1
      have HT2 := hide t2.1
      clear i1 i2 t1 t2
      obtain ⟨N, hN⟩ : ∃ N : Nat, N = x.length + y.length := ⟨_, rfl⟩
      have hNi : (x.length : Int) + (y.length : Int) = (N : Int) := by omega
      have hN6 : N ≤ 1000000 := by omega
      have HNN := hide hN
      clear hN
      have CA1 := hide (fun (w2 w3 : World) (tb mp : Nat) (vn ve vl vs : Value) (hb : Below w.heap.size w w2) (hn : NewR w2 tb mp vn ve vl vs w3) =>
        add_more (AddR.new hn) 0 a1 c1 x (H1.out.below (hb.trans (hn.low.mono hb.size)) (Nat.le_refl _)) HT1.out (fun p hp => Nat.lt_of_lt_of_le (nodes_low H1.out HT1.out p hp) hb.size) (by simp; omega) (by omega))
      have CA2 := hide (fun (w2 w4 : World) (tb mp : Nat) (hb : Below w.heap.size w w2) (hb4 : Below w2.heap.size w2 w4) (ha : AddR w2.heap.size tb mp ([] ++ tgs 0 x) w4) =>
        add_more ha 0 a2 c2 y (H2.out.below (hb.trans (hb4.mono hb.size)) (Nat.le_refl _)) HT2.out (fun p hp => Nat.lt_of_lt_of_le (nodes_low H2.out HT2.out p hp) hb.size) (by simp; omega) (by omega))
      have CU := hide (fun (B tb mp : Nat) (w5 : World) (ha : AddR B tb mp ([] ++ tgs 0 x ++ tgs 0 y) w5) => unify_two ha HT1.out HT2.out H1.out H2.out hx60 hy60)
      have hx0 : 0 < x.length := by
        have := HT1.out
        cases x with
        | nil => simp [termGo] at this
        | cons => simp
      go_enter Tryd.func36, Tryd.ntmps36
      go_wp2_with (first
        | (go_at_call 58; refine (unhide CU _ tb mp w5 HA5.out).mono ?_)
        | (go_at_call 57; refine (unhide CA2 w2 w4 tb mp HB2.out HB4.out HA4.out).mono ?_; rintro e w5 ⟨rfl, ha5, hb5⟩; have HA5 := hide ha5; have HB5 := hide (HB4.out.trans hb5); clear ha5 hb5)
        | (go_at_call 57; refine (unhide CA1 w2 w3 tb mp vn ve vl vs HB2.out HNEW.out).mono ?_; rintro e w4 ⟨rfl, ha4, hb4⟩; have HA4 := hide ha4; have HB4 := hide (HNEW.out.low.trans hb4); clear ha4 hb4)
        | (go_at_call 56; refine (uNew_any N hN6 w2).mono ?_; rintro e w3 ⟨tb, mp, vn, ve, vl, vs, rfl, hnew⟩; have HNEW := hide hnew; clear hnew)
        | (go_at_call 55; refine (unhide CI2 _ HB1.out).mono ?_; rintro e w2 ⟨rfl, hb2⟩; have HB2 := hide (HB1.out.trans (hb2.mono hb1s)); have hb2s := HB2.out.size; clear hb2)
        | (go_at_call 55; refine (unhide CI1).mono ?_; rintro e w1 ⟨rfl, hb1⟩; have HB1 := hide hb1; have hb1s := hb1.size; clear hb1))
      rintro e w6 ⟨ok, vn6, ve6, vl6, vs6, rfl, hu⟩
      clear CU CA1 CA2 CI1 CI2 HNEW HA4 HB4 HB1 hb1s
      have hb6 : Below w.heap.size w w6 := HB2.out.trans ((HB5.out.trans hu.low).mono hb2s)
      have HW := hide HA5.out.whole
      rw [List.nil_append, List.map_append, tgs_snd, tgs_snd] at HW
      clear HA5 HB5
      have HB6 := hide hb6
      clear hb6
      cases ok with
      | false =>
        have HR : Hid (UOut x y [] false 0) := hide (Or.inr ⟨HI.out, Or.inl ⟨fun hh => (by have := hu.yes.2 ⟨hh.1, hh.2 0 (by omega) rfl⟩; cases this), rfl, rfl, rfl⟩⟩)
        clear hu
        go_wp2
        refine bodyPost_ret (v := .tuple #[.slice none 0 0, .bool false, .int .i64 0]) (by simp [results, Tryd.results36, go_sem]) rfl ?_
        exact ⟨_, _, _, rfl, UR.nil HR.out HB6.out⟩
      | true =>
        have HYES := hide (hu.yes.1 rfl)
        obtain ⟨F', S', rt', d', t1, t2, t3, t4, t5, t6, t7⟩ := hu.st rfl
        have CM := hide (uMade_any _ tb vn6 ve6 vl6 vs6 _ (x ++ y) F' rt' d' HW.out t2 t3 t4 S' 0 w6 t1 t6 (fun r e => absurd e (t7 r)) (by simp; omega))
        have hR : (fun i j => rt' i = rt' j) = uCl x y := iff_fun t5
        have HR := hide hR
        have HT5 := hide t5
        have HTM := hide t1
        have HTF := hide t2
        clear hu t1 t2 t3 t4 t5 t6 t7 hR
        go_wp2_with (go_at_call 59; refine (unhide CM).mono ?_)
        rintro e w7 ⟨v, b, S7, rfl, hm⟩
        clear CM
        have hfar : Below w.heap.size w w7 := HB6.out.trans (below_grownB' (fun g e => Nat.le_trans hb2s (own_lt HTM.out.rs g e).1) HB6.out.size hm.far)
        have HB7 := hide hfar
        clear hfar
        have hends : Ends (pgr (x ++ y)) (fun i j => rt' i = rt' j) 0 := by rw [HR.out]; exact HYES.out.2
        cases b with
        | false =>
          obtain ⟨rfl, hno⟩ := hm.no rfl
          have HU : Hid (UOut x y [] false 4) := hide (Or.inr ⟨HI.out, Or.inr ⟨⟨HYES.out.1, fun i _ e => by subst e; exact HYES.out.2⟩, (by
            rcases hno with hno | ⟨l, h1, h2⟩
            · exact absurd hends hno
            · rw [HR.out] at h1
              exact ⟨l, rt', HT5.out, h1, Or.inl ⟨h2, rfl, rfl, rfl⟩⟩)⟩⟩)
          clear hm hno hends
          go_wp2
          refine bodyPost_ret (v := .tuple #[.slice none 0 0, .bool false, .int .i64 4]) (by simp [results, Tryd.results36, go_sem]) rfl ?_
          exact ⟨_, _, _, rfl, UR.nil HU.out HB7.out⟩
        | true =>
          obtain ⟨_, hvn, l, hexp, hl5, hown⟩ := hm.yes rfl
          obtain ⟨g, c, rfl⟩ := own_some hown hvn
          have hnd := exp_nodes HW.out hexp (fun i hi => by simp at hi; subst hi; simp; omega)
          have hsz : ∀ n ∈ l, n.1.size ≤ 140737488355328 := fun n hn => by
            rcases hnd n hn with ⟨_, i, _, rfl⟩ | ⟨_, hm⟩
            · exact Nat.zero_le _
            · exact HTM.out.short n hm
          have hvs : VarsOk l := fun n hn hv => by
            rcases hnd n hn with ⟨_, i, hi, rfl⟩ | ⟨hv', _⟩
            · have h1 := HTF.out.rt_lt (p := i) (by rw [HTM.out.lf]; exact hi)
              rw [HTM.out.lf] at h1
              have h2 := HTM.out.few
              simp only
              omega
            · rw [hv] at hv'; cases hv'
          have CB := hide (numbered_any g c l w7 (own_nodesIn hown (by omega) hsz) hvs hl5)
          have HU : Hid (UOut x y (renL l []).1 true 0) := hide (Or.inr ⟨HI.out, Or.inr ⟨⟨HYES.out.1, fun i _ e => by subst e; exact HYES.out.2⟩, l, rt', HT5.out, by rw [← HR.out]; exact hexp, Or.inr ⟨hl5, rfl, rfl, rfl⟩⟩⟩)
          have HSZ := hide hsz
          have HL5 : Hid ((renL l []).1.length ≤ 500) := hide (by rw [(renL_bounds l []).1]; exact hl5)
          clear hm hvn hexp hown hnd hsz hvs hends
          generalize l.length = ln at *
          go_wp2_with (go_at_call 60; refine (unhide CB).mono ?_; rintro e w8 ⟨v8, rfl, ho8, hb8⟩; have HO8 := hide ho8; have HB8 := hide hb8; clear ho8 hb8)
          refine bodyPost_ret (v := .tuple #[v8, .bool true, .int .i64 0]) (by simp [results, Tryd.results36, go_sem]) rfl ?_
          refine ⟨_, _, _, rfl, ⟨⟨_, HU.out, own_mono HO8.out HB7.out.size, ?_, ?_⟩, HB7.out.trans (HB8.out.mono HB7.out.size)⟩⟩
          · exact HL5.out
          · intro n hn
            have : n.1 ∈ (renL l []).1.map Prod.fst := List.mem_map_of_mem hn
            rw [renL_names] at this
            obtain ⟨m, hm, e⟩ := List.mem_map.1 this
            rw [← e]
            exact HSZ.out m hm

theorem mUnify_any (a1 a2 : Option Addr) (c1 c2 : Nat) (x y : List Nd) (w : World) (h1 : NodesIn w a1 x) (h2 : NodesIn w a2 y) (hT : Tabs w) :
    Calls Tryd.prog 18 #[.slice a1 x.length c1, .slice a2 y.length c2] w fun e w' => ∃ v yes er, e = .returned (.tuple #[v, .bool yes, .int .i64 er]) ∧ UR w x y v yes er w' := by
  have C := hide (iUnify_any a1 a2 c1 c2 x y w h1 h2 hT)
  clear h1 h2 hT
  go_enter Tryd.func18, Tryd.ntmps18
  go_wp2_with (go_at_call 36; refine (unhide C).mono ?_; rintro e w1 ⟨v, yes, er, rfl, hr⟩; have HR := hide hr; clear hr)
  refine bodyPost_ret (v := .tuple #[v, .bool yes, .int .i64 er]) (by simp [results, Tryd.results18, go_sem]) rfl ?_
  exact ⟨_, _, _, rfl, HR.out⟩

end Go.Proofs.YtjnddclkdofgdaaDoor
