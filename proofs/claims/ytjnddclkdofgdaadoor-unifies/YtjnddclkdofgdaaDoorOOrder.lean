/- The program: literals are brought to order. -/
import Derived.Test.YtjnddclkdofgdaaDoorONumber
import Derived.Test.YtjnddclkdofgdaaDoorPDist
namespace Go.Proofs.YtjnddclkdofgdaaDoor
open Go.RowKit Go.Shelf Go.WideMaps
set_option maxRecDepth 100000

/-- A row of literals whose atoms are there. -/
theorem lits_of_own {w' : World} {B : Nat} {a : Option Addr} {cap : Nat} {P : List (Lt × Value)} {c : List Lt} (ho : w'.ownsRow B 30 2 (.slice a c.length cap) P.length (litCells P)) (hP : P.map Prod.fst = c) (hA : ∀ p ∈ P, AtomAt w' p.2 p.1.2) (hf : c.length ≤ 4398046511104) : LitsIn w' a c := by
  subst hP
  obtain ⟨a', cap', e, hc⟩ := own_lits ho
  simp at e
  obtain ⟨rfl, _⟩ := e
  refine ⟨hf, fun k hk => ?_⟩
  have hk' : k < P.length := by simpa using hk
  obtain ⟨g, rfl, h1, h2⟩ := hc k hk'
  obtain ⟨aa, cp, h3, h4⟩ := hA P[k] (List.getElem_mem _)
  rw [h3] at h2
  refine ⟨g, 0, aa, cp, rfl, ?_, ?_, ?_⟩
  · simpa using h1
  · simpa using h2
  · simpa using h4
/-- What Order answers. -/
structure OrderR (w : World) (c : List Lt) (v : Value) (nb : Nat) (Q : List (Lt × Value)) (w' : World) : Prop where
  val : v = .slice (some ⟨nb, 0, none⟩) (ordL c).length (ordL c).length
  made : Q.map Prod.fst = ordL c
  row : w'.ownsRow w.heap.size 30 2 (.slice (some ⟨nb, 0, none⟩) (ordL c).length (ordL c).length) (ordL c).length (litCells Q)
  atoms : ∀ q ∈ Q, w'.ownsRow w.heap.size 27 2 q.2 q.1.2.length (nodeCells q.1.2)
  once : (Q.map fun q => q.2.ownBlock).Nodup
  apart : ∀ q ∈ Q, q.2.ownBlock ≠ some nb
  low : Below w.heap.size w w'

set_option maxHeartbeats 1000000 in
theorem order_any (a : Option Addr) (cp : Nat) (c : List Lt) (w : World) (h : LitsIn w a c) (hv : ∀ l ∈ c, VarsOk l.2) (hc : countL c ≤ 100000) (hl : c.length ≤ 100000) :
    Calls Tryd.prog 84 #[.slice a c.length cp] w fun e w' => ∃ v nb Q, e = .returned v ∧ OrderR w c v nb Q w' := by
  have CD := hide (distinct_any a cp c w h)
  obtain ⟨d1, d2, d3⟩ := dedL_bounds c
  have CN := hide (fun a' cp' wx (hx : LitsIn wx a' (dedL c)) => number_any a' cp' (dedL c) wx hx (fun l hlm => hv l (d3 l hlm)) (by omega) (by omega))
  have hd : (dedL c).length ≤ 100000 := by omega
  clear d1 d2 d3 hv hc hl
  go_enter Tryd.func84, Tryd.ntmps84
  go_wp2_with (first
    | (go_at_call 102; refine (unhide CN va vcp w1 HL.out).mono ?_; rintro e w2 ⟨nb, Q, rfl, hN⟩; have HN := hide hN; clear hN)
    | (go_at_call 68; refine (unhide CD).mono ?_; rintro e w1 ⟨v, P, rfl, hP, hA, ho, hb⟩; obtain ⟨va, vcp, rfl⟩ := own_shape ho; have hPl : P.length = (dedL c).length := (by rw [← hP]; simp); have HL := hide (lits_of_own (w' := w1) (B := w.heap.size) (a := va) (P := P) (c := dedL c) (cap := vcp) (by rw [← hPl]; exact ho) hP (fun p hp => (hA p hp).below hb (Nat.le_refl _)) (by omega)); rw [hPl]; have HB := hide hb; clear hP hA ho hb hPl))
  go_ret
  have hN := HN.out
  have hq : Q.length = (dedL c).length := by
    have h1 := congrArg List.length hN.made
    rw [(litSt_bounds _).1] at h1
    simpa using h1
  have hol : (ordL c).length = (dedL c).length := by unfold ordL; exact (litSt_bounds _).1
  have hm := hN.made
  rw [List.take_length] at hm
  have hw := HB.out.size
  have hr := hN.row
  rw [hq, Nat.sub_self, List.replicate_zero, List.append_nil] at hr
  exact ⟨_, nb, Q, rfl, by rw [hol]; rfl, hm, by rw [hol]; exact own_mono hr hw, fun q hqm => own_mono (hN.atoms q hqm) hw, hN.once, hN.apart, HB.out.trans (hN.low.mono hw)⟩

end Go.Proofs.YtjnddclkdofgdaaDoor
