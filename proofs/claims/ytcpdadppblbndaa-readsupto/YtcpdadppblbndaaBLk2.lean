/- The law looks at all lists of literals again. -/
import Derived.Test.YtcpdadppblbndaaBLk0M
import Derived.Test.YtcpdadppblbndaaBCl5
namespace Go.Proofs.Ytcpdadppblbndaa
open Go.RowKit Go.Shelf
set_option maxRecDepth 100000

theorem BookIn.cn {w : World} {B bk : Nat} {xy : Value × Value} {nv mv : Value} {E : List (Value × Int)} {next : Int} (h : BookIn w B bk xy nv mv E next) : w.cell? ⟨bk, 4, none⟩ = some (.slice none 0 0) ∧ w.cell? ⟨bk, 6, none⟩ = some (.slice none 0 0) := by
  refine ⟨?_, ?_⟩ <;> simp [World.cell?, h.box]
theorem bookreads_any (bk : Nat) (w : World) (n4 : w.cell? ⟨bk, 4, none⟩ = some (.slice none 0 0)) (n6 : w.cell? ⟨bk, 6, none⟩ = some (.slice none 0 0)) :
    Calls Try.prog 12 #[.pointer (some ⟨bk, 0, none⟩)] w fun e w' => e = .returned (.bool true) ∧ w' = w := by
  go_enter Try.func12, Try.ntmps12
  go_wp2
  go_loopw [3] (fun i wr => i = .int .i64 0 ∧ wr = w) (fun _ _ => 0)
  case atStart => exact ⟨rfl, rfl⟩
  case round =>
    obtain ⟨rfl, rfl⟩ := hrel
    go_wp2
    go_loopw [6] (fun i wx => i = .int .i64 0 ∧ wx = wr) (fun _ _ => 0)
    case atStart => exact ⟨rfl, rfl⟩
    case round =>
      obtain ⟨rfl, rfl⟩ := hrel
      go_wp2
      go_ret
      exact ⟨rfl, rfl⟩
/-- A list of literals in the book, and the one that tells the mark. -/
theorem Book2.litAt {w : World} {B bk : Nat} {nv mv xv yv : Value} {E : List (Value × Int)} {F : List LTri} {G : List GTri} {next : Int} (h : Book2 w B bk nv mv xv yv E F G next) {i nF : Nat} (hnF : F.length * 3 = nF) (hi : i < nF) :
    ∃ gx xc a n c g1 n1 c1 ga m, xv = .slice (some ⟨gx, 0, none⟩) nF xc ∧ w.cell? ⟨gx, i, none⟩ = some (.slice a n c) ∧ w.cell? ⟨gx, i / 3 * 3 + 1, none⟩ = some (.slice (some ⟨g1, 0, none⟩) (n1 + 1) c1) ∧ n ≤ 1000000000000 ∧ n1 ≤ 1000000000000 ∧ (∀ k, k < n → ∃ g, a = some ⟨g, 0, none⟩ ∧ w.cell? ⟨g, k * 2, none⟩ = some (.bool true) ∧ w.cell? ⟨g, k * 2 + 1, none⟩ = some (.slice (some ⟨ga, 0, none⟩) 1 1)) ∧ w.cell? ⟨g1, n1 * 2, none⟩ = some (.bool true) ∧ w.cell? ⟨g1, n1 * 2 + 1, none⟩ = some (.slice (some ⟨ga, 0, none⟩) 1 1) ∧ w.heap[ga]? = some (.cells #[.string ⟨#[61]⟩, .int .i64 m] 46) := by
  subst hnF
  have hj : i / 3 < F.length := by omega
  have hF := h.fs _ (List.getElem_mem hj)
  generalize hf : F[i / 3] = f at hF
  obtain ⟨xa, xc, rfl, hx⟩ := row_vals h.rx
  have hv3 : ∀ g : LTri, g.vals.length = 3 := fun _ => rfl
  have hmod : i % 3 < f.vals.length := by rw [hv3]; omega
  obtain ⟨gx, rfl, e0⟩ := hx i f.vals[i % 3] (by rw [flat3 _ hv3 _ _ hj, hf]; simp [hmod])
  obtain ⟨gx', hgx, e1⟩ := hx (i / 3 * 3 + 1) f.one (by rw [flat3 _ hv3 _ _ (by omega)]; simp [show (i / 3 * 3 + 1) / 3 = i / 3 by omega, show (i / 3 * 3 + 1) % 3 = 1 by omega, hf, LTri.vals])
  simp at hgx
  subst hgx
  obtain ⟨a, n, c, hv, hn, hc⟩ := (hF.marks _ (List.getElem_mem hmod)).view
  obtain ⟨a1, n1, c1, hone⟩ := hF.len
  obtain ⟨a1', n1', c1', hv1, hn1, hc1⟩ := (hF.marks f.one (by simp [LTri.vals])).view
  rw [hone] at hv1
  simp at hv1
  obtain ⟨rfl, rfl, rfl⟩ := hv1
  obtain ⟨g1, rfl, hg1⟩ := hc1 n1 (by omega)
  refine ⟨gx, xc, a, n, c, g1, n1, c1, f.ga, f.m, rfl, by rw [e0, hv], by rw [e1, hone], hn, by omega, fun k hk => ?_, hg1 0 (by simp), hg1 1 (by simp), hF.atom⟩
  obtain ⟨g, ha, hg⟩ := hc k hk
  exact ⟨g, ha, hg 0 (by simp), hg 1 (by simp)⟩
/-- A list of clauses in the book, and the one that tells the mark. -/
theorem Book2.lisAt {w : World} {B bk : Nat} {nv mv xv yv : Value} {E : List (Value × Int)} {F : List LTri} {G : List GTri} {next : Int} (h : Book2 w B bk nv mv xv yv E F G next) {i nF : Nat} (hnF : G.length * 3 = nF) (hi : i < nF) :
    ∃ gx xc a n c g1 n1 c1 gl ga m, yv = .slice (some ⟨gx, 0, none⟩) nF xc ∧ w.cell? ⟨gx, i, none⟩ = some (.slice a n c) ∧ w.cell? ⟨gx, i / 3 * 3 + 1, none⟩ = some (.slice (some ⟨g1, 0, none⟩) (n1 + 1) c1) ∧ n ≤ 1000000000000 ∧ n1 ≤ 1000000000000 ∧ (∀ k, k < n → ∃ g, a = some ⟨g, 0, none⟩ ∧ w.cell? ⟨g, k, none⟩ = some (.slice (some ⟨gl, 0, none⟩) 1 1)) ∧ w.cell? ⟨g1, n1, none⟩ = some (.slice (some ⟨gl, 0, none⟩) 1 1) ∧ w.cell? ⟨gl, 0, none⟩ = some (.bool true) ∧ w.cell? ⟨gl, 1, none⟩ = some (.slice (some ⟨ga, 0, none⟩) 1 1) ∧ w.heap[ga]? = some (.cells #[.string ⟨#[61]⟩, .int .i64 m] 46) := by
  subst hnF
  have hj : i / 3 < G.length := by omega
  have hF := h.gs _ (List.getElem_mem hj)
  generalize hf : G[i / 3] = f at hF
  obtain ⟨xa, xc, rfl, hx⟩ := row_vals h.ry
  have hv3 : ∀ g : GTri, g.vals.length = 3 := fun _ => rfl
  have hmod : i % 3 < f.vals.length := by rw [hv3]; omega
  obtain ⟨gx, rfl, e0⟩ := hx i f.vals[i % 3] (by rw [flat3 _ hv3 _ _ hj, hf]; simp [hmod])
  obtain ⟨gx', hgx, e1⟩ := hx (i / 3 * 3 + 1) f.one (by rw [flat3 _ hv3 _ _ (by omega)]; simp [show (i / 3 * 3 + 1) / 3 = i / 3 by omega, show (i / 3 * 3 + 1) % 3 = 1 by omega, hf, GTri.vals])
  simp at hgx
  subst hgx
  obtain ⟨a, n, c, hv, hn, hc⟩ := (hF.marks _ (List.getElem_mem hmod)).view
  obtain ⟨a1, n1, c1, hone⟩ := hF.len
  obtain ⟨a1', n1', c1', hv1, hn1, hc1⟩ := (hF.marks f.one (by simp [GTri.vals])).view
  rw [hone] at hv1
  simp at hv1
  obtain ⟨rfl, rfl, rfl⟩ := hv1
  obtain ⟨g1, rfl, hg1⟩ := hc1 n1 (by omega)
  obtain ⟨l0, l1⟩ := box2 hF.lit
  refine ⟨gx, xc, a, n, c, g1, n1, c1, f.gl, f.ga, f.m, rfl, by rw [e0, hv], by rw [e1, hone], hn, by omega, fun k hk => ?_, by simpa using hg1 0 (by simp), l0, l1, hF.atom⟩
  obtain ⟨g, ha, hg⟩ := hc k hk
  exact ⟨g, ha, by simpa using hg 0 (by simp)⟩

end Go.Proofs.Ytcpdadppblbndaa
