/- Contracts: wanted. -/
import Derived.Test.YtbgalmnhhjiagaaM07
set_option maxRecDepth 100000
namespace Go.Proofs.Ytbgalmnhhjiagaa
open Go.RowKit

theorem zset_wd (k : Nat) : wd zset k = 0 := wd_none k
theorem nodC_z (k a b lo hi g : Int) : nodC ⟨k, a, b, lo, hi, g, zset⟩ = #[.int .i64 k, .int .i64 a, .int .i64 b, .int .i64 lo, .int .i64 hi, .int .i64 g, .int .u64 0, .int .u64 0, .int .u64 0, .int .u64 0] := by
  unfold nodC nodL; rw [zset_wd, zset_wd, zset_wd, zset_wd]; rfl
theorem Held.z {w : World} {q : Nat} {t : TypeId} {k a b lo hi g : Int} (h : Held w q t #[.int .i64 k, .int .i64 a, .int .i64 b, .int .i64 lo, .int .i64 hi, .int .i64 g, .int .u64 0, .int .u64 0, .int .u64 0, .int .u64 0]) :
    Held w q t (nodC ⟨k, a, b, lo, hi, g, zset⟩) := by rw [nodC_z]; exact h

set_option maxHeartbeats 4000000 in
theorem wanted_any (n : Nod) (w : World) : Calls Try.prog 33 #[nodV n] w fun e w' => e = .returned (nodV (wantedN n)) ∧ Below w.heap.size w w' := by
  have hb := Lib.hid (alloc2_below w)
  by_cases h1 : n.kind = 1
  · obtain ⟨k, a, b, lo, hi, g, s⟩ := n
    simp only at h1
    subst h1
    rw [show wantedN ⟨1, a, b, lo, hi, g, s⟩ = ⟨1, 0, 0, 0, 0, 0, s⟩ by rfl, nodV_lit 1 a b lo hi g s]
    go_enter Try.func33, Try.ntmps33
    go_wp2
    exact bodyPost_ret (v := .agg (nodC (⟨1, 0, 0, 0, 0, 0, s⟩))) (results_cell_row Try.results33 _ _ (w.heap.size + 1) 49 (nodC (⟨1, 0, 0, 0, 0, 0, s⟩)) (0, 0) _ rfl (held_new2 _ _ _ _) under_nod rfl (nod_size _)) rfl ⟨rfl, hb.out _ _⟩
  by_cases h2 : n.kind = 2
  · obtain ⟨k, a, b, lo, hi, g, s⟩ := n
    simp only at h2
    subst h2
    clear h1
    rw [show wantedN ⟨2, a, b, lo, hi, g, s⟩ = ⟨2, a, b, 0, 0, 0, zset⟩ by rfl, nodV_lit 2 a b lo hi g s]
    go_enter Try.func33, Try.ntmps33
    go_wp2
    exact bodyPost_ret (v := .agg (nodC (⟨2, a, b, 0, 0, 0, zset⟩))) (results_cell_row Try.results33 _ _ (w.heap.size + 1) 49 (nodC (⟨2, a, b, 0, 0, 0, zset⟩)) (0, 0) _ rfl (Held.z (held_new2 _ _ _ _)) under_nod rfl (nod_size _)) rfl ⟨rfl, hb.out _ _⟩
  by_cases h3 : n.kind = 3
  · obtain ⟨k, a, b, lo, hi, g, s⟩ := n
    simp only at h3
    subst h3
    clear h1 h2
    rw [show wantedN ⟨3, a, b, lo, hi, g, s⟩ = ⟨3, a, b, 0, 0, 0, zset⟩ by rfl, nodV_lit 3 a b lo hi g s]
    go_enter Try.func33, Try.ntmps33
    go_wp2
    exact bodyPost_ret (v := .agg (nodC (⟨3, a, b, 0, 0, 0, zset⟩))) (results_cell_row Try.results33 _ _ (w.heap.size + 1) 49 (nodC (⟨3, a, b, 0, 0, 0, zset⟩)) (0, 0) _ rfl (Held.z (held_new2 _ _ _ _)) under_nod rfl (nod_size _)) rfl ⟨rfl, hb.out _ _⟩
  by_cases h4 : n.kind = 4
  · obtain ⟨k, a, b, lo, hi, g, s⟩ := n
    simp only at h4
    subst h4
    clear h1 h2 h3
    rw [show wantedN ⟨4, a, b, lo, hi, g, s⟩ = ⟨4, a, 0, lo, hi, 0, zset⟩ by rfl, nodV_lit 4 a b lo hi g s]
    go_enter Try.func33, Try.ntmps33
    go_wp2
    exact bodyPost_ret (v := .agg (nodC (⟨4, a, 0, lo, hi, 0, zset⟩))) (results_cell_row Try.results33 _ _ (w.heap.size + 1) 49 (nodC (⟨4, a, 0, lo, hi, 0, zset⟩)) (0, 0) _ rfl (Held.z (held_new2 _ _ _ _)) under_nod rfl (nod_size _)) rfl ⟨rfl, hb.out _ _⟩
  by_cases h5 : n.kind = 5
  · obtain ⟨k, a, b, lo, hi, g, s⟩ := n
    simp only at h5
    subst h5
    clear h1 h2 h3 h4
    rw [show wantedN ⟨5, a, b, lo, hi, g, s⟩ = ⟨5, a, 0, 0, 0, g, zset⟩ by rfl, nodV_lit 5 a b lo hi g s]
    go_enter Try.func33, Try.ntmps33
    go_wp2
    exact bodyPost_ret (v := .agg (nodC (⟨5, a, 0, 0, 0, g, zset⟩))) (results_cell_row Try.results33 _ _ (w.heap.size + 1) 49 (nodC (⟨5, a, 0, 0, 0, g, zset⟩)) (0, 0) _ rfl (Held.z (held_new2 _ _ _ _)) under_nod rfl (nod_size _)) rfl ⟨rfl, hb.out _ _⟩
  by_cases h6 : n.kind = 6
  · obtain ⟨k, a, b, lo, hi, g, s⟩ := n
    simp only at h6
    subst h6
    clear h1 h2 h3 h4 h5
    rw [show wantedN ⟨6, a, b, lo, hi, g, s⟩ = ⟨6, 0, 0, 0, 0, g, zset⟩ by rfl, nodV_lit 6 a b lo hi g s]
    go_enter Try.func33, Try.ntmps33
    go_wp2
    exact bodyPost_ret (v := .agg (nodC (⟨6, 0, 0, 0, 0, g, zset⟩))) (results_cell_row Try.results33 _ _ (w.heap.size + 1) 49 (nodC (⟨6, 0, 0, 0, 0, g, zset⟩)) (0, 0) _ rfl (Held.z (held_new2 _ _ _ _)) under_nod rfl (nod_size _)) rfl ⟨rfl, hb.out _ _⟩
  · obtain ⟨k, a, b, lo, hi, g, s⟩ := n
    rw [show wantedN ⟨k, a, b, lo, hi, g, s⟩ = ⟨k, 0, 0, 0, 0, 0, zset⟩ by simp only at h1 h2 h3 h4 h5 h6; simp [wantedN, h1, h2, h3, h4, h5, h6], nodV_lit k a b lo hi g s]
    replace h1 := beq_no h1
    replace h2 := beq_no h2
    replace h3 := beq_no h3
    replace h4 := beq_no h4
    replace h5 := beq_no h5
    replace h6 := beq_no h6
    simp only at h1 h2 h3 h4 h5 h6
    go_enter Try.func33, Try.ntmps33
    go_wp2
    exact bodyPost_ret (v := .agg (nodC (⟨k, 0, 0, 0, 0, 0, zset⟩))) (results_cell_row Try.results33 _ _ (w.heap.size + 1) 49 (nodC (⟨k, 0, 0, 0, 0, 0, zset⟩)) (0, 0) _ rfl (Held.z (held_new2 _ _ _ _)) under_nod rfl (nod_size _)) rfl ⟨rfl, hb.out _ _⟩
end Go.Proofs.Ytbgalmnhhjiagaa
