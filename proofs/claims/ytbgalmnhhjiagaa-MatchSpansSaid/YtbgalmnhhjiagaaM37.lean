/- Contract of package match's noSpans. -/
import Derived.Test.YtbgalmnhhjiagaaM25
import Derived.Test.YtbgalmnhhjiagaaM28
set_option linter.unusedVariables false
set_option maxRecDepth 100000
namespace Go.Proofs.Ytbgalmnhhjiagaa
open Go.RowKit

def spTo (k : Nat) : Spn := fun g => if g < k then (-1, -1) else (0, 0)
theorem spTo_zero : hitC (spTo 0) = hitC sp00 := rfl
theorem spTo_end : hitC (spTo 10) = hitC spNo := rfl
theorem spTo_next (k : Nat) : setSp (spTo k) k (-1, -1) = spTo (k + 1) := by
  funext g
  unfold setSp spTo
  by_cases h : g = k
  · subst h; simp
  · rw [if_neg h]
    by_cases h2 : g < k
    · rw [if_pos h2, if_pos (by omega)]
    · rw [if_neg h2, if_neg (by omega)]
theorem hitC_set (s : Spn) {g : Nat} (h : g < 10) (x : Int × Int) : ((hitC s).setIfInBounds (g * 2) (.int .i64 x.1)).setIfInBounds (g * 2 + 1) (.int .i64 x.2) = hitC (setSp s g x) := by
  unfold hitC
  rw [hitL_set s h, Nat.mul_comm]
  simp
theorem size_spans : (Try.prog.info? 71).map (·.size) = some 20 := by kernel_rfl
theorem hit_cells (s : Spn) : (hitC s).all (·.oneCell') = true := all_oneCell_toArray (hit_one s)
theorem Held.span {w : World} {B : Nat} {t : TypeId} {s : Spn} (h : Held w B t (hitC s)) {k : Nat} (hk : k < 10) (x : Int × Int) : Held ((w.setCell ⟨B, k * 2, none⟩ (.int .i64 x.1)).setCell ⟨B, k * 2 + 1, none⟩ (.int .i64 x.2)) B t (hitC (setSp s k x)) := by
  have := (h.put (k * 2) (.int .i64 x.1)).put (k * 2 + 1) (.int .i64 x.2)
  rwa [hitC_set s hk x] at this
def RelNs (w : World) (i : Value) (wr : World) : Prop :=
  ∃ k : Nat, k ≤ 10 ∧ i = .int .i64 (k : Int) ∧ Held wr w.heap.size 71 (hitC sp00) ∧ Held wr (w.heap.size + 1) 71 (hitC (spTo k)) ∧ Below w.heap.size w wr
theorem RelNs.mk {w : World} {i : Value} {wr : World} (h : ∃ k : Nat, k ≤ 10 ∧ i = .int .i64 (k : Int) ∧ Held wr w.heap.size 71 (hitC sp00) ∧ Held wr (w.heap.size + 1) 71 (hitC (spTo k)) ∧ Below w.heap.size w wr) : RelNs w i wr := h
theorem span_there {w : World} {B : Nat} {t : TypeId} {s : Spn} (h : Held w B t (hitC s)) {k : Nat} (hk : k < 10) : w.cell? ⟨B, k * 2, none⟩ = some (.int .i64 (s k).1) ∧ w.cell? ⟨B, k * 2 + 1, none⟩ = some (.int .i64 (s k).2) := by
  refine ⟨h.at_ ?_, h.at_ ?_⟩
  · rw [Nat.mul_comm]; unfold hitC; rw [List.getElem?_toArray]; exact hitL_from s hk
  · rw [Nat.mul_comm]; unfold hitC; rw [List.getElem?_toArray]; exact hitL_to s hk
set_option maxHeartbeats 4000000 in
theorem mnoSpans_any (w : World) : Calls Try.prog 23 #[] w fun e w' => e = .returned (hitV spNo) ∧ Below w.heap.size w w' := by
  go_enter Try.func23, Try.ntmps23
  go_wp2
  go_loopw [3] (RelNs w) (fun i _ => 10 - (intOf i).toNat)
  case atStart => exact RelNs.mk ⟨0, by omega, rfl, (held_new w 71 (hitC sp00)).alloc _, held_new2 w _ 71 (hitC (spTo 0)), ((Below.refl _ _).alloc (Nat.le_refl _) _).alloc (by simp) _⟩
  case round =>
    obtain ⟨k, hk, rfl, h0, h1, hb⟩ := hrel
    by_cases hlt : k < 10
    · have ⟨c0, c1⟩ := span_there h1 hlt
      have t0 := h1.thawed (k * 2)
      have t1 := h1.thawed (k * 2 + 1)
      have h1' := Lib.hid (h1.span hlt (-1, -1))
      have h0' := Lib.hid ((h0.far (a := ⟨w.heap.size + 1, k * 2, none⟩) (by show w.heap.size ≠ w.heap.size + 1; omega) (.int .i64 (-1))).far (a := ⟨w.heap.size + 1, k * 2 + 1, none⟩) (by show w.heap.size ≠ w.heap.size + 1; omega) (.int .i64 (-1)))
      have hb' := Lib.hid ((hb.setCell (p := ⟨w.heap.size + 1, k * 2, none⟩) (Nat.le_succ _) (.int .i64 (-1))).setCell (p := ⟨w.heap.size + 1, k * 2 + 1, none⟩) (Nat.le_succ _) (.int .i64 (-1)))
      rw [spTo_next] at h1'
      have k0 : (0 : Int) ≤ (k : Int) := by omega
      have k1 : (k : Int) < 10 := by omega
      clear h0 h1 hb
      go_wp2
      go_roundw
      case rel => exact RelNs.mk ⟨k + 1, by omega, by go_num, h0'.out, h1'.out, hb'.out⟩
      case measure => simp [intOf]; omega
    · obtain rfl : k = 10 := by omega
      rw [spTo_end] at h1
      have h0' := Lib.hid h0
      have h1' := Lib.hid h1
      have hb' := Lib.hid hb
      clear h0 h1 hb
      go_wp2_with (first
        | (refine wpList_load_row rfl 71 (.tmp 1) rfl (w.heap.size + 1) rfl 71 _ (0, 0) _ h1'.out Try.underlying71 rfl (by rw [hitC_size]; exact size_spans) ?_)
        | (refine wpList_store_row rfl 71 (.tmp 0) (.tmp 10) rfl w.heap.size (hitC spNo) rfl rfl 71 _ h0'.out (by rw [hitC_size]; exact size_spans) (by rw [hitC_size, hitC_size]) (hit_cells _) ?_))
      exact bodyPost_ret (v := hitV spNo) (results_cell_row Try.results23 _ _ w.heap.size 71 (hitC spNo) (0, 0) _ rfl (h0'.out.row _) Try.underlying71 rfl (by rw [hitC_size]; exact size_spans)) rfl ⟨rfl, below_row hb'.out (Nat.le_refl _) _⟩
end Go.Proofs.Ytbgalmnhhjiagaa
