/- Contracts of package class: Range, Named. -/
import Derived.Test.YtcloimdndcbchaaClsD
import Derived.Test.YtcloimdndcbchaaDigA
set_option maxRecDepth 100000
namespace Go.Proofs.Ytcloimdndcbchaa
open Go.RowKit

def rowS (a k : Nat) : Nat → Bool := fun x => decide (a ≤ x) && decide (x < k)
theorem rowS_none (a : Nat) : rowS a a = fun _ => false := by
  funext x; unfold rowS
  by_cases h : a ≤ x
  · have : ¬ x < a := by omega
    simp [this]
  · simp [h]
theorem rowS_next (a k : Nat) (h : a ≤ k) : (fun x => rowS a k x || decide (x = k)) = rowS a (k + 1) := by
  funext x; unfold rowS
  rw [Bool.eq_iff_iff]
  simp only [Bool.or_eq_true, Bool.and_eq_true, decide_eq_true_eq]
  omega

def RelRow (w : World) (a b : Nat) (i : Value) (wr : World) : Prop :=
  ∃ k : Nat, a ≤ k ∧ (k ≤ b + 1 ∨ k = a) ∧ i = .int .i64 (k : Nat) ∧ SetAt wr w.heap.size (fun _ => false) ∧ SetAt wr (w.heap.size + 1) (rowS a k) ∧ Below w.heap.size w wr
theorem RelRow.mk {w : World} {a b : Nat} {i : Value} {wr : World} (h : ∃ k : Nat, a ≤ k ∧ (k ≤ b + 1 ∨ k = a) ∧ i = .int .i64 (k : Nat) ∧ SetAt wr w.heap.size (fun _ => false) ∧ SetAt wr (w.heap.size + 1) (rowS a k) ∧ Below w.heap.size w wr) : RelRow w a b i wr := h

set_option maxRecDepth 100000 in
set_option maxHeartbeats 4000000 in
theorem range_any (a b : Nat) (w : World) (ha : a < 256) (hb' : b < 256) :
    Calls Try.prog 77 #[.int .u8 (a : Int), .int .u8 (b : Int)] w fun e w' => e = .returned (setV (fun x => decide (a ≤ x) && decide (x ≤ b))) ∧ Below w.heap.size w w' := by
  go_enter Try.func77, Try.ntmps77
  go_wp2
  go_loopw [6] (RelRow w a b) (fun i _ => 256 - (intOf i).toNat)
  case atStart => exact RelRow.mk ⟨a, by omega, .inr rfl, by go_num, (set_zero w).alloc _, by rw [rowS_none]; exact set_zero_at _ _ (by simp), ((Below.refl _ _).alloc (Nat.le_refl _) _).alloc (by simp) _⟩
  case round =>
    obtain ⟨k, hak, hkb, rfl, hz, hs, hb⟩ := hrel
    by_cases hlt : k ≤ b
    · have hnx := Lib.hid (rowS_next a k hak)
      have hc : k < 256 := by omega
      obtain ⟨K, i, he, hi, hK⟩ := byte_parts k hc
      have h0 := tdiv_of he hi
      have h1 := ediv_of he hi
      have hs1 := hs.more he hi hK
      rw [hnx.out] at hs1
      have hs' := Lib.hid hs1
      have hz' := Lib.hid (hz.set_other (a := ⟨w.heap.size + 1, K, none⟩) (v := .int .u64 (bits .or .u64 ((wd (rowS a k) K : Nat) : Int) ((bitN k : Nat) : Int))) (by show w.heap.size ≠ w.heap.size + 1; omega))
      have hb' := Lib.hid (hb.setCell (p := ⟨w.heap.size + 1, K, none⟩) (by show w.heap.size ≤ w.heap.size + 1; omega) (.int .u64 (bits .or .u64 ((wd (rowS a k) K : Nat) : Int) ((bitN k : Nat) : Int))))
      have hlt' := Lib.hid hlt
      have hak' := Lib.hid hak
      have c0 := hs.cell' hK
      have f0 := hs.thawed K
      have k0 : (0 : Int) ≤ (K : Int) := by omega
      have k1 : (K : Int) < 4 := by omega
      have k2 : IntKind.i64.wrap (K : Int) = (K : Int) := IntWalk.i64_in _ (by omega)
      have k3 : IntKind.u8.wrap (k : Int) = (k : Int) := IntWalk.u8_in _ (by omega)
      have k4 : (k : Int) % 256 = (k : Int) := by omega
      clear he hi hz hb hs hs1 hK
      go_wp2_with (first | (go_region_with ((go_at_call 52; refine (bit_any k _ hc).mono ?_; rintro e w' ⟨rfl, rfl⟩))) | fail)
      all_goals
        clear k4
        go_roundw
        case rel => exact RelRow.mk ⟨k + 1, by have := hak'.out; omega, .inl (by have := hlt'.out; omega), by go_num, hz'.out, hs'.out, hb'.out.drew⟩
        case measure => simp [intOf]; omega
    · have hz' := Lib.hid hz
      have hb' := Lib.hid hb
      have hs' := Lib.hid hs
      have hkb' := Lib.hid hkb
      have hlt' := Lib.hid hlt
      clear hz hb hs hkb
      go_wp2_with (first
        | (refine wpList_load_row rfl 35 (.tmp 5) rfl (w.heap.size + 1) rfl 35 _ (0, 0) _ hs'.out Try.underlying35 rfl (set_size _) ?_)
        | (refine wpList_store_row rfl 35 (.tmp 4) (.tmp 24) rfl w.heap.size (setC (rowS a k)) rfl rfl 35 _ hz'.out (set_size _) (set_hold _ _) (set_cells _) ?_))
      have e : setV (rowS a k) = setV (fun x => decide (a ≤ x) && decide (x ≤ b)) := by
        congr 1
        funext x; unfold rowS
        rw [Bool.eq_iff_iff]
        simp only [Bool.and_eq_true, decide_eq_true_eq]
        have := hkb'.out; have := hlt'.out
        omega
      refine bodyPost_ret (v := setV (rowS a k)) (results_cell_row Try.results77 _ _ w.heap.size 35 (setC (rowS a k)) (0, 0) _ rfl (hz'.out.put _) Try.underlying35 rfl (set_size _)) rfl ⟨by rw [e], below_put hb'.out (Nat.le_refl _) _⟩
end Go.Proofs.Ytcloimdndcbchaa
