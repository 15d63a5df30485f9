/- Contracts: class.Not, the reference's Has. -/
import Derived.Test.YtcloimdndcbchaaClsC
import Derived.Deep.RegionWith
set_option maxRecDepth 100000
namespace Go.Proofs.Ytcloimdndcbchaa
open Go.RowKit

def halfN (x k : Nat) : Nat := x / 2 ^ k
theorem halfN_zero (x : Nat) : halfN x 0 = x := by simp [halfN]
theorem halfN_next (x k : Nat) : halfN x k / 2 = halfN x (k + 1) := by
  unfold halfN; rw [Nat.div_div_eq_div_mul, Nat.pow_succ]
theorem halfN_lt (x k : Nat) (h : x < 18446744073709551616) : halfN x k < 18446744073709551616 := Nat.lt_of_le_of_lt (Nat.div_le_self _ _) h
theorem halfN_end (f : Nat → Bool) (c k i : Nat) (h : c = 64 * k + i) (hi : i < 64) : ((((halfN (wd f k) i : Nat) : Int) % 2) == 1) = f c := by
  have := wd_bit f k i hi
  rw [← h, Nat.testBit_eq_decide_div_mod_eq] at this
  rw [← this]
  unfold halfN
  generalize wd f k / 2 ^ i = z
  rw [Bool.eq_iff_iff]
  simp only [beq_iff_eq, decide_eq_true_eq]
  omega

def RelHalf (x i0 : Nat) (v i : Value) : Prop := ∃ k : Nat, k ≤ i0 ∧ v = .int .u64 ((halfN x k : Nat) : Int) ∧ i = .int .u8 (k : Nat)
theorem RelHalf.mk {x i0 : Nat} {v i : Value} (h : ∃ k : Nat, k ≤ i0 ∧ v = .int .u64 ((halfN x k : Nat) : Int) ∧ i = .int .u8 (k : Nat)) : RelHalf x i0 v i := h


/-! ### Not -/
def notS (f : Nat → Bool) (k : Nat) : Nat → Bool := fun c => if c < 64 * k then !f c else f c
theorem notS_zero (f : Nat → Bool) : notS f 0 = f := by funext c; simp [notS]
theorem notS_end (f : Nat → Bool) : alike (notS f 4) (fun c => !f c) := fun c hc => by simp [notS, hc]
theorem notS_at (f : Nat → Bool) (k : Nat) : wd (notS f k) k = wd f k := wd_congr fun i hi => by
  have : ¬ 64 * k + i < 64 * k := by omega
  simp [notS, this]
theorem notS_next (f : Nat → Bool) (k : Nat) : wd (notS f (k + 1)) k = 18446744073709551615 - wd f k := by
  rw [wd_not]
  exact wd_congr fun i hi => by
    have : 64 * k + i < 64 * (k + 1) := by omega
    simp [notS, this]
theorem notS_other (f : Nat → Bool) (k j : Nat) (h : j ≠ k) : wd (notS f (k + 1)) j = wd (notS f k) j := wd_congr fun i hi => by
  have : (64 * j + i < 64 * (k + 1)) = (64 * j + i < 64 * k) := by apply propext; omega
  simp [notS, this]
/-- ^x. -/
def comp (x : Nat) : Int := bits .xor .u64 (if IntKind.u64.signed = true then -1 else IntKind.u64.max) (x : Int)
theorem comp_eq (x : Nat) (h : x < 18446744073709551616) : comp x = 18446744073709551615 - (x : Int) := by
  unfold comp
  rw [show (if IntKind.u64.signed = true then -1 else IntKind.u64.max : Int) = ((18446744073709551615 : Nat) : Int) by rfl, bits_xor_u64_nat _ _ (by decide) h]
  have : 18446744073709551615 ^^^ x = 18446744073709551615 - x := by
    apply Nat.eq_of_testBit_eq
    intro j
    rw [Nat.testBit_xor, show 18446744073709551615 - x = 2 ^ 64 - (x + 1) by omega, Nat.testBit_two_pow_sub_succ (by omega), show 18446744073709551615 = 2 ^ 64 - 1 by rfl, Nat.testBit_two_pow_sub_one]
    by_cases hj : j < 64
    · simp [hj]
    · have : x.testBit j = false := Nat.testBit_lt_two_pow (Nat.lt_of_lt_of_le (show x < 2 ^ 64 from h) (Nat.pow_le_pow_right (by decide) (Nat.not_lt.1 hj)))
      simp [hj, this]
  rw [this]
  omega
theorem SetAt.noted {w : World} {g k : Nat} {f : Nat → Bool} (h : SetAt w g (notS f k)) (hk : k = 0 ∨ k = 1 ∨ k = 2 ∨ k = 3) :
    SetAt (w.setCell ⟨g, k, none⟩ (.int .u64 (comp (wd f k)))) g (notS f (k + 1)) := by
  unfold SetAt at h ⊢
  have hl := wd_lt f k
  rw [heap_setCell_same w g k _ _ _ h, comp_eq _ hl, show (18446744073709551615 - ((wd f k : Nat) : Int)) = ((18446744073709551615 - wd f k : Nat) : Int) by omega, ← notS_next]
  unfold setC
  rcases hk with rfl | rfl | rfl | rfl
  · rw [← notS_other f 0 1 (by decide), ← notS_other f 0 2 (by decide), ← notS_other f 0 3 (by decide)]; rfl
  · rw [← notS_other f 1 0 (by decide), ← notS_other f 1 2 (by decide), ← notS_other f 1 3 (by decide)]; rfl
  · rw [← notS_other f 2 0 (by decide), ← notS_other f 2 1 (by decide), ← notS_other f 2 3 (by decide)]; rfl
  · rw [← notS_other f 3 0 (by decide), ← notS_other f 3 1 (by decide), ← notS_other f 3 2 (by decide)]; rfl

def RelNot (w : World) (f : Nat → Bool) (i : Value) (wr : World) : Prop :=
  ∃ k : Nat, k ≤ 4 ∧ i = .int .i64 (k : Nat) ∧ SetAt wr w.heap.size (notS f k) ∧ SetAt wr (w.heap.size + 1) (fun _ => false) ∧ Below w.heap.size w wr
theorem RelNot.mk {w : World} {f : Nat → Bool} {i : Value} {wr : World} (h : ∃ k : Nat, k ≤ 4 ∧ i = .int .i64 (k : Nat) ∧ SetAt wr w.heap.size (notS f k) ∧ SetAt wr (w.heap.size + 1) (fun _ => false) ∧ Below w.heap.size w wr) : RelNot w f i wr := h

set_option maxRecDepth 100000 in
theorem run_index (f : Nat → Bool) (k : Nat) (hk : k = 0 ∨ k = 1 ∨ k = 2 ∨ k = 3) : ∀ w, (Instr.index 35 (.agg (setC f)) (.int .i64 (k : Int))).run Try.prog w = .ok (.int .u64 ((wd f k : Nat) : Int)) w := by
  rcases hk with rfl | rfl | rfl | rfl <;> exact fun _ => by kernel_rfl

set_option maxRecDepth 100000 in
set_option maxHeartbeats 4000000 in
theorem not_any (f : Nat → Bool) (w : World) :
    Calls Try.prog 37 #[setV f] w fun e w' => e = .returned (setV (fun c => !f c)) ∧ Below w.heap.size w w' := by
  show Calls Try.prog 37 #[.agg (setC f)] w _
  go_enter Try.func37, Try.ntmps37
  go_wp2_with (refine wpList_load_row rfl 35 (.tmp 1) rfl w.heap.size rfl 35 _ (0, 0) _ ((set_new w f).alloc _) Try.underlying35 rfl (set_size _) ?_)
  go_loopw [6] (RelNot w f) (fun i _ => 4 - (intOf i).toNat)
  case atStart => exact RelNot.mk ⟨0, by omega, rfl, by rw [notS_zero]; exact (set_new w f).alloc _, set_zero_at _ _ (by simp), ((Below.refl _ _).alloc (Nat.le_refl _) _).alloc (by simp) _⟩
  case round =>
    obtain ⟨k, hk, rfl, hs, hz, hb⟩ := hrel
    by_cases hlt : k < 4
    · have hK : k = 0 ∨ k = 1 ∨ k = 2 ∨ k = 3 := by omega
      have hix := run_index f k hK
      have hs' := Lib.hid (hs.noted hK)
      have hz' := Lib.hid (hz.set_other (a := ⟨w.heap.size, k, none⟩) (v := .int .u64 (comp (wd f k))) (by show w.heap.size + 1 ≠ w.heap.size; omega))
      have hb' := Lib.hid (hb.setCell (p := ⟨w.heap.size, k, none⟩) (Nat.le_refl _) (.int .u64 (comp (wd f k))))
      have c0 := hs.cell' hK
      rw [notS_at] at c0
      have f0 := hs.thawed k
      have hlx := wd_lt f k
      have k0 : (0 : Int) ≤ (k : Int) := by omega
      have k1 : (k : Int) < 4 := by omega
      clear hs hz hb hK
      go_wp2
      go_round
      case rel => exact RelNot.mk ⟨k + 1, by omega, by go_num, hs'.out, hz'.out, hb'.out⟩
      case measure => simp [intOf]; omega
    · obtain rfl : k = 4 := by omega
      have hz' := Lib.hid hz
      have hb' := Lib.hid hb
      have hs' := Lib.hid hs
      clear hz hb hs
      go_wp2_with (first
        | (refine wpList_load_row rfl 35 (.tmp 1) rfl w.heap.size rfl 35 _ (0, 0) _ hs'.out Try.underlying35 rfl (set_size _) ?_)
        | (refine wpList_store_row rfl 35 (.tmp 2) (.tmp 15) rfl (w.heap.size + 1) (setC (notS f 4)) rfl rfl 35 _ hz'.out (set_size _) (set_hold _ _) (set_cells _) ?_))
      refine bodyPost_ret (v := setV (notS f 4)) (results_cell_row Try.results37 _ _ (w.heap.size + 1) 35 (setC (notS f 4)) (0, 0) _ rfl (hz'.out.put _) Try.underlying35 rfl (set_size _)) rfl ⟨by rw [(notS_end f).setV], below_put hb'.out (by omega) _⟩
end Go.Proofs.Ytcloimdndcbchaa
