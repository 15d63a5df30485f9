/- Contracts: math/bits.OnesCount64, class.Count. -/
import Derived.Test.YtlbfdnejigojhaaClsF
import Derived.Test.YtlbfdnejigojhaaClsP
namespace Go.Proofs.Ytlbfdnejigojhaa
open Go.RowKit

theorem mask_2 : mask (2 ^ 1) 32 = 6148914691236517205 := by decide +kernel
theorem mask_4 : mask (2 ^ 2) 16 = 3689348814741910323 := by decide +kernel
theorem mask_16 : mask (2 ^ 4) 8 = 1085102592571150095 := by decide +kernel
theorem i64_and127 (x : Nat) (h : x < 9223372036854775808) : bits .and .i64 (x : Int) 127 = ((x % 128 : Nat) : Int) := by
  show IntKind.i64.wrap ((BitVec.ofInt 64 (x : Int) &&& BitVec.ofInt 64 127).toNat : Int) = _
  have e : (BitVec.ofInt 64 (x : Int)).toNat = x := by rw [BitVec.ofInt_natCast, BitVec.toNat_ofNat]; exact Nat.mod_eq_of_lt (by omega)
  have e2 : (BitVec.ofInt 64 127).toNat = 2 ^ 7 - 1 := rfl
  rw [BitVec.toNat_and, e, e2, Nat.and_two_pow_sub_one_eq_mod]
  exact IntWalk.i64_in _ (by omega)
theorem nat_and_lt (x m : Nat) (hm : m < 18446744073709551616) : x &&& m < 18446744073709551616 := Nat.lt_of_le_of_lt Nat.and_le_right hm

theorem up_lt (B : Nat) (hB : 2 ≤ B) (n x : Nat) (hn : 0 < n) : up B n x < (B * B) ^ n := by
  induction n generalizing x with
  | zero => omega
  | succ n ih =>
    simp only [up]
    have h1 : x / B % B < B := Nat.mod_lt _ (by omega)
    have h2 : x % B < B := Nat.mod_lt _ (by omega)
    have h3 : x / B % B + x % B < B * B := by
      have : 2 * B ≤ B * B := Nat.mul_le_mul_right _ hB
      omega
    cases n with
    | zero => simp [up]; omega
    | succ m =>
      have h4 := ih (x / (B * B)) (by omega)
      rw [Nat.pow_succ, Nat.mul_comm _ (B * B)]
      have : B * B * (up B (m + 1) (x / (B * B)) + 1) ≤ B * B * (B * B) ^ (m + 1) := Nat.mul_le_mul_left _ h4
      rw [Nat.mul_add, Nat.mul_one] at this
      omega

theorem small_top (B c n x : Nat) (hB : 0 < B) (h : x < B ^ (n + 1)) (hs : small B c (n + 1) x) : x < (c + 1) * B ^ n := by
  induction n generalizing x with
  | zero =>
    have h1 : x % B ≤ c := hs.1
    rw [Nat.mod_eq_of_lt (by simpa using h)] at h1
    simp; omega
  | succ n ih =>
    have h1 : x / B < (c + 1) * B ^ n := ih (x / B) (Nat.div_lt_of_lt_mul (by rw [Nat.pow_succ] at h; rw [Nat.mul_comm]; exact h)) hs.2
    rw [Nat.pow_succ, ← Nat.mul_assoc]
    exact (Nat.div_lt_iff_lt_mul hB).1 h1
/-- The numbers of the way, and what they are. -/
theorem ones_way (x : Nat) (h : x < 18446744073709551616) : ∃ a1 a2 x1 a3 a4 x2 y x3 x4 x5 x6 : Nat,
    (bits .and .u64 ((x : Int) / 2) 6148914691236517205 = (a1 : Int) ∧ bits .and .u64 (x : Int) 6148914691236517205 = (a2 : Int) ∧ (a1 : Int) + (a2 : Int) = (x1 : Int) ∧ x1 < 18446744073709551616) ∧
    (bits .and .u64 ((x1 : Int) / 4) 3689348814741910323 = (a3 : Int) ∧ bits .and .u64 (x1 : Int) 3689348814741910323 = (a4 : Int) ∧ (a3 : Int) + (a4 : Int) = (x2 : Int) ∧ x2 < 18446744073709551616) ∧
    ((x2 : Int) / 16 + (x2 : Int) = (y : Int) ∧ y < 18446744073709551616 ∧ bits .and .u64 (y : Int) 1085102592571150095 = (x3 : Int) ∧ x3 < 18446744073709551616) ∧
    ((x3 : Int) + (x3 : Int) / 256 = (x4 : Int) ∧ x4 < 9223372036854775808 ∧ (x4 : Int) + (x4 : Int) / 65536 = (x5 : Int) ∧ x5 < 9223372036854775808 ∧ (x5 : Int) + (x5 : Int) / 4294967296 = (x6 : Int) ∧ x6 < 9223372036854775808) ∧
    bits .and .i64 (x6 : Int) 127 = ((ds 2 64 x : Nat) : Int) := by
  have m1 := add_masked 1 32 x
  rw [mask_2] at m1
  have l1 : up (2 ^ 1) 32 x < 18446744073709551616 := up_lt 2 (by decide) 32 x (by decide)
  have d1 := ds_up 2 (by decide) 32 x
  have s1 := small_up 2 1 (by decide) 32 x (small_bits _ _)
  generalize hx1 : up (2 ^ 1) 32 x = x1 at *
  have m2 := add_masked 2 16 x1
  rw [mask_4] at m2
  have l2 : up (2 ^ 2) 16 x1 < 18446744073709551616 := up_lt 4 (by decide) 16 x1 (by decide)
  have d2 := ds_up 4 (by decide) 16 x1
  have s2 := small_up 4 2 (by decide) 16 x1 s1
  generalize hx2 : up (2 ^ 2) 16 x1 = x2 at *
  have m3 := sum_masked 4 4 8 x2 (by decide) s2
  rw [mask_16] at m3
  have l3 : up (2 ^ 4) 8 x2 < 18446744073709551616 := up_lt 16 (by decide) 8 x2 (by decide)
  have d3 := ds_up 16 (by decide) 8 x2
  have s3 := small_up 16 4 (by decide) 8 x2 s2
  generalize hx3 : up (2 ^ 4) 8 x2 = x3 at *
  obtain ⟨x4, x5, x6, e4, e5, e6, e7, b4, b5, b6⟩ := last_sum x3 s3 l3
  have hyl : x2 / 2 ^ 4 + x2 < 18446744073709551616 := by
    have h1 : x2 < 5 * 16 ^ 15 := small_top 16 4 15 x2 (by decide) l2 s2
    have h2 : x2 < 5764607523034234880 := h1
    omega
  refine ⟨x / 2 ^ 1 &&& 6148914691236517205, x &&& 6148914691236517205, x1, x1 / 2 ^ 2 &&& 3689348814741910323, x1 &&& 3689348814741910323, x2, x2 / 2 ^ 4 + x2, x3, x4, x5, x6, ⟨?_, ?_, ?_, l1⟩, ⟨?_, ?_, ?_, l2⟩, ⟨?_, hyl, ?_, l3⟩, ⟨?_, b4, ?_, b5, ?_, b6⟩, ?_⟩
  · exact u64_and_nat (x / 2) 6148914691236517205 (by omega) (by decide)
  · exact u64_and_nat x 6148914691236517205 h (by decide)
  · rw [← m1]; omega
  · exact u64_and_nat (x1 / 4) 3689348814741910323 (by omega) (by decide)
  · exact u64_and_nat x1 3689348814741910323 l1 (by decide)
  · rw [← m2]; omega
  · rfl
  · rw [← m3]; exact u64_and_nat (x2 / 2 ^ 4 + x2) 1085102592571150095 hyl (by decide)
  · omega
  · omega
  · omega
  · have D1 : ds 4 32 x1 = ds 2 64 x := d1
    have D2 : ds 16 16 x2 = ds 4 32 x1 := d2
    have D3 : ds 256 8 x3 = ds 16 16 x2 := d3
    rw [i64_and127 _ b6, e7, D3, D2, D1]

set_option maxHeartbeats 1000000 in
theorem ones_any (x : Nat) (w : World) (h : x < 18446744073709551616) :
    Calls Try.prog 22 #[.int .u64 (x : Int)] w fun e w' => e = .returned (.int .i64 ((ds 2 64 x : Nat) : Int)) ∧ w = w' := by
  obtain ⟨a1, a2, x1, a3, a4, x2, y, x3, x4, x5, x6, ⟨p1, p2, p3, p4⟩, ⟨q1, q2, q3, q4⟩, ⟨r1, r2, r3, r4⟩, ⟨s1, s2, s3, s4, s5, s6⟩, hz⟩ := ones_way x h
  have hz' := Lib.hid hz
  clear hz
  go_enter Try.func22, Try.ntmps22
  go_wp2
  go_ret
  exact ⟨ret_int hz'.out, rfl⟩

/-! ### Count -/
theorem ds_wd (f : Nat → Bool) (k : Nat) : ds 2 64 (wd f k) = cnt (fun i => f (64 * k + i)) 64 := ds_cnt _ 64
theorem cnt_next (f : Nat → Bool) (k : Nat) : cnt f (64 * k) + ds 2 64 (wd f k) = cnt f (64 * (k + 1)) := by
  rw [ds_wd, ← cnt_add, Nat.mul_add]

def RelCnt (f : Nat → Bool) (v i : Value) : Prop := ∃ k : Nat, k ≤ 4 ∧ v = .int .i64 ((cnt f (64 * k) : Nat) : Int) ∧ i = .int .i64 (k : Nat)
theorem RelCnt.mk {f : Nat → Bool} {v i : Value} (h : ∃ k : Nat, k ≤ 4 ∧ v = .int .i64 ((cnt f (64 * k) : Nat) : Int) ∧ i = .int .i64 (k : Nat)) : RelCnt f v i := h

set_option maxRecDepth 100000 in
set_option maxHeartbeats 4000000 in
theorem count_any (f : Nat → Bool) (w : World) :
    Calls Try.prog 13 #[setV f] w fun e w' => e = .returned (.int .i64 ((cnt f 256 : Nat) : Int)) ∧ Below w.heap.size w w' := by
  show Calls Try.prog 13 #[.agg (setC f)] w _
  go_enter Try.func13, Try.ntmps13
  go_wp2_with (refine wpList_load_row rfl 24 (.tmp 1) rfl w.heap.size rfl 24 _ (0, 0) _ (set_new w f) Try.underlying24 rfl (set_size _) ?_)
  go_loop [3, 7] (RelCnt f) (fun _ i => 4 - (intOf i).toNat)
  case atStart => exact RelCnt.mk ⟨0, by omega, rfl, rfl⟩
  case round =>
    obtain ⟨k, hk, rfl, rfl⟩ := hrel
    by_cases hlt : k < 4
    · have hK : k = 0 ∨ k = 1 ∨ k = 2 ∨ k = 3 := by omega
      have hix := run_index f k hK
      have hlx := wd_lt f k
      have hnx := cnt_next f k
      have hl := cnt_le f (64 * (k + 1))
      have k0 : (0 : Int) ≤ (k : Int) := by omega
      have k1 : (k : Int) < 4 := by omega
      have hsum : ((cnt f (64 * k) : Nat) : Int) + ((ds 2 64 (wd f k) : Nat) : Int) = ((cnt f (64 * (k + 1)) : Nat) : Int) := by omega
      have hb : cnt f (64 * (k + 1)) ≤ 256 := by omega
      clear hK hnx hl
      go_wp2_with (go_at_call 22; refine (ones_any _ _ hlx).mono ?_; rintro e w' ⟨rfl, rfl⟩)
      go_round
      case rel => exact RelCnt.mk ⟨k + 1, by omega, by go_num, by go_num⟩
      case measure => simp [intOf]; omega
    · obtain rfl : k = 4 := by omega
      go_wp2
      go_ret
      exact ⟨rfl, (Below.refl _ _).alloc (Nat.le_refl _) _⟩
end Go.Proofs.Ytlbfdnejigojhaa
