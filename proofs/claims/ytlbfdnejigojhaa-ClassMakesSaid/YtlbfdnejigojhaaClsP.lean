/- How many bits a number has: the sum of its digits, and math/bits' way to it. Nothing here speaks of a program. -/
import Derived.Test.YtlbfdnejigojhaaClsA
namespace Go.Proofs.Ytlbfdnejigojhaa
open Go.RowKit

/-- The sum of the first n digits of x to the base B. -/
def ds (B : Nat) : Nat → Nat → Nat
  | 0, _ => 0
  | n + 1, x => x % B + ds B n (x / B)
/-- Each of the first n digits is at most c. -/
def small (B c : Nat) : Nat → Nat → Prop
  | 0, _ => True
  | n + 1, x => x % B ≤ c ∧ small B c n (x / B)
/-- Neighbours added. -/
def up (B : Nat) : Nat → Nat → Nat
  | 0, _ => 0
  | n + 1, x => (x / B % B + x % B) + B * B * up B n (x / (B * B))
/-- A mask of n fields as wide as two digits, the lower one full. -/
def mask (B : Nat) : Nat → Nat
  | 0 => 0
  | n + 1 => (B - 1) + B * B * mask B n

theorem mod_mul (x B : Nat) : x % (B * B) = x % B + B * (x / B % B) := Nat.mod_mul
theorem ds_two (B n x : Nat) : ds B (2 * n) x = match n with | 0 => 0 | m + 1 => (x / B % B + x % B) + ds B (2 * m) (x / (B * B)) := by
  cases n with
  | zero => rfl
  | succ m =>
    show ds B (2 * m + 2) x = _
    simp only [ds, Nat.div_div_eq_div_mul]
    omega
theorem up_mod (B n x : Nat) (hB : 2 ≤ B) : up B (n + 1) x % (B * B) = x / B % B + x % B ∧ up B (n + 1) x / (B * B) = up B n (x / (B * B)) := by
  have h1 : x / B % B < B := Nat.mod_lt _ (by omega)
  have h2 : x % B < B := Nat.mod_lt _ (by omega)
  have h3 : x / B % B + x % B < B * B := by
    have : 2 * B ≤ B * B := Nat.mul_le_mul_right _ hB
    omega
  simp only [up]
  constructor
  · rw [Nat.add_mul_mod_self_left, Nat.mod_eq_of_lt h3]
  · rw [Nat.add_mul_div_left _ _ (by omega), Nat.div_eq_of_lt h3, Nat.zero_add]
theorem ds_up (B : Nat) (hB : 2 ≤ B) (n x : Nat) : ds (B * B) n (up B n x) = ds B (2 * n) x := by
  induction n generalizing x with
  | zero => rfl
  | succ n ih =>
    rw [ds_two]
    obtain ⟨h1, h2⟩ := up_mod B n x hB
    show up B (n + 1) x % (B * B) + ds (B * B) n (up B (n + 1) x / (B * B)) = _
    rw [h1, h2, ih]
theorem small_up (B c : Nat) (hB : 2 ≤ B) (n x : Nat) (h : small B c (2 * n) x) : small (B * B) (2 * c) n (up B n x) := by
  induction n generalizing x with
  | zero => trivial
  | succ n ih =>
    obtain ⟨h1, h2⟩ := up_mod B n x hB
    have h' : small B c (2 * n + 2) x := h
    simp only [small, Nat.div_div_eq_div_mul] at h'
    show up B (n + 1) x % (B * B) ≤ 2 * c ∧ small (B * B) (2 * c) n (up B (n + 1) x / (B * B))
    rw [h1, h2]
    exact ⟨by omega, ih _ h'.2.2⟩
/-- A mask takes each field's lower digit. -/
theorem and_parts (b a m c d : Nat) (ha : a < 2 ^ b) (hm : m < 2 ^ b) : (a + 2 ^ b * c) &&& (m + 2 ^ b * d) = (a &&& m) + 2 ^ b * (c &&& d) := by
  have hp : 0 < 2 ^ b := Nat.pow_pos (by decide)
  rw [← Nat.mod_add_div ((a + 2 ^ b * c) &&& (m + 2 ^ b * d)) (2 ^ b)]
  rw [Nat.and_mod_two_pow, Nat.and_div_two_pow]
  rw [Nat.add_mul_mod_self_left, Nat.add_mul_mod_self_left, Nat.mod_eq_of_lt ha, Nat.mod_eq_of_lt hm]
  rw [Nat.add_mul_div_left _ _ hp, Nat.add_mul_div_left _ _ hp, Nat.div_eq_of_lt ha, Nat.div_eq_of_lt hm, Nat.zero_add, Nat.zero_add]
theorem and_low (b x : Nat) : x &&& (2 ^ b - 1) = x % 2 ^ b := Nat.and_two_pow_sub_one_eq_mod x b
theorem masked (b n x : Nat) : x &&& mask (2 ^ b) n = match n with | 0 => 0 | m + 1 => x % 2 ^ b + 2 ^ b * 2 ^ b * (x / (2 ^ b * 2 ^ b) &&& mask (2 ^ b) m) := by
  cases n with
  | zero => simp [mask]
  | succ m =>
    simp only [mask]
    have hp : 0 < 2 ^ b := Nat.pow_pos (by decide)
    have hpp : 2 ^ b * 2 ^ b = 2 ^ (b + b) := (Nat.pow_add 2 b b).symm
    have hle : 2 ^ b ≤ 2 ^ (b + b) := Nat.pow_le_pow_right (by decide) (by omega)
    have e : x = x % 2 ^ (b + b) + 2 ^ (b + b) * (x / 2 ^ (b + b)) := (Nat.mod_add_div x _).symm
    rw [hpp]
    conv => lhs; rw [e]
    rw [and_parts (b + b) _ _ _ _ (Nat.mod_lt _ (by omega)) (by omega), and_low]
    congr 1
    rw [← hpp]
    exact Nat.mod_mul_right_mod x _ _
theorem add_masked (b n x : Nat) : (x / 2 ^ b &&& mask (2 ^ b) n) + (x &&& mask (2 ^ b) n) = up (2 ^ b) n x := by
  induction n generalizing x with
  | zero => simp [mask, up]
  | succ n ih =>
    rw [masked, masked]
    simp only [up]
    rw [← ih (x / (2 ^ b * 2 ^ b))]
    have : x / 2 ^ b / (2 ^ b * 2 ^ b) = x / (2 ^ b * 2 ^ b) / 2 ^ b := by
      rw [Nat.div_div_eq_div_mul, Nat.div_div_eq_div_mul, Nat.mul_comm]
    rw [this, Nat.mul_add]
    omega
/-- Where no field overflows, one mask behind the sum does. -/
theorem sum_masked (b c n x : Nat) (hc : 2 * c < 2 ^ b) (h : small (2 ^ b) c (2 * n) x) : (x / 2 ^ b + x) &&& mask (2 ^ b) n = up (2 ^ b) n x := by
  induction n generalizing x with
  | zero => simp [mask, up]
  | succ n ih =>
    have h' : small (2 ^ b) c (2 * n + 2) x := h
    simp only [small, Nat.div_div_eq_div_mul] at h'
    obtain ⟨h1, h2, h3⟩ := h'
    have hp : 0 < 2 ^ b := Nat.pow_pos (by decide)
    rw [masked]
    simp only [up]
    rw [← ih _ h3]
    have hm : (x / 2 ^ b + x) % 2 ^ b = x / 2 ^ b % 2 ^ b + x % 2 ^ b := by
      rw [Nat.add_mod]; exact Nat.mod_eq_of_lt (by omega)
    rw [hm]
    cases n with
    | zero => simp [mask]
    | succ m =>
      have h4 : small (2 ^ b) c (2 * m + 2) (x / (2 ^ b * 2 ^ b)) := h3
      simp only [small] at h4
      have h5 := h4.1
      clear h4 h3 h ih hm
      generalize 2 ^ b = B at *
      have e1 : x = x % B + B * (x / B) := (Nat.mod_add_div x B).symm
      have e2 : x / B = x / B % B + B * (x / (B * B)) := by rw [← Nat.div_div_eq_div_mul]; exact (Nat.mod_add_div _ B).symm
      have e3 : x / (B * B) = x / (B * B) % B + B * (x / (B * B) / B) := (Nat.mod_add_div _ B).symm
      generalize x / (B * B) = y at *
      generalize x % B = lo at *
      generalize x / B = z at *
      generalize z % B = hi at *
      generalize y % B = yl at *
      generalize y / B = yh at *
      have e4 : z + x = (lo + hi + B * (hi + yl)) + B * B * (yh + y) := by
        have a1 : B * z = B * hi + B * B * y := by rw [e2, Nat.mul_add, Nat.mul_assoc]
        have a2 : B * y = B * yl + B * B * yh := by
          conv => lhs; rw [e3]
          rw [Nat.mul_add, Nat.mul_assoc]
        rw [Nat.mul_add B hi yl, Nat.mul_add (B * B) yh y]
        omega
      have e5 : lo + hi + B * (hi + yl) < B * B := by
        have : B * (hi + yl) ≤ B * (B - 1) := Nat.mul_le_mul_left _ (by omega)
        rw [Nat.mul_sub, Nat.mul_one] at this
        have : B ≤ B * B := Nat.le_mul_of_pos_left B hp
        omega
      rw [e4, Nat.add_mul_div_left _ _ (by omega), Nat.div_eq_of_lt e5, Nat.zero_add]
/-- The first n binary digits. -/
theorem ds_cnt (f : Nat → Bool) (n : Nat) : ds 2 n (num f n) = cnt f n := by
  induction n generalizing f with
  | zero => rfl
  | succ n ih =>
    have e : cnt f (n + 1) = cnt f 1 + cnt (fun i => f (1 + i)) n := by rw [Nat.add_comm]; exact cnt_add f 1 n
    rw [e, num_cons]
    show _ % 2 + ds 2 n (_ / 2) = _
    have h1 : (2 * num (fun i => f (i + 1)) n + if f 0 = true then 1 else 0) / 2 = num (fun i => f (i + 1)) n := by split <;> omega
    have h2 : (2 * num (fun i => f (i + 1)) n + if f 0 = true then 1 else 0) % 2 = if f 0 = true then 1 else 0 := by split <;> omega
    rw [h1, h2, ih]
    simp only [cnt]
    rw [Nat.zero_add]
    congr 1
    exact cnt_congr fun i _ => by rw [Nat.add_comm]
theorem small_bits (n x : Nat) : small 2 1 n x := by
  induction n generalizing x with
  | zero => trivial
  | succ n ih => exact ⟨by omega, ih _⟩
theorem div_form {x r m y : Nat} (h : x = r + m * y) (hr : r < m) : x / m = y := by
  rw [h, Nat.add_mul_div_left _ _ (by omega), Nat.div_eq_of_lt hr, Nat.zero_add]
theorem eight (x : Nat) (h : small 256 8 8 x) (hx : x < 18446744073709551616) :
    ∃ d0 d1 d2 d3 d4 d5 d6 d7 : Nat, d0 ≤ 8 ∧ d1 ≤ 8 ∧ d2 ≤ 8 ∧ d3 ≤ 8 ∧ d4 ≤ 8 ∧ d5 ≤ 8 ∧ d6 ≤ 8 ∧ d7 ≤ 8 ∧ ds 256 8 x = d0 + d1 + d2 + d3 + d4 + d5 + d6 + d7 ∧
      x = d0 + 256 * d1 + 65536 * d2 + 16777216 * d3 + 4294967296 * d4 + 1099511627776 * d5 + 281474976710656 * d6 + 72057594037927936 * d7 := by
  obtain ⟨q1, hq1⟩ : ∃ q, q = x / 256 := ⟨_, rfl⟩
  obtain ⟨q2, hq2⟩ : ∃ q, q = q1 / 256 := ⟨_, rfl⟩
  obtain ⟨q3, hq3⟩ : ∃ q, q = q2 / 256 := ⟨_, rfl⟩
  obtain ⟨q4, hq4⟩ : ∃ q, q = q3 / 256 := ⟨_, rfl⟩
  obtain ⟨q5, hq5⟩ : ∃ q, q = q4 / 256 := ⟨_, rfl⟩
  obtain ⟨q6, hq6⟩ : ∃ q, q = q5 / 256 := ⟨_, rfl⟩
  obtain ⟨q7, hq7⟩ : ∃ q, q = q6 / 256 := ⟨_, rfl⟩
  simp only [small] at h
  simp only [ds]
  simp only [← hq1, ← hq2, ← hq3, ← hq4, ← hq5, ← hq6, ← hq7] at h ⊢
  obtain ⟨h0, h1, h2, h3, h4, h5, h6, h7, -⟩ := h
  have a0 := Nat.mod_add_div x 256
  have a1 := Nat.mod_add_div q1 256
  have a2 := Nat.mod_add_div q2 256
  have a3 := Nat.mod_add_div q3 256
  have a4 := Nat.mod_add_div q4 256
  have a5 := Nat.mod_add_div q5 256
  have a6 := Nat.mod_add_div q6 256
  simp only [← hq1, ← hq2, ← hq3, ← hq4, ← hq5, ← hq6, ← hq7] at a0 a1 a2 a3 a4 a5 a6
  have hq : q7 < 256 := by
    clear a0 a1 a2 a3 a4 a5 a6 h0 h1 h2 h3 h4 h5 h6 h7
    subst hq1 hq2 hq3 hq4 hq5 hq6 hq7
    omega
  have a7 : q7 % 256 = q7 := Nat.mod_eq_of_lt hq
  clear hq1 hq2 hq3 hq4 hq5 hq6 hq7
  refine ⟨x % 256, q1 % 256, q2 % 256, q3 % 256, q4 % 256, q5 % 256, q6 % 256, q7 % 256, h0, h1, h2, h3, h4, h5, h6, h7, by omega, ?_⟩
  rw [a7]
  generalize x % 256 = d0 at *
  generalize q1 % 256 = d1 at *
  generalize q2 % 256 = d2 at *
  generalize q3 % 256 = d3 at *
  generalize q4 % 256 = d4 at *
  generalize q5 % 256 = d5 at *
  generalize q6 % 256 = d6 at *
  clear h0 h1 h2 h3 h4 h5 h6 h7 a7 hq
  omega
set_option maxHeartbeats 1000000 in
/-- Behind the masks: eight digits to the base 256, each at most 8; the shifts add them up. -/
theorem last_sum (x : Nat) (h : small 256 8 8 x) (hx : x < 18446744073709551616) :
    ∃ x4 x5 x6 : Nat, x4 = x + x / 256 ∧ x5 = x4 + x4 / 65536 ∧ x6 = x5 + x5 / 4294967296 ∧ x6 % 128 = ds 256 8 x ∧ x4 < 9223372036854775808 ∧ x5 < 9223372036854775808 ∧ x6 < 9223372036854775808 := by
  obtain ⟨d0, d1, d2, d3, d4, d5, d6, d7, b0, b1, b2, b3, b4, b5, b6, b7, hs, rfl⟩ := eight x h hx
  rw [hs]
  clear hs h hx
  refine ⟨_, _, _, rfl, rfl, rfl, ?_⟩
  have e1 : (d0 + 256 * d1 + 65536 * d2 + 16777216 * d3 + 4294967296 * d4 + 1099511627776 * d5 + 281474976710656 * d6 + 72057594037927936 * d7) / 256 = d1 + 256 * d2 + 65536 * d3 + 16777216 * d4 + 4294967296 * d5 + 1099511627776 * d6 + 281474976710656 * d7 := div_form (r := d0) (by omega) (by omega)
  rw [e1]
  have e2 : (d0 + 256 * d1 + 65536 * d2 + 16777216 * d3 + 4294967296 * d4 + 1099511627776 * d5 + 281474976710656 * d6 + 72057594037927936 * d7 + (d1 + 256 * d2 + 65536 * d3 + 16777216 * d4 + 4294967296 * d5 + 1099511627776 * d6 + 281474976710656 * d7)) / 65536 =
      (d2 + d3) + 256 * (d3 + d4) + 65536 * (d4 + d5) + 16777216 * (d5 + d6) + 4294967296 * (d6 + d7) + 1099511627776 * d7 := div_form (r := d0 + d1 + 256 * (d1 + d2)) (by omega) (by omega)
  rw [e2]
  have e3 : (d0 + 256 * d1 + 65536 * d2 + 16777216 * d3 + 4294967296 * d4 + 1099511627776 * d5 + 281474976710656 * d6 + 72057594037927936 * d7 + (d1 + 256 * d2 + 65536 * d3 + 16777216 * d4 + 4294967296 * d5 + 1099511627776 * d6 + 281474976710656 * d7) +
      ((d2 + d3) + 256 * (d3 + d4) + 65536 * (d4 + d5) + 16777216 * (d5 + d6) + 4294967296 * (d6 + d7) + 1099511627776 * d7)) / 4294967296 =
      (d4 + d5 + (d6 + d7)) + 256 * (d5 + d6 + d7) + 65536 * (d6 + d7) + 16777216 * d7 := div_form (r := d0 + d1 + d2 + d3 + 256 * (d1 + d2 + d3 + d4) + 65536 * (d2 + d3 + d4 + d5) + 16777216 * (d3 + d4 + d5 + d6)) (by omega) (by omega)
  rw [e3]
  omega
end Go.Proofs.Ytlbfdnejigojhaa
