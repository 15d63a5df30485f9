/- Sets of bytes as functions Nat → Bool, and the four numbers that hold them. Nothing here speaks of a program. -/
import Derived.Test.YtbgalmnhhjiagaaM02
import Derived.Laws.BitsAllLaws
set_option maxRecDepth 100000
namespace Go.Proofs.Ytbgalmnhhjiagaa
open Go.RowKit

/-- The number of the first n bits of f. -/
def num (f : Nat → Bool) : Nat → Nat
  | 0 => 0
  | n + 1 => num f n + (if f n then 2 ^ n else 0)
theorem num_lt (f : Nat → Bool) (n : Nat) : num f n < 2 ^ n := by
  induction n with
  | zero => simp [num]
  | succ n ih => simp only [num]; have := Nat.pow_succ 2 n; split <;> omega
theorem num_bit (f : Nat → Bool) (n i : Nat) : (num f n).testBit i = (decide (i < n) && f i) := by
  induction n with
  | zero => simp [num]
  | succ n ih =>
    simp only [num]
    have hl := num_lt f n
    by_cases hf : f n
    · simp only [hf, if_true]
      rw [Nat.add_comm]
      by_cases h1 : i < n
      · rw [Nat.testBit_two_pow_add_gt h1, ih]; simp [h1, Nat.lt_succ_of_lt h1]
      · by_cases h2 : i = n
        · subst h2; rw [Nat.testBit_two_pow_add_eq, ih]; simp [hf]
        · have h3 : n < i := by omega
          have h4 : ¬ i < n + 1 := by omega
          rw [Nat.testBit_lt_two_pow (Nat.lt_of_lt_of_le (show 2 ^ n + num f n < 2 ^ (n + 1) by rw [Nat.pow_succ]; omega) (Nat.pow_le_pow_right (by decide) h3))]
          simp [h4]
    · simp only [hf]
      rw [show num f n + (if false = true then 2 ^ n else 0) = num f n by simp, ih]
      by_cases h2 : i = n
      · subst h2; simp [hf]
      · have : (i < n) = (i < n + 1) := by apply propext; omega
        simp [this]
theorem num_cons (f : Nat → Bool) (n : Nat) : num f (n + 1) = 2 * num (fun i => f (i + 1)) n + (if f 0 then 1 else 0) := by
  induction n with
  | zero => simp [num]
  | succ n ih =>
    rw [num, ih]
    simp only [num, Nat.pow_succ]
    split <;> split <;> omega
theorem num_congr {f g : Nat → Bool} {n : Nat} (h : ∀ i, i < n → f i = g i) : num f n = num g n := by
  induction n with
  | zero => rfl
  | succ n ih => simp only [num]; rw [ih (fun i hi => h i (by omega)), h n (by omega)]
theorem num_inj {f g : Nat → Bool} {n : Nat} (h : num f n = num g n) (i : Nat) (hi : i < n) : f i = g i := by
  have h1 := num_bit f n i
  rw [h, num_bit] at h1
  simpa [hi] using h1.symm
theorem num_of (x n : Nat) (h : x < 2 ^ n) : num (fun i => x.testBit i) n = x := by
  apply Nat.eq_of_testBit_eq
  intro i
  rw [num_bit]
  by_cases hi : i < n
  · simp [hi]
  · simp [hi, Nat.testBit_lt_two_pow (Nat.lt_of_lt_of_le h (Nat.pow_le_pow_right (by decide) (Nat.not_lt.1 hi)))]

/-- The k-th number of a set. -/
def wd (f : Nat → Bool) (k : Nat) : Nat := num (fun i => f (64 * k + i)) 64
theorem wd_lt (f : Nat → Bool) (k : Nat) : wd f k < 18446744073709551616 := num_lt _ 64
theorem wd_bit (f : Nat → Bool) (k i : Nat) (hi : i < 64) : (wd f k).testBit i = f (64 * k + i) := by
  unfold wd; rw [num_bit]; simp [hi]
theorem wd_congr {f g : Nat → Bool} {k : Nat} (h : ∀ i, i < 64 → f (64 * k + i) = g (64 * k + i)) : wd f k = wd g k := num_congr h
theorem wd_inj {f g : Nat → Bool} {k : Nat} (h : wd f k = wd g k) (i : Nat) (hi : i < 64) : f (64 * k + i) = g (64 * k + i) := num_inj h i hi
theorem wd_none (k : Nat) : wd (fun _ => false) k = 0 := by
  apply Nat.eq_of_testBit_eq
  intro i
  unfold wd
  rw [num_bit]; simp

/-- One bit more. -/
theorem wd_or (f : Nat → Bool) (k i : Nat) (hi : i < 64) : wd f k ||| 2 ^ i = wd (fun c => f c || decide (c = 64 * k + i)) k := by
  apply Nat.eq_of_testBit_eq
  intro j
  rw [Nat.testBit_or, Nat.testBit_two_pow]
  unfold wd
  rw [num_bit, num_bit]
  by_cases hj : j < 64
  · have : (i = j) = (64 * k + j = 64 * k + i) := by apply propext; omega
    simp [hj, this]
  · have : ¬ i = j := by omega
    simp [hj, this]
theorem wd_or2 (f g : Nat → Bool) (k : Nat) : wd f k ||| wd g k = wd (fun c => f c || g c) k := by
  apply Nat.eq_of_testBit_eq
  intro j
  rw [Nat.testBit_or]
  unfold wd
  rw [num_bit, num_bit, num_bit]
  by_cases hj : j < 64 <;> simp [hj]
theorem wd_not (f : Nat → Bool) (k : Nat) : 18446744073709551615 - wd f k = wd (fun c => !f c) k := by
  have h := wd_lt f k
  apply Nat.eq_of_testBit_eq
  intro j
  rw [show 18446744073709551615 - wd f k = 2 ^ 64 - (wd f k + 1) by omega, Nat.testBit_two_pow_sub_succ (by omega)]
  unfold wd
  rw [num_bit, num_bit]
  by_cases hj : j < 64 <;> simp [hj]
theorem wd_and (f : Nat → Bool) (k i : Nat) (hi : i < 64) : wd f k &&& 2 ^ i = if f (64 * k + i) then 2 ^ i else 0 := by
  apply Nat.eq_of_testBit_eq
  intro j
  rw [Nat.testBit_and, Nat.testBit_two_pow]
  by_cases hj : i = j
  · subst hj
    rw [wd_bit f k i hi]
    cases f (64 * k + i) <;> simp
  · cases f (64 * k + i) <;> simp [hj]

/-- A byte's bit. -/
def bitN (c : Nat) : Nat := 2 ^ (c % 64)
theorem bitN_lt (c : Nat) : bitN c < 18446744073709551616 := Nat.pow_lt_pow_right (by decide) (show c % 64 < 64 by omega)
theorem bitN_of {c k i : Nat} (h : c = 64 * k + i) (hi : i < 64) : bitN c = 2 ^ i := by unfold bitN; rw [show c % 64 = i by omega]
/-- The test of one bit. -/
theorem and_ne (f : Nat → Bool) (c k i : Nat) (h : c = 64 * k + i) (hi : i < 64) : (bits .and .u64 ((wd f k : Nat) : Int) ((bitN c : Nat) : Int) != 0) = f c := by
  have hb := bitN_lt c
  have hp : 0 < 2 ^ i := Nat.pow_pos (by decide)
  rw [bitN_of h hi] at hb ⊢
  rw [u64_and_nat _ _ (wd_lt f k) hb, wd_and f k i hi, ← h]
  cases f c
  · rfl
  · simp only [if_true]
    rw [bne_iff_ne]
    generalize 2 ^ i = z at hp
    omega
theorem or_bit (f : Nat → Bool) (c k i : Nat) (h : c = 64 * k + i) (hi : i < 64) : bits .or .u64 ((wd f k : Nat) : Int) ((bitN c : Nat) : Int) = ((wd (fun x => f x || decide (x = c)) k : Nat) : Int) := by
  have hb := bitN_lt c
  rw [u64_or_nat _ _ (wd_lt f k) hb, bitN_of h hi, wd_or f k i hi, ← h]
/-- A byte's number and its place there. -/
theorem byte_parts (c : Nat) (hc : c < 256) : ∃ k i : Nat, c = 64 * k + i ∧ i < 64 ∧ (k = 0 ∨ k = 1 ∨ k = 2 ∨ k = 3) := ⟨c / 64, c % 64, by omega, by omega, by omega⟩
theorem tdiv_of {c k i : Nat} (h : c = 64 * k + i) (hi : i < 64) : (c : Int).tdiv 64 = (k : Int) := by
  rw [Int.tdiv_eq_ediv_of_nonneg (by omega)]; omega
theorem ediv_of {c k i : Nat} (h : c = 64 * k + i) (hi : i < 64) : (c : Int) / 64 = (k : Int) := by omega
/-- A byte more changes no other number. -/
theorem wd_more (f : Nat → Bool) (c k k' i : Nat) (h : c = 64 * k + i) (hi : i < 64) (hk : k' ≠ k) : wd (fun x => f x || decide (x = c)) k' = wd f k' :=
  wd_congr fun j hj => by
    have : ¬ 64 * k' + j = c := by omega
    simp [this]

/-- A set's value. -/
def setC (f : Nat → Bool) : Array Value := #[.int .u64 (wd f 0 : Nat), .int .u64 (wd f 1 : Nat), .int .u64 (wd f 2 : Nat), .int .u64 (wd f 3 : Nat)]
def setV (f : Nat → Bool) : Value := .agg (setC f)
/-- Two sets with the same bytes. -/
def alike (f g : Nat → Bool) : Prop := ∀ c, c < 256 → f c = g c
theorem alike.wd {f g : Nat → Bool} (h : alike f g) (k : Nat) (hk : k < 4) : wd f k = wd g k := wd_congr fun i hi => h _ (by omega)
theorem alike.setV {f g : Nat → Bool} (h : alike f g) : setV f = setV g := by
  unfold Go.Proofs.Ytbgalmnhhjiagaa.setV setC; rw [h.wd 0 (by decide), h.wd 1 (by decide), h.wd 2 (by decide), h.wd 3 (by decide)]
theorem alike_of {f g : Nat → Bool} (h0 : Go.Proofs.Ytbgalmnhhjiagaa.wd f 0 = Go.Proofs.Ytbgalmnhhjiagaa.wd g 0) (h1 : Go.Proofs.Ytbgalmnhhjiagaa.wd f 1 = Go.Proofs.Ytbgalmnhhjiagaa.wd g 1) (h2 : Go.Proofs.Ytbgalmnhhjiagaa.wd f 2 = Go.Proofs.Ytbgalmnhhjiagaa.wd g 2) (h3 : Go.Proofs.Ytbgalmnhhjiagaa.wd f 3 = Go.Proofs.Ytbgalmnhhjiagaa.wd g 3) : alike f g := fun c hc => by
  have e : 64 * (c / 64) + c % 64 = c := by omega
  have hi : c % 64 < 64 := by omega
  have hk : c / 64 = 0 ∨ c / 64 = 1 ∨ c / 64 = 2 ∨ c / 64 = 3 := by omega
  rw [← e]
  rcases hk with h | h | h | h <;> rw [h]
  · exact wd_inj h0 _ hi
  · exact wd_inj h1 _ hi
  · exact wd_inj h2 _ hi
  · exact wd_inj h3 _ hi
/-- Every four numbers are a set. -/
theorem set_of (a b c d : Nat) (ha : a < 18446744073709551616) (hb : b < 18446744073709551616) (hc : c < 18446744073709551616) (hd : d < 18446744073709551616) :
    ∃ f, wd f 0 = a ∧ wd f 1 = b ∧ wd f 2 = c ∧ wd f 3 = d := by
  refine ⟨fun x => if x < 64 then a.testBit x else if x < 128 then b.testBit (x - 64) else if x < 192 then c.testBit (x - 128) else d.testBit (x - 192), ?_, ?_, ?_, ?_⟩
  · rw [← num_of a 64 ha]
    exact num_congr fun i hi => by simp [hi, num_of a 64 ha]
  · rw [← num_of b 64 hb]
    exact num_congr fun i hi => by
      have h1 : ¬ 64 * 1 + i < 64 := by omega
      have h2 : 64 * 1 + i < 128 := by omega
      simp only [h1, h2, if_true, if_false, num_of b 64 hb]
      rw [show 64 * 1 + i - 64 = i by omega]
  · rw [← num_of c 64 hc]
    exact num_congr fun i hi => by
      have h1 : ¬ 64 * 2 + i < 64 := by omega
      have h2 : ¬ 64 * 2 + i < 128 := by omega
      have h3 : 64 * 2 + i < 192 := by omega
      simp only [h1, h2, h3, if_true, if_false, num_of c 64 hc]
      rw [show 64 * 2 + i - 128 = i by omega]
  · rw [← num_of d 64 hd]
    exact num_congr fun i hi => by
      have h1 : ¬ 64 * 3 + i < 64 := by omega
      have h2 : ¬ 64 * 3 + i < 128 := by omega
      have h3 : ¬ 64 * 3 + i < 192 := by omega
      simp only [h1, h2, h3, if_false, num_of d 64 hd]
      rw [show 64 * 3 + i - 192 = i by omega]

/-- How many of the first n are in. -/
def cnt (f : Nat → Bool) : Nat → Nat
  | 0 => 0
  | n + 1 => cnt f n + (if f n then 1 else 0)
theorem cnt_le (f : Nat → Bool) (n : Nat) : cnt f n ≤ n := by
  induction n with
  | zero => simp [cnt]
  | succ n ih => simp only [cnt]; split <;> omega
theorem cnt_add (f : Nat → Bool) (n m : Nat) : cnt f (n + m) = cnt f n + cnt (fun i => f (n + i)) m := by
  induction m with
  | zero => simp [cnt]
  | succ m ih => rw [Nat.add_succ]; simp only [cnt]; rw [ih]; omega
theorem cnt_not (f : Nat → Bool) (n : Nat) : cnt (fun i => !f i) n = n - cnt f n := by
  induction n with
  | zero => simp [cnt]
  | succ n ih =>
    simp only [cnt, ih]
    have := cnt_le f n
    by_cases h : f n = true <;> simp [h] <;> omega
theorem cnt_congr {f g : Nat → Bool} {n : Nat} (h : ∀ i, i < n → f i = g i) : cnt f n = cnt g n := by
  induction n with
  | zero => rfl
  | succ n ih => simp only [cnt]; rw [ih (fun i hi => h i (by omega)), h n (by omega)]
/-- The bytes of a set below n. -/
def elems (f : Nat → Bool) : Nat → List UInt8
  | 0 => []
  | n + 1 => elems f n ++ (if f n then [UInt8.ofNat n] else [])
theorem elems_len (f : Nat → Bool) (n : Nat) : (elems f n).length = cnt f n := by
  induction n with
  | zero => rfl
  | succ n ih => simp only [elems, cnt, List.length_append, ih]; split <;> simp
theorem elems_any (f : Nat → Bool) (n c : Nat) (hn : n ≤ 256) (hc : c < n) : (elems f n).any (fun x => decide (x.toNat = c)) = f c := by
  induction n with
  | zero => omega
  | succ n ih =>
    have hz : ∀ m, m ≤ n → (elems f m).any (fun x => decide (x.toNat = n)) = false := by
      intro m hm
      induction m with
      | zero => rfl
      | succ m ihm =>
        simp only [elems, List.any_append, ihm (by omega), Bool.false_or]
        split
        · simp; omega
        · rfl
    simp only [elems, List.any_append]
    by_cases h : c = n
    · subst h
      rw [hz c (Nat.le_refl _)]
      split
      · simp [*]; omega
      · simp [*]
    · rw [ih (by omega) (by omega)]
      split
      · simp; intro h1; omega
      · simp
/-- They rise. -/
theorem elems_bound (f : Nat → Bool) (n : Nat) (hn : n ≤ 256) : ∀ x ∈ elems f n, x.toNat < n := by
  induction n with
  | zero => intro x hx; cases hx
  | succ n ih =>
    intro x hx
    simp only [elems, List.mem_append] at hx
    rcases hx with hx | hx
    · have := ih (by omega) x hx; omega
    · split at hx
      · simp at hx; subst hx; simp; omega
      · cases hx
theorem elems_rise (f : Nat → Bool) (n : Nat) (hn : n ≤ 256) : (elems f n).Pairwise (fun a b => a.toNat < b.toNat) := by
  induction n with
  | zero => exact List.Pairwise.nil
  | succ n ih =>
    simp only [elems]
    rw [List.pairwise_append]
    refine ⟨ih (by omega), ?_, ?_⟩
    · split <;> simp
    · intro a ha b hb
      have h1 := elems_bound f n (by omega) a ha
      split at hb
      · simp at hb; subst hb; simp; omega
      · cases hb
theorem elems_congr {f g : Nat → Bool} {n : Nat} (h : ∀ i, i < n → f i = g i) : elems f n = elems g n := by
  induction n with
  | zero => rfl
  | succ n ih => simp only [elems]; rw [ih (fun i hi => h i (by omega)), h n (by omega)]
theorem elems_inj {f g : Nat → Bool} (h : elems f 256 = elems g 256) : alike f g := fun c hc => by
  rw [← elems_any f 256 c (by decide) hc, h, elems_any g 256 c (by decide) hc]
end Go.Proofs.Ytbgalmnhhjiagaa
