/- Plain facts for the laws of stage 7. -/
import Derived.Test.YtiiaheaadbhomaaBrkP
namespace Go.Proofs.Ytiiaheaadbhomaa
open Go.RowKit

theorem xor_not (f : Nat → Bool) (k : Nat) : bits .xor .u64 ((wd f k : Nat) : Int) ((wd (negF f) k : Nat) : Int) = 18446744073709551615 := by
  have h1 := wd_lt f k
  have h2 : wd (negF f) k = 18446744073709551615 - wd f k := (wd_not f k).symm
  rw [bits_xor_u64_nat _ _ h1 (wd_lt _ _), h2]
  have : wd f k ^^^ (18446744073709551615 - wd f k) = 18446744073709551615 := by
    apply Nat.eq_of_testBit_eq
    intro j
    rw [Nat.testBit_xor, show 18446744073709551615 - wd f k = 2 ^ 64 - (wd f k + 1) by omega, Nat.testBit_two_pow_sub_succ (by omega), show 18446744073709551615 = 2 ^ 64 - 1 by rfl, Nat.testBit_two_pow_sub_one]
    by_cases hj : j < 64
    · simp [hj]
    · have : (wd f k).testBit j = false := Nat.testBit_lt_two_pow (Nat.lt_of_lt_of_le (show wd f k < 2 ^ 64 from h1) (Nat.pow_le_pow_right (by decide) (Nat.not_lt.1 hj)))
      simp [hj, this]
  rw [this]; rfl
/-- With a ^ ahead. -/
theorem readB_caret (l : List UInt8) (h : bg [94] l = false) : readB (94 :: l) 0 = match readB l 0 with | .error e => .error e | .ok (f, j) => .ok (negF f, j + 1) := by
  rw [readB_not (by rfl), readB_plain (by simpa using h)]
  show (match items true l (0 + 1) noneF with | .error e => Except.error e | .ok (f, j) => Except.ok (negF f, j)) = match items true l 0 noneF with | .error e => Except.error e | .ok (f, j) => Except.ok (negF f, j + 1)
  rw [items_move true l 0 1 noneF]
  cases items true l 0 noneF <;> rfl
theorem readB_err {b : List UInt8} {k e : Nat} (h : readB b k = .error e) : ((e : Int) != 0) = true := by
  unfold readB at h
  have key : ∀ {l i acc e}, items true l i acc = .error e → ((e : Int) != 0) = true := fun hr => by
    have := items_wrong _ _ _ _ _ hr
    simp; omega
  split at h
  · split at h
    · rename_i e' he
      simp only [Except.error.injEq] at h
      subst h
      exact key he
    · cases h
  · exact key h
theorem readB_size {l : List UInt8} {f : Nat → Bool} {j : Nat} (h : readB l 0 = .ok (f, j)) : 1 ≤ j ∧ j ≤ l.length := by
  cases hx : bg [94] l with
  | true =>
    rw [readB_not (by simpa using hx)] at h
    cases hi : items true (l.drop (0 + 1)) (0 + 1) noneF with
    | error e => rw [hi] at h; cases h
    | ok p =>
      obtain ⟨f', j'⟩ := p
      rw [hi] at h
      simp only [Except.ok.injEq, Prod.mk.injEq] at h
      obtain ⟨-, rfl⟩ := h
      have := items_size _ _ _ _ _ _ hi
      have hl := bg_len hx
      rw [List.length_singleton] at hl
      rw [List.length_drop] at this
      omega
  | false =>
    rw [readB_plain (by simpa using hx)] at h
    have := items_size _ _ _ _ _ _ h
    rw [List.length_drop] at this
    omega
theorem readB_agree {l l' : List UInt8} {f : Nat → Bool} {j : Nat} (h : readB l 0 = .ok (f, j)) (ha : l.take j = l'.take j) : readB l' 0 = .ok (f, j) := by
  have hj := readB_size h
  have hb : bg [94] l = bg [94] l' := bg_agree ha (by simp; omega)
  cases hx : bg [94] l with
  | true =>
    rw [readB_not (by simpa using hx)] at h
    rw [readB_not (by simpa [← hb] using hx)]
    cases hi : items true (l.drop (0 + 1)) (0 + 1) noneF with
    | error e => rw [hi] at h; cases h
    | ok p =>
      obtain ⟨f', j'⟩ := p
      rw [hi] at h
      simp only [Except.ok.injEq, Prod.mk.injEq] at h
      obtain ⟨rfl, rfl⟩ := h
      rw [items_agree _ _ _ _ _ _ (l'.drop (0 + 1)) hi (drop_agree ha (0 + 1))]
  | false =>
    rw [readB_plain (by simpa using hx)] at h
    rw [readB_plain (by simpa [← hb] using hx)]
    exact items_agree _ _ _ _ _ _ (l'.drop 0) h (by simpa using ha)
theorem readB_front {l : List UInt8} {f : Nat → Bool} {j k : Nat} (h : readB l 0 = .ok (f, j)) (hk : k < j) : ∃ e, readB (l.take k) 0 = .error e := by
  cases h2 : readB (l.take k) 0 with
  | error e => exact ⟨e, rfl⟩
  | ok p =>
    obtain ⟨f', j'⟩ := p
    have hs := readB_size h2
    have hl := List.length_take_le k l
    have h3 := readB_agree h2 (l' := l) (by rw [List.take_take, Nat.min_eq_left (by omega)])
    rw [h] at h3
    simp only [Except.ok.injEq, Prod.mk.injEq] at h3
    omega
theorem readB_more {l : List UInt8} {f : Nat → Bool} {j : Nat} (h : readB l 0 = .ok (f, j)) (t : List UInt8) : readB (l.take j ++ t) 0 = .ok (f, j) := by
  have := readB_size h
  exact readB_agree h (by rw [List.take_append_of_le_length (by rw [List.length_take]; omega), List.take_take, Nat.min_self])
theorem Byt.take {w : World} {B : Nat} {A : Option Addr} {l : List UInt8} (h : Byt w B A l) (q : Nat) : Byt w B A (l.take q) := by
  intro k hk
  have hk' : k < l.length := by rw [List.length_take] at hk; omega
  obtain ⟨ad, hA, hb, hc⟩ := h.at_ hk'
  exact ⟨ad, hA, hb, by rw [hc]; simp⟩
theorem own_none (w : World) : (w.alloc (.cells #[] 5)).ownsRow w.heap.size 5 1 (.slice (some ⟨w.heap.size, 0, none⟩) 0 0) 0 (bv []) :=
  World.ownsRow_lit (e := 5) (size := 1) w #[] 0 (Nat.le_refl _) (by decide) rfl
theorem eql_same (f : Nat → Bool) (w : World) : (binOp .eql 24 (.agg (setC f)) (.agg (setC f))).run Try.prog w = .ok (.bool true) w := by
  have := run_equalIn_set w f f
  unfold setV at this
  rw [sameS_of (fun _ _ => rfl)] at this
  exact (run_eql_struct w _ _ _).trans (by rw [this]; rfl)
theorem eql_guard (f g : Nat → Bool) (x y : Operand) (w : World) : (eqGuard .eql 24 x y (.agg (setC f)) (.agg (setC g))).run Try.prog w = .ok () w := run_eqGuard_agg w .eql _ x y _ _ guard_set
end Go.Proofs.Ytiiaheaadbhomaa
