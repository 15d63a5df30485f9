/- Contracts of package brack: endText, row. -/
import Derived.Test.YtiiaheaadbhomaaBrkB
import Derived.Test.YtiiaheaadbhomaaBrkL
namespace Go.Proofs.Ytiiaheaadbhomaa
open Go.RowKit

theorem every_u8 (p : UInt8 → Bool) (h : ((List.range 256).all fun n => p (UInt8.ofNat n)) = true) (c : UInt8) : p c = true := by
  have := (List.all_eq_true.1 h) c.toNat (List.mem_range.2 c.toNat_lt)
  simpa using this
theorem special_at (c : UInt8) : decide (0 ≤ Lib.indexByte [93, 94, 45, 91, 92] c) = decide (c = 93 ∨ c = 94 ∨ c = 45 ∨ c = 91 ∨ c = 92) := by
  have := every_u8 (fun c => decide (0 ≤ Lib.indexByte [93, 94, 45, 91, 92] c) == decide (c = 93 ∨ c = 94 ∨ c = 45 ∨ c = 91 ∨ c = 92)) (by decide +kernel) c
  simpa using this
theorem conv_one (w : World) (c : UInt8) : (convert 25 9 (.slice (some ⟨w.heap.size, 0, none⟩) 1 1)).run Try.prog (w.alloc (.cells #[.int .u8 (c.toNat : Int)] 5)) = .ok (.string ⟨#[c]⟩) (w.alloc (.cells #[.int .u8 (c.toNat : Int)] 5)) :=
  convB (byt_new w [c] 5 (0, 0)) rfl
theorem contains_at (c : UInt8) (b : Bool) (hb : decide (c = 93 ∨ c = 94 ∨ c = 45 ∨ c = 91 ∨ c = 92) = b) (w : World) :
    Calls Try.prog 42 #[.string ⟨#[93, 94, 45, 91, 92]⟩, .string ⟨#[c]⟩] w fun e w' => e = .returned (.bool b) ∧ w = w' := by
  refine (Try.strings_Contains_one ⟨#[93, 94, 45, 91, 92]⟩ c w).mono fun e w' ⟨he, hw⟩ => ⟨?_, hw.symm⟩
  rw [he, ← hb, ← special_at]

theorem ret_text {s : ByteArray} {l : List UInt8} (h : s.data.toList = l) : Ending.returned (.string s) = .returned (.string ⟨l.toArray⟩) := by
  rw [show s = ⟨l.toArray⟩ from bytes_ext (by simpa using h)]
theorem endText_any (c : UInt8) (w : World) :
    Calls Try.prog 32 #[.int .u8 (c.toNat : Int)] w fun e w' => e = .returned (.string ⟨(endT c).toArray⟩) ∧ Below w.heap.size w w' := by
  have hcv := conv_one w c
  have hC := fun b hb => contains_at c b hb
  unfold endT
  by_cases h10 : c = 10
  · have g : (((c.toNat : Nat) : Int) == 10) = true := by rw [h10]; rfl
    rw [if_pos h10]
    clear hC h10
    go_enter Try.func32, Try.ntmps32
    go_wp2
    go_ret
    exact ⟨rfl, (Below.refl _ _).alloc (Nat.le_refl _) _⟩
  · have g : (((c.toNat : Nat) : Int) == 10) = false := by
      simp only [beq_eq_false_iff_ne, ne_eq]
      intro e
      exact h10 (UInt8.toNat_inj.1 (by have : c.toNat = 10 := by omega
                                       rw [this]; rfl))
    rw [if_neg h10]
    by_cases hs : c = 93 ∨ c = 94 ∨ c = 45 ∨ c = 91 ∨ c = 92
    · rw [if_pos hs]
      have hK := Lib.hid (hC true (decide_eq_true hs))
      clear hC hs h10
      go_enter Try.func32, Try.ntmps32
      go_wp2_with (go_at_call 42; refine (hK.out _).mono ?_; rintro e w' ⟨rfl, rfl⟩)
      go_ret
      exact ⟨ret_text (by simp), (Below.refl _ _).alloc (Nat.le_refl _) _⟩
    · rw [if_neg hs]
      have hK := Lib.hid (hC false (decide_eq_false hs))
      clear hC hs h10
      go_enter Try.func32, Try.ntmps32
      go_wp2_with (go_at_call 42; refine (hK.out _).mono ?_; rintro e w' ⟨rfl, rfl⟩)
      go_ret
      exact ⟨rfl, (Below.refl _ _).alloc (Nat.le_refl _) _⟩

theorem row7_any (a b : UInt8) (w : World) :
    Calls Try.prog 25 #[.int .u8 (a.toNat : Int), .int .u8 (b.toNat : Int)] w fun e w' => e = .returned (.string ⟨(rowT a b).toArray⟩) ∧ Below w.heap.size w w' := by
  have hA := Lib.hid (endText_any a)
  have hB := Lib.hid (endText_any b)
  unfold rowT
  by_cases h : a = b
  · subst h
    rw [if_pos rfl]
    go_enter Try.func25, Try.ntmps25
    go_wp2_with (go_at_call 32; refine (hA.out _).mono ?_; rintro e w1 ⟨rfl, hb1⟩)
    go_ret
    exact ⟨rfl, hb1⟩
  · have g : (((a.toNat : Nat) : Int) == ((b.toNat : Nat) : Int)) = false := by
      simp only [beq_eq_false_iff_ne, ne_eq]
      intro e
      exact h (UInt8.toNat_inj.1 (by omega))
    rw [if_neg h]
    clear h
    have hl := endT_len a
    have hl2 := endT_len b
    generalize endT a = ta at *
    generalize endT b = tb at *
    go_enter Try.func25, Try.ntmps25
    go_wp2_with (first
      | (go_at_call 32; with_reducible refine (hA.out _).mono ?_; rintro e w1 ⟨rfl, hb1⟩)
      | (go_at_call 32; with_reducible refine (hB.out _).mono ?_; rintro e w2 ⟨rfl, hb2⟩))
    go_ret
    exact ⟨ret_text (by simp), hb1.trans (hb2.mono hb1.size)⟩
end Go.Proofs.Ytiiaheaadbhomaa
