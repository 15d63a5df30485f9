/- Contracts of package class: bit, Has. -/
import Derived.Test.YtiiaheaadbhomaaProg
import Derived.Test.YtiiaheaadbhomaaClsS
import Derived.Lib.Hide
import Derived.IntWalk
import Derived.Deep.QuietTactic
import Derived.BigQuiet
import Derived.WalkSmall
namespace Go.Proofs.Ytiiaheaadbhomaa
open Go.RowKit

theorem pow_small (c : Nat) : (2 : Int) ^ (c % 64) % 18446744073709551616 = ((bitN c : Nat) : Int) := by
  have hb := bitN_lt c
  have e : (2 : Int) ^ (c % 64) = ((bitN c : Nat) : Int) := by simp [bitN]
  rw [e]
  omega

theorem bit_any (c : Nat) (w : World) (hc : c < 256) :
    Calls Try.prog 22 #[.int .u8 (c : Int)] w fun e w' => e = .returned (.int .u64 ((bitN c : Nat) : Int)) ∧ w = w' := by
  have h1 : (0 : Int) ≤ (c : Int) % 64 := by omega
  have h2 : (c : Int) % 64 ≤ 64 := by omega
  have ht : ((c : Int) % 64).toNat = c % 64 := by omega
  go_enter Try.func22, Try.ntmps22
  go_wp2
  go_ret
  exact ⟨ret_int (pow_small c), rfl⟩

set_option maxRecDepth 100000 in
theorem has_any (f : Nat → Bool) (c : Nat) (w : World) (hc : c < 256) :
    Calls Try.prog 24 #[setV f, .int .u8 (c : Int)] w fun e w' => e = .returned (.bool (f c)) ∧ Below w.heap.size w w' := by
  unfold setV setC
  obtain ⟨k, i, he, hi, hk⟩ := byte_parts c hc
  have hA := Lib.hid (and_ne f c k i he hi)
  have h0 := tdiv_of he hi
  have h1 := ediv_of he hi
  clear he hi
  rcases hk with rfl | rfl | rfl | rfl
  all_goals
    go_enter Try.func24, Try.ntmps24
    go_wp2_with (go_quiet ((go_at_call 22; exact Calls.quiet_of_same ((bit_any c _ hc).mono fun e w' h => ⟨h.1, h.2.symm⟩))))
    go_ret
    exact ⟨ret_bool hA.out, below_drewN ((Below.refl _ _).alloc (Nat.le_refl _) _) _⟩

section
variable {w w' : World} {g : Nat} {f : Nat → Bool}
theorem SetAt.more {c k i : Nat} (h : SetAt w g f) (he : c = 64 * k + i) (hi : i < 64) (hk : k = 0 ∨ k = 1 ∨ k = 2 ∨ k = 3) :
    SetAt (w.setCell ⟨g, k, none⟩ (.int .u64 (bits .or .u64 ((wd f k : Nat) : Int) ((bitN c : Nat) : Int)))) g (fun x => f x || decide (x = c)) := by
  unfold SetAt at h ⊢
  rw [heap_setCell_same w g k _ _ _ h, or_bit f c k i he hi]
  have hw : ∀ k', k' ≠ k → wd (fun x => f x || decide (x = c)) k' = wd f k' := fun k' hk' => wd_more f c k k' i he hi hk'
  unfold setC
  rcases hk with rfl | rfl | rfl | rfl
  · rw [hw 1 (by decide), hw 2 (by decide), hw 3 (by decide)]; rfl
  · rw [hw 0 (by decide), hw 2 (by decide), hw 3 (by decide)]; rfl
  · rw [hw 0 (by decide), hw 1 (by decide), hw 3 (by decide)]; rfl
  · rw [hw 0 (by decide), hw 1 (by decide), hw 2 (by decide)]; rfl
end
end Go.Proofs.Ytiiaheaadbhomaa
