/- Contracts of package class: bit, Has. -/
import Derived.Test.YtcloimdndcbchaaProg
import Derived.Test.YtcloimdndcbchaaClsS
import Derived.Lib.Hide
import Derived.IntWalk
import Derived.Deep.QuietTactic
import Derived.BigQuiet
import Derived.WalkSmall
set_option maxRecDepth 100000
namespace Go.Proofs.Ytcloimdndcbchaa
open Go.RowKit

theorem pow_small (c : Nat) : (2 : Int) ^ (c % 64) % 18446744073709551616 = ((bitN c : Nat) : Int) := by
  have hb := bitN_lt c
  have e : (2 : Int) ^ (c % 64) = ((bitN c : Nat) : Int) := by simp [bitN]
  rw [e]
  omega

theorem bit_any (c : Nat) (w : World) (hc : c < 256) :
    Calls Try.prog 52 #[.int .u8 (c : Int)] w fun e w' => e = .returned (.int .u64 ((bitN c : Nat) : Int)) ∧ w = w' := by
  have h1 : (0 : Int) ≤ (c : Int) % 64 := by omega
  have h2 : (c : Int) % 64 ≤ 64 := by omega
  have ht : ((c : Int) % 64).toNat = c % 64 := by omega
  go_enter Try.func52, Try.ntmps52
  go_wp2
  go_ret
  exact ⟨ret_int (pow_small c), rfl⟩


section
variable {w w' : World} {g : Nat} {f : Nat → Bool}
theorem SetAt.more {c k i : Nat} (h : SetAt w g f) (he : c = 64 * k + i) (hi : i < 64) (hk : k = 0 ∨ k = 1 ∨ k = 2 ∨ k = 3) :
    SetAt (w.setCell ⟨g, k, none⟩ (.int .u64 (bits .or .u64 ((wd f k : Nat) : Int) ((bitN c : Nat) : Int)))) g (fun x => f x || decide (x = c)) := by
  unfold SetAt at h ⊢
  rw [heap_setCell_same w g k _ _ _ h, or_bit f c k i he hi]
  have hw : ∀ k', k' ≠ k → wd (fun x => f x || decide (x = c)) k' = wd f k' := fun k' hk' => wd_more f c k k' i he hi hk'
  unfold setC
  rcases hk with rfl | rfl | rfl | rfl
  · rw [hw 1 (by decide), hw 2 (by decide), hw 3 (by decide)]; rfl
  · rw [hw 0 (by decide), hw 2 (by decide), hw 3 (by decide)]; rfl
  · rw [hw 0 (by decide), hw 1 (by decide), hw 3 (by decide)]; rfl
  · rw [hw 0 (by decide), hw 1 (by decide), hw 2 (by decide)]; rfl
end
end Go.Proofs.Ytcloimdndcbchaa
