/- The contract of the reference's Parse (written by wip/tools/gen_refparse.py). -/
import Derived.Test.YtiiaheaadbhomaaBrkR
import Derived.Test.YtiiaheaadbhomaaBrkM
import Derived.Test.YtiiaheaadbhomaaClsJ
import Derived.Deep.RegionHeld3
namespace Go.Proofs.Ytiiaheaadbhomaa
open Go.RowKit

theorem piece_bad_ne {l : List UInt8} {e : Nat} (h : piece l = .bad e) : ((e : Int) != 0) = true := by
  have := piece_err h
  simp; omega
theorem item_bad' {l : List UInt8} {e : Nat} (hp : piece l = .bad e) : item l = .error e := by unfold item; rw [hp]
theorem item_alone' {l : List UInt8} {c : UInt8} {n : Nat} (hp : piece l = .one c n) (hj : joins (l.drop n) = false) : item l = .ok (oneF c, n) := by unfold item; rw [hp]; simp [hj]
theorem set_zeroed {w : World} {g : Nat} {f : Nat → Bool} (h : SetAt w g f) : SetAt ((((w.drew.setCell ⟨g, 0, none⟩ (.int .u64 0)).setCell ⟨g, 1, none⟩ (.int .u64 0)).setCell ⟨g, 2, none⟩ (.int .u64 0)).setCell ⟨g, 3, none⟩ (.int .u64 0)) g noneF := by
  have := SetAt.four (w := w.drew) h noneF
  have e : ∀ k, ((wd noneF k : Nat) : Int) = 0 := fun k => by rw [show wd noneF k = 0 from wd_none k]; rfl
  rw [e, e, e, e] at this
  exact this
theorem refOf_at (f : Nat → Bool) (w : World) :
    Calls Try.prog 20 #[.agg (boolsC f)] w fun e w' => e = .returned (.agg (setC f)) ∧ Below w.heap.size w w' := refOf_any f w
end Go.Proofs.Ytiiaheaadbhomaa
