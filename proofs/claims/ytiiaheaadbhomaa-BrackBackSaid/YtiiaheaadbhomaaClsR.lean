/- Arrays of 256 bools: made, written, read whole. -/
import Derived.Test.YtiiaheaadbhomaaClsK
import Derived.Deep.MidRow
import Derived.Deep.WholeRow
namespace Go.Proofs.Ytiiaheaadbhomaa
open Go.RowKit

def boolsL (f : Nat → Bool) : List Value := (List.range 256).map fun c => Value.bool (f c)
theorem boolsL_C (f : Nat → Bool) : (boolsL f).toArray = boolsC f := rfl
theorem boolsL_len (f : Nat → Bool) : (boolsL f).length = 256 := by simp [boolsL]
theorem bools_one (f : Nat → Bool) : ∀ v ∈ boolsL f, v.oneCell' = true := by
  intro v hv
  obtain ⟨c, _, rfl⟩ := List.mem_map.1 hv
  rfl
theorem size_bools : (Try.prog.info? 47).map (·.size) = some 256 := by kernel_rfl
theorem bools_info (f : Nat → Bool) : (Try.prog.info? 47).map (·.size) = some (boolsL f).length := by rw [boolsL_len]; exact size_bools
theorem zero_bools' : (Try.prog.info? 47).map (fun i => (i.zero, i.size)) = some (some (.agg (boolsC fun _ => false)), 256) := by kernel_rfl
theorem zero_bools (w : World) : (zeroValue 47).run Try.prog w = .ok (.agg (boolsC fun _ => false)) w := (zero_of_info zero_bools').1 w

theorem BoolsAt.range {w : World} {g : Nat} {f : Nat → Bool} (h : BoolsAt w g f) : w.rangeAt g 0 (boolsL f) := by
  intro j v hj
  rw [Nat.zero_add, cell_of_row w g j _ _ _ h, ← boolsL_C, List.getElem?_toArray]; exact hj
theorem SetAt.range {w : World} {g : Nat} {f : Nat → Bool} (h : SetAt w g f) : w.rangeAt g 0 (setC f).toList := by
  intro j v hj
  rw [Nat.zero_add, cell_of_row w g j _ _ _ h]; simpa using hj
/-- f, turned at x. -/
def putB (f : Nat → Bool) (x : Nat) (b : Bool) : Nat → Bool := fun c => if c = x then b else f c
theorem BoolsAt.store {w : World} {g : Nat} {f : Nat → Bool} (h : BoolsAt w g f) {x : Nat} (hx : x < 256) (b : Bool) : BoolsAt (w.setCell ⟨g, x, none⟩ (.bool b)) g (putB f x b) := by
  unfold BoolsAt at h ⊢
  rw [heap_setCell_same w g x _ _ _ h]
  congr 2
  apply Array.ext_getElem?
  intro i
  rw [Array.getElem?_setIfInBounds]
  by_cases hi : x = i
  · subst hi
    rw [if_pos rfl, if_pos (by rw [bools_size]; exact hx), bools_get _ _ hx]
    simp [putB]
  · rw [if_neg hi]
    by_cases hl : i < 256
    · rw [bools_get _ _ hl, bools_get _ _ hl]
      have : ¬ i = x := fun e => hi e.symm
      simp [putB, this]
    · rw [Array.getElem?_eq_none (by rw [bools_size]; omega), Array.getElem?_eq_none (by rw [bools_size]; omega)]
theorem BoolsAt.alike {w : World} {g : Nat} {f f' : Nat → Bool} (h : BoolsAt w g f) (ha : Go.Proofs.Ytiiaheaadbhomaa.alike f f') : BoolsAt w g f' := by
  unfold BoolsAt at h ⊢
  rw [h]
  congr 2
  apply Array.ext_getElem?
  intro i
  by_cases hl : i < 256
  · rw [bools_get _ _ hl, bools_get _ _ hl, ha i hl]
  · rw [Array.getElem?_eq_none (by rw [bools_size]; omega), Array.getElem?_eq_none (by rw [bools_size]; omega)]
theorem bools_zero_at (w : World) (g : Nat) (hg : g = w.heap.size) : BoolsAt (w.alloc (.cells (boolsC fun _ => false) 47)) g (fun _ => false) := hg ▸ bools_new w _
/-- A byte more. -/
theorem putB_of (l : List UInt8) (k : Nat) (h : k < l.length) : putB (ofL (l.take k)) (l[k]'h).toNat true = ofL (l.take (k + 1)) := by
  rw [← ofL_next l k h]
  funext x
  unfold putB
  by_cases hx : x = (l[k]'h).toNat
  · simp [hx]
  · simp [hx]
/-- The next of a row that is told. -/
def upto (F : Nat → Bool) (k : Nat) : Nat → Bool := fun x => decide (x < k) && F x
theorem upto_zero (F : Nat → Bool) : upto F 0 = fun _ => false := by funext x; simp [upto]
theorem upto_end (F : Nat → Bool) : alike (upto F 256) F := fun c hc => by simp [upto, hc]
theorem upto_next (F : Nat → Bool) (k : Nat) : putB (upto F k) k (F k) = upto F (k + 1) := by
  funext x
  unfold putB upto
  by_cases hx : x = k
  · subst hx; simp
  · have : (x < k + 1) = (x < k) := by apply propext; omega
    simp [hx, this]
end Go.Proofs.Ytiiaheaadbhomaa
