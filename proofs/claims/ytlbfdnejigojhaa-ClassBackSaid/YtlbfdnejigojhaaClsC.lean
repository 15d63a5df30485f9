/- Contracts of package class: bit, Has. -/
import Derived.Test.YtlbfdnejigojhaaProg
import Derived.Test.YtlbfdnejigojhaaClsA
import Derived.Lib.Hide
import Derived.IntWalk
import Derived.Deep.QuietTactic
import Derived.BigQuiet
import Derived.WalkSmall
namespace Go.Proofs.Ytlbfdnejigojhaa
open Go.RowKit

theorem pow_small (c : Nat) : (2 : Int) ^ (c % 64) % 18446744073709551616 = ((bitN c : Nat) : Int) := by
  have hb := bitN_lt c
  have e : (2 : Int) ^ (c % 64) = ((bitN c : Nat) : Int) := by simp [bitN]
  rw [e]
  omega

theorem bit_any (c : Nat) (w : World) (hc : c < 256) :
    Calls Try.prog 21 #[.int .u8 (c : Int)] w fun e w' => e = .returned (.int .u64 ((bitN c : Nat) : Int)) ∧ w = w' := by
  have h1 : (0 : Int) ≤ (c : Int) % 64 := by omega
  have h2 : (c : Int) % 64 ≤ 64 := by omega
  have ht : ((c : Int) % 64).toNat = c % 64 := by omega
  go_enter Try.func21, Try.ntmps21
  go_wp2
  go_ret
  exact ⟨ret_int (pow_small c), rfl⟩

set_option maxRecDepth 100000 in
theorem has_any (f : Nat → Bool) (c : Nat) (w : World) (hc : c < 256) :
    Calls Try.prog 8 #[setV f, .int .u8 (c : Int)] w fun e w' => e = .returned (.bool (f c)) ∧ Below w.heap.size w w' := by
  unfold setV setC
  obtain ⟨k, i, he, hi, hk⟩ := byte_parts c hc
  have hA := Lib.hid (and_ne f c k i he hi)
  have h0 := tdiv_of he hi
  have h1 := ediv_of he hi
  clear he hi
  rcases hk with rfl | rfl | rfl | rfl
  all_goals
    go_enter Try.func8, Try.ntmps8
    go_wp2_with (go_quiet ((go_at_call 21; exact Calls.quiet_of_same ((bit_any c _ hc).mono fun e w' h => ⟨h.1, h.2.symm⟩))))
    go_ret
    exact ⟨ret_bool hA.out, below_drewN ((Below.refl _ _).alloc (Nat.le_refl _) _) _⟩

/-! ### Sets in memory -/
theorem set_size (f : Nat → Bool) : (Try.prog.info? 24).map (·.size) = some (setC f).size := by kernel_rfl
theorem set_cells (f : Nat → Bool) : (setC f).all (·.oneCell') = true := by simp [setC, Value.oneCell']
theorem set_hold (f g : Nat → Bool) : (setC f).size = (setC g).size := by simp [setC]
theorem setC_none : setC (fun _ => false) = #[.int .u64 0, .int .u64 0, .int .u64 0, .int .u64 0] := by
  unfold setC; rw [wd_none, wd_none, wd_none, wd_none]; rfl
/-- A block that holds a set. -/
def SetAt (w : World) (g : Nat) (f : Nat → Bool) : Prop := w.heap[g]? = some (.cells (setC f) 24 (0, 0))
section
variable {w w' : World} {g : Nat} {f : Nat → Bool}
theorem SetAt.lt (h : SetAt w g f) : g < w.heap.size := by
  unfold SetAt at h
  exact (Array.getElem?_eq_some_iff.1 h).1
theorem SetAt.cell (h : SetAt w g f) (k : Nat) (hk : k = 0 ∨ k = 1 ∨ k = 2 ∨ k = 3) : w.cell? ⟨g, k, none⟩ = some (.int .u64 ((wd f k : Nat) : Int)) := by
  rw [cell_of_row w g k _ _ _ h]
  rcases hk with rfl | rfl | rfl | rfl <;> rfl
theorem SetAt.cell' (h : SetAt w g f) {k : Nat} (hk : k = 0 ∨ k = 1 ∨ k = 2 ∨ k = 3) : w.cell? ⟨g, k, none⟩ = some (.int .u64 ((wd f k : Nat) : Int)) := h.cell k hk
theorem SetAt.thawed (h : SetAt w g f) (k : Nat) : w.frozen? ⟨g, k, none⟩ = false := frozen_of_row w g k _ _ h
theorem SetAt.below {B : Nat} (h : SetAt w g f) (hb : Below B w w') (hg : g < B) : SetAt w' g f := by
  unfold SetAt at h ⊢; rw [hb.block g hg]; exact h
theorem SetAt.put (h : SetAt w g f) (f' : Nat → Bool) : SetAt (w.setRow g (setC f')) g f' := setRow_heap w g _ _ _ _ h
theorem SetAt.put_other {g' : Nat} (h : SetAt w g f) (hne : g ≠ g') (cs : Array Value) : SetAt (w.setRow g' cs) g f := by
  unfold SetAt at h ⊢; rw [setRow_other w g' g cs hne]; exact h
theorem SetAt.set_other {a : Addr} {v : Value} (h : SetAt w g f) (hne : g ≠ a.block) : SetAt (w.setCell a v) g f := by
  unfold SetAt at h ⊢; rw [heap_setCell_other w a g v hne]; exact h
theorem SetAt.alloc (h : SetAt w g f) (o : Obj) : SetAt (w.alloc o) g f := by
  have hl := h.lt
  unfold SetAt at h ⊢; rw [Below.heap_alloc w o g hl]; exact h
theorem below_put {B : Nat} {w0 : World} (hb : Below B w0 w) (hg : B ≤ g) (cs : Array Value) : Below B w0 (w.setRow g cs) :=
  ⟨hb.os, hb.tape, hb.output, by rw [size_setRow]; exact hb.size, fun k hk => by rw [setRow_other w g k cs (by omega)]; exact hb.block k hk⟩
theorem set_new (w : World) (f : Nat → Bool) : SetAt (w.alloc (.cells (setC f) 24)) w.heap.size f := heap_alloc_new _ _
theorem set_zero (w : World) : SetAt (w.alloc (.cells #[.int .u64 0, .int .u64 0, .int .u64 0, .int .u64 0] 24)) w.heap.size (fun _ => false) := by
  have := set_new w (fun _ => false)
  rw [setC_none] at this
  exact this
theorem set_zero_at (w : World) (g : Nat) (hg : g = w.heap.size) : SetAt (w.alloc (.cells #[.int .u64 0, .int .u64 0, .int .u64 0, .int .u64 0] 24)) g (fun _ => false) := hg ▸ set_zero w
theorem SetAt.drew (h : SetAt w g f) (n : Nat) : SetAt (w.drewN n) g f := h
theorem SetAt.more {c k i : Nat} (h : SetAt w g f) (he : c = 64 * k + i) (hi : i < 64) (hk : k = 0 ∨ k = 1 ∨ k = 2 ∨ k = 3) :
    SetAt (w.setCell ⟨g, k, none⟩ (.int .u64 (bits .or .u64 ((wd f k : Nat) : Int) ((bitN c : Nat) : Int)))) g (fun x => f x || decide (x = c)) := by
  unfold SetAt at h ⊢
  rw [heap_setCell_same w g k _ _ _ h, or_bit f c k i he hi]
  have hw : ∀ k', k' ≠ k → wd (fun x => f x || decide (x = c)) k' = wd f k' := fun k' hk' => wd_more f c k k' i he hi hk'
  unfold setC
  rcases hk with rfl | rfl | rfl | rfl
  · rw [hw 1 (by decide), hw 2 (by decide), hw 3 (by decide)]; rfl
  · rw [hw 0 (by decide), hw 2 (by decide), hw 3 (by decide)]; rfl
  · rw [hw 0 (by decide), hw 1 (by decide), hw 3 (by decide)]; rfl
  · rw [hw 0 (by decide), hw 1 (by decide), hw 2 (by decide)]; rfl
end
end Go.Proofs.Ytlbfdnejigojhaa
