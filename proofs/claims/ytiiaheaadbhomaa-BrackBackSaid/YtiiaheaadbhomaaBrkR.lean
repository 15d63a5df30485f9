/- What the reference's Parse leans on: sets of bools that are written byte by byte, items compared with pieces. -/
import Derived.Test.YtiiaheaadbhomaaBrkG
import Derived.Test.YtiiaheaadbhomaaClsK
import Derived.Test.YtiiaheaadbhomaaBrkL
import Derived.Deep.WholeRow
namespace Go.Proofs.Ytiiaheaadbhomaa
open Go.RowKit

/-- f below k, g from there on. -/
def mixB (k : Nat) (f g : Nat → Bool) : Nat → Bool := fun x => if x < k then f x else g x
theorem mix_zero (f g : Nat → Bool) : mixB 0 f g = g := by funext x; simp [mixB]
theorem mix_end (f g : Nat → Bool) : alike (mixB 256 f g) f := fun c hc => by simp [mixB, hc]
theorem mix_at (k : Nat) (f g : Nat → Bool) : mixB k f g k = g k := by simp [mixB]
theorem mix_next (k : Nat) (f g : Nat → Bool) : putB (mixB k f g) k (f k) = mixB (k + 1) f g := by
  funext x
  unfold putB mixB
  by_cases hx : x = k
  · subst hx; simp
  · have : (x < k + 1) = (x < k) := by apply propext; omega
    simp [hx, this]
/-- acc and the bytes from a on, below j. -/
def fillB (acc : Nat → Bool) (a j : Nat) : Nat → Bool := fun x => acc x || (decide (a ≤ x) && decide (x < j))
theorem fill_zero (acc : Nat → Bool) (a : Nat) : fillB acc a a = acc := by
  funext x
  unfold fillB
  by_cases h : a ≤ x
  · have : ¬ x < a := by omega
    simp [this]
  · simp [h]
theorem fill_next (acc : Nat → Bool) (a j : Nat) (h : a ≤ j) : putB (fillB acc a j) j true = fillB acc a (j + 1) := by
  funext x
  unfold putB fillB
  by_cases hx : x = j
  · subst hx; simp [h]
  · have : (x < j + 1) = (x < j) := by apply propext; omega
    simp [hx, this]
theorem fill_end (acc : Nat → Bool) (x y : UInt8) : fillB acc x.toNat (y.toNat + 1) = orF acc (rngF x y) := by
  funext c
  unfold fillB orF rngF
  have : (c < y.toNat + 1) = (c ≤ y.toNat) := by apply propext; omega
  simp only [this]
section
variable {w w' : World} {g : Nat} {f : Nat → Bool}
theorem BoolsAt.keep {B : Nat} (h : BoolsAt w g f) (hb : Below B w w') (hg : g < B) : BoolsAt w' g f := h.below hb hg
end
/-- Does it end there? -/
theorem at_bg (l : List UInt8) (i : Nat) (x : UInt8) (q : Int) (hq : (x.toNat : Int) = q) : bg [x] (l.drop i) = decide (atV l i = q) := by
  rw [Bool.eq_iff_iff, decide_eq_true_eq, ← hq, atV_is]
theorem joins_at (l : List UInt8) (i : Nat) : joins (l.drop i) = (decide (atV l i = 45) && !decide (atV l (i + 1) = 93)) := by
  unfold joins
  rw [bg_two, at_bg l i 45 45 rfl, at_bg l (i + 1) 93 93 rfl]
  cases decide (atV l i = 45) <;> simp

/-- Where the reference's Parse stands. -/
def RelP (W : World) (l : List UInt8) (R : Except Nat ((Nat → Bool) × Nat)) (vi vn : Value) (wr : World) : Prop :=
  ∃ (i nn : Nat) (acc : Nat → Bool), vi = .int .i64 (i : Int) ∧ vn = .int .i64 (nn : Int) ∧ i ≤ l.length ∧ nn ≤ i ∧ items (decide (nn = 0)) (l.drop i) i acc = R ∧ SetAt wr W.heap.size noneF ∧ BoolsAt wr (W.heap.size + 1) acc ∧ Below W.heap.size W wr
theorem RelP.mk {W : World} {l : List UInt8} {R : Except Nat ((Nat → Bool) × Nat)} {vi vn : Value} {wr : World} (h : ∃ (i nn : Nat) (acc : Nat → Bool), vi = .int .i64 (i : Int) ∧ vn = .int .i64 (nn : Int) ∧ i ≤ l.length ∧ nn ≤ i ∧ items (decide (nn = 0)) (l.drop i) i acc = R ∧ SetAt wr W.heap.size noneF ∧ BoolsAt wr (W.heap.size + 1) acc ∧ Below W.heap.size W wr) : RelP W l R vi vn wr := h
/-- Where a loop over all bytes stands: the array from f below the byte, from g behind. -/
def RelM (W : World) (it : World → Prop) (f g : Nat → Bool) (v : Value) (wr : World) : Prop :=
  ∃ m : Nat, m ≤ 256 ∧ v = .int .i64 (m : Int) ∧ SetAt wr W.heap.size noneF ∧ BoolsAt wr (W.heap.size + 1) (mixB m f g) ∧ it wr ∧ Below W.heap.size W wr
theorem RelM.mk {W : World} {it : World → Prop} {f g : Nat → Bool} {v : Value} {wr : World} (h : ∃ m : Nat, m ≤ 256 ∧ v = .int .i64 (m : Int) ∧ SetAt wr W.heap.size noneF ∧ BoolsAt wr (W.heap.size + 1) (mixB m f g) ∧ it wr ∧ Below W.heap.size W wr) : RelM W it f g v wr := h
def RelF (W : World) (it : World → Prop) (acc : Nat → Bool) (a b : Nat) (v : Value) (wr : World) : Prop :=
  ∃ m : Nat, a ≤ m ∧ m ≤ b + 1 ∧ v = .int .i64 (m : Int) ∧ SetAt wr W.heap.size noneF ∧ BoolsAt wr (W.heap.size + 1) (fillB acc a m) ∧ it wr ∧ Below W.heap.size W wr
theorem RelF.mk {W : World} {it : World → Prop} {acc : Nat → Bool} {a b : Nat} {v : Value} {wr : World} (h : ∃ m : Nat, a ≤ m ∧ m ≤ b + 1 ∧ v = .int .i64 (m : Int) ∧ SetAt wr W.heap.size noneF ∧ BoolsAt wr (W.heap.size + 1) (fillB acc a m) ∧ it wr ∧ Below W.heap.size W wr) : RelF W it acc a b v wr := h
end Go.Proofs.Ytiiaheaadbhomaa
