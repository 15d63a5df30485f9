/- A cursor's texts, plainly: delimiters; where the first byte stands that no \ takes along; what bytes mean; bytes written with a \ ahead of some. -/
import Derived.Test.YtdjnlploddlkbaaDigA
import Derived.Test.YtdjnlploddlkbaaLinA
import Derived.Lib.IndexAny
set_option linter.unusedVariables false
set_option maxRecDepth 100000
namespace Go.Proofs.Ytdjnlploddlkbaa
open Go.RowKit

/-- The signs that are no delimiters. -/
def noDl : List UInt8 := [92, 40, 41, 123, 125, 91, 93, 46, 42, 94, 36, 43, 63, 38]
/-- Is it a delimiter? -/
def dlm (c : UInt8) : Bool := (cGraph c.toNat && !cAlnum c.toNat) && !noDl.contains c
theorem dlm_no92 {c : UInt8} (h : dlm c = true) : c ≠ 92 := by rintro rfl; revert h; decide
theorem dlm_no10 {c : UInt8} (h : dlm c = true) : c ≠ 10 := by rintro rfl; revert h; decide
theorem dlm_no97 {c : UInt8} (h : dlm c = true) : c ≠ 97 := by rintro rfl; revert h; decide
theorem dlm_no98 {c : UInt8} (h : dlm c = true) : c ≠ 98 := by rintro rfl; revert h; decide

/-- How many bytes there are ahead of the first that is one of these and that no \ takes along. -/
def plS (p : UInt8 → Bool) : List UInt8 → Nat
  | [] => 0
  | [x] => if p x then 0 else 1
  | x :: y :: s => if p x then 0 else if x = 92 then 2 + plS p s else 1 + plS p (y :: s)
theorem plS_stop {p : UInt8 → Bool} {x : UInt8} (h : p x = true) (r : List UInt8) : plS p (x :: r) = 0 := by
  cases r <;> simp [plS, h]
theorem plS_go {p : UInt8 → Bool} {x : UInt8} (h : p x = false) (h92 : x ≠ 92) (r : List UInt8) : plS p (x :: r) = 1 + plS p r := by
  cases r <;> simp [plS, h, h92]
theorem plS_two {p : UInt8 → Bool} (h : p 92 = false) (y : UInt8) (s : List UInt8) : plS p (92 :: y :: s) = 2 + plS p s := by
  simp [plS, h]
theorem plS_one {p : UInt8 → Bool} (h : p 92 = false) : plS p [92] = 1 := by simp [plS, h]
theorem plS_le (p : UInt8 → Bool) : ∀ l : List UInt8, plS p l ≤ l.length
  | [] => Nat.le_refl _
  | [x] => by unfold plS; split <;> simp
  | x :: y :: s => by
    have ih1 := plS_le p s
    have ih2 := plS_le p (y :: s)
    unfold plS
    simp only [List.length_cons] at ih1 ih2 ⊢
    split
    · omega
    split
    · omega
    · omega
/-- What bytes mean: without each \ that takes one along; nothing: a \ at the end has none. -/
def mnS : List UInt8 → Option (List UInt8)
  | [] => some []
  | [x] => if x = 92 then none else some [x]
  | x :: y :: s => if x = 92 then (mnS s).map (y :: ·) else (mnS (y :: s)).map (x :: ·)
theorem mnS_go {x : UInt8} (h : x ≠ 92) (r : List UInt8) : mnS (x :: r) = (mnS r).map (x :: ·) := by
  cases r <;> simp [mnS, h]
theorem mnS_two (y : UInt8) (s : List UInt8) : mnS (92 :: y :: s) = (mnS s).map (y :: ·) := by simp [mnS]
theorem mnS_one : mnS [92] = none := rfl
/-- A byte, with a \ ahead where it needs one. -/
def bn1 (d x : UInt8) : List UInt8 := if x = 92 ∨ x = 10 ∨ x = d then [92, x] else [x]
def bentL (d : UInt8) (l : List UInt8) : List UInt8 := l.flatMap (bn1 d)
theorem bn1_len (d x : UInt8) : (bn1 d x).length ≤ 2 := by unfold bn1; split <;> simp
theorem bentL_len (d : UInt8) (l : List UInt8) : (bentL d l).length ≤ 2 * l.length := by
  induction l with
  | nil => simp [bentL]
  | cons c r ih => have := bn1_len d c; unfold bentL at ih ⊢; rw [List.flatMap_cons, List.length_append, List.length_cons]; omega
theorem bentL_take (d : UInt8) (b : List UInt8) {k : Nat} (h : k < b.length) : bentL d (b.take (k + 1)) = bentL d (b.take k) ++ bn1 d (b[k]'h) := by
  unfold bentL
  rw [List.take_add_one, List.getElem?_eq_getElem h, List.flatMap_append]
  simp
/-- What was written so ends where its end is. -/
theorem plS_bent {p : UInt8 → Bool} {d : UInt8} (h92 : p 92 = false) (hp : ∀ x, p x = true → x = 10 ∨ x = d) (l r : List UInt8) (hr : ∀ c ∈ r.head?, p c = true) : plS p (bentL d l ++ r) = (bentL d l).length := by
  induction l with
  | nil =>
    cases r with
    | nil => rfl
    | cons c r => exact plS_stop (hr c rfl) r
  | cons x l ih =>
    have e : bentL d (x :: l) = bn1 d x ++ bentL d l := by unfold bentL; rw [List.flatMap_cons]
    rw [e, List.append_assoc, List.length_append]
    by_cases hx : x = 92 ∨ x = 10 ∨ x = d
    · rw [show bn1 d x = [92, x] from if_pos hx]
      show plS p (92 :: x :: (bentL d l ++ r)) = 2 + _
      rw [plS_two h92, ih]
    · rw [show bn1 d x = [x] from if_neg hx]
      show plS p (x :: (bentL d l ++ r)) = 1 + _
      rw [plS_go (by cases hq : p x with | false => rfl | true => exact absurd (.inr (hp x hq)) hx) (fun e => hx (.inl e)), ih]
/-- What was written so means what it was. -/
theorem mnS_bent (d : UInt8) (l : List UInt8) : mnS (bentL d l) = some l := by
  induction l with
  | nil => rfl
  | cons x l ih =>
    have e : bentL d (x :: l) = bn1 d x ++ bentL d l := by unfold bentL; rw [List.flatMap_cons]
    rw [e]
    by_cases hx : x = 92 ∨ x = 10 ∨ x = d
    · rw [show bn1 d x = [92, x] from if_pos hx]
      show mnS (92 :: x :: bentL d l) = _
      rw [mnS_two, ih]; rfl
    · rw [show bn1 d x = [x] from if_neg hx]
      show mnS (x :: bentL d l) = _
      rw [mnS_go (fun e => hx (.inl e)), ih]; rfl
theorem u8_eq_iff {x d : UInt8} : x = d ↔ ((x.toNat : Int) == (d.toNat : Int)) = true := by
  rw [beq_iff_eq]
  exact ⟨fun h => by rw [h], fun h => UInt8.toNat_inj.1 (by omega)⟩
/-- Is it one of these? -/
def anyOf (s : List UInt8) (x : UInt8) : Bool := s.contains x
theorem anyOf_at (s : List UInt8) (x : UInt8) : anyOf s x = decide (0 ≤ Lib.indexByte s x) := Lib.contains_iff_indexByte s x
theorem contains_at (s : List UInt8) (x : UInt8) : s.contains x = decide (0 ≤ Lib.indexByte s x) := Lib.contains_iff_indexByte s x
end Go.Proofs.Ytdjnlploddlkbaa
