/- Ten spans as values, for seats in which no matcher stands: the twenty numbers; one span set. Nothing here speaks of a program. -/
import Derived.Test.YtkfdehkembcaoaaHeld
set_option linter.unusedVariables false
set_option maxRecDepth 100000
namespace Go.Proofs.Ytkfdehkembcaoaa
open Go.RowKit

abbrev Spn := Nat → Int × Int
def setSp (sp : Spn) (g : Nat) (x : Int × Int) : Spn := fun k => if k = g then x else sp k
def spnL (x : Int × Int) : List Value := [.int .i64 x.1, .int .i64 x.2]
def spnV (x : Int × Int) : Value := .agg #[.int .i64 x.1, .int .i64 x.2]
def hitL (s : Spn) : List Value := [.int .i64 (s 0).1, .int .i64 (s 0).2, .int .i64 (s 1).1, .int .i64 (s 1).2, .int .i64 (s 2).1, .int .i64 (s 2).2, .int .i64 (s 3).1, .int .i64 (s 3).2, .int .i64 (s 4).1, .int .i64 (s 4).2, .int .i64 (s 5).1, .int .i64 (s 5).2, .int .i64 (s 6).1, .int .i64 (s 6).2, .int .i64 (s 7).1, .int .i64 (s 7).2, .int .i64 (s 8).1, .int .i64 (s 8).2, .int .i64 (s 9).1, .int .i64 (s 9).2]
def hitC (s : Spn) : Array Value := (hitL s).toArray
def hitV (s : Spn) : Value := .agg (hitC s)
def sp00 : Spn := fun _ => (0, 0)
theorem hitL_len (s : Spn) : (hitL s).length = 20 := rfl
theorem hitC_size (s : Spn) : (hitC s).size = 20 := rfl
theorem hit_one (s : Spn) : ∀ v ∈ hitL s, v.oneCell' = true := by simp [hitL, Value.oneCell']
theorem hitL_from (s : Spn) {g : Nat} (h : g < 10) : (hitL s)[2 * g]? = some (.int .i64 (s g).1) := by
  have : g = 0 ∨ g = 1 ∨ g = 2 ∨ g = 3 ∨ g = 4 ∨ g = 5 ∨ g = 6 ∨ g = 7 ∨ g = 8 ∨ g = 9 := by omega
  rcases this with rfl | rfl | rfl | rfl | rfl | rfl | rfl | rfl | rfl | rfl <;> rfl
theorem hitL_to (s : Spn) {g : Nat} (h : g < 10) : (hitL s)[2 * g + 1]? = some (.int .i64 (s g).2) := by
  have : g = 0 ∨ g = 1 ∨ g = 2 ∨ g = 3 ∨ g = 4 ∨ g = 5 ∨ g = 6 ∨ g = 7 ∨ g = 8 ∨ g = 9 := by omega
  rcases this with rfl | rfl | rfl | rfl | rfl | rfl | rfl | rfl | rfl | rfl <;> rfl
theorem hitL_set (s : Spn) {g : Nat} (h : g < 10) (x : Int × Int) : hitL (setSp s g x) = ((hitL s).set (2 * g) (.int .i64 x.1)).set (2 * g + 1) (.int .i64 x.2) := by
  have : g = 0 ∨ g = 1 ∨ g = 2 ∨ g = 3 ∨ g = 4 ∨ g = 5 ∨ g = 6 ∨ g = 7 ∨ g = 8 ∨ g = 9 := by omega
  rcases this with rfl | rfl | rfl | rfl | rfl | rfl | rfl | rfl | rfl | rfl <;> rfl
theorem hitC_set (s : Spn) {g : Nat} (h : g < 10) (x : Int × Int) : ((hitC s).setIfInBounds (g * 2) (.int .i64 x.1)).setIfInBounds (g * 2 + 1) (.int .i64 x.2) = hitC (setSp s g x) := by
  unfold hitC
  rw [hitL_set s h, Nat.mul_comm]
  simp
theorem hit_cells (s : Spn) : (hitC s).all (·.oneCell') = true := all_oneCell_toArray (hit_one s)
theorem Held.span {w : World} {B : Nat} {t : TypeId} {s : Spn} (h : Held w B t (hitC s)) {k : Nat} (hk : k < 10) (x : Int × Int) : Held ((w.setCell ⟨B, k * 2, none⟩ (.int .i64 x.1)).setCell ⟨B, k * 2 + 1, none⟩ (.int .i64 x.2)) B t (hitC (setSp s k x)) := by
  have := (h.put (k * 2) (.int .i64 x.1)).put (k * 2 + 1) (.int .i64 x.2)
  rwa [hitC_set s hk x] at this
theorem span_there {w : World} {B : Nat} {t : TypeId} {s : Spn} (h : Held w B t (hitC s)) {k : Nat} (hk : k < 10) : w.cell? ⟨B, k * 2, none⟩ = some (.int .i64 (s k).1) ∧ w.cell? ⟨B, k * 2 + 1, none⟩ = some (.int .i64 (s k).2) := by
  refine ⟨h.at_ ?_, h.at_ ?_⟩
  · rw [Nat.mul_comm]; unfold hitC; rw [List.getElem?_toArray]; exact hitL_from s hk
  · rw [Nat.mul_comm]; unfold hitC; rw [List.getElem?_toArray]; exact hitL_to s hk
end Go.Proofs.Ytkfdehkembcaoaa
