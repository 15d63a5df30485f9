/- A set that comes in as an argument. -/
import Derived.Test.YtiiaheaadbhomaaProg
import Derived.Test.YtiiaheaadbhomaaClsS
import Derived.Deep.Slices
import Derived.Deep.Fields
import Derived.ChangeSame
import Derived.Laws.IdiomArrays
namespace Go.Proofs.Ytiiaheaadbhomaa
open Go.ChangeShapes Go.WideShapes Go.Deep Go.RowKit

theorem list4 {α : Type} (l : List α) (h : l.length = 4) : ∃ a b c d, l = [a, b, c, d] := by
  match l, h with
  | [a, b, c, d], _ => exact ⟨a, b, c, d, rfl⟩
theorem cells_set : Try.prog.cellsOf 24 = 4 := by kernel_rfl
theorem cells_u64 : Try.prog.cellsOf 22 = 1 := by kernel_rfl
theorem nat_u64 {x : Int} (h : (Lit.int .u64 x).wf = true) : ∃ y : Nat, x = (y : Int) ∧ y < 18446744073709551616 := by
  have hb := bounds_u64 h
  obtain ⟨y, rfl⟩ := Int.eq_ofNat_of_zero_le hb.1
  exact ⟨y, rfl, by omega⟩

theorem SetAt.cells4 {w : World} {g : Nat} {f : Nat → Bool} (h : SetAt w g f) : w.cell? ⟨g, 0, none⟩ = some (.int .u64 ((wd f 0 : Nat) : Int)) ∧ w.cell? ⟨g, 1, none⟩ = some (.int .u64 ((wd f 1 : Nat) : Int)) ∧
    w.cell? ⟨g, 2, none⟩ = some (.int .u64 ((wd f 2 : Nat) : Int)) ∧ w.cell? ⟨g, 3, none⟩ = some (.int .u64 ((wd f 3 : Nat) : Int)) := ⟨h.cell 0 (by decide), h.cell 1 (by decide), h.cell 2 (by decide), h.cell 3 (by decide)⟩
section
variable {H : Type} {enc : TypeId × Value → H} {W : World} {held : Bool}
theorem set_trod {fuel : Nat} {c0 c1 c2 c3 : Value} {x : DataW H × List MemPlace} (h : DataW.trod enc Try.prog W 0 (fun _ => true) held fuel 24 [c0, c1, c2, c3] = some x) :
    ∃ f : Nat → Bool, c0 = .int .u64 ((wd f 0 : Nat) : Int) ∧ c1 = .int .u64 ((wd f 1 : Nat) : Int) ∧ c2 = .int .u64 ((wd f 2 : Nat) : Int) ∧ c3 = .int .u64 ((wd f 3 : Nat) : Int) := by
  obtain ⟨y0, y1, y2, y3, m, -, h0, h1, h2, h3⟩ := trod_array4 Try.underlying24 cells_u64 h
  obtain ⟨x0, e0, -, w0⟩ := DataW.trod_int Try.underlying22 h0
  obtain ⟨x1, e1, -, w1⟩ := DataW.trod_int Try.underlying22 h1
  obtain ⟨x2, e2, -, w2⟩ := DataW.trod_int Try.underlying22 h2
  obtain ⟨x3, e3, -, w3⟩ := DataW.trod_int Try.underlying22 h3
  obtain ⟨n0, rfl, b0⟩ := nat_u64 w0
  obtain ⟨n1, rfl, b1⟩ := nat_u64 w1
  obtain ⟨n2, rfl, b2⟩ := nat_u64 w2
  obtain ⟨n3, rfl, b3⟩ := nat_u64 w3
  obtain ⟨f, g0, g1, g2, g3⟩ := set_of n0 n1 n2 n3 b0 b1 b2 b3
  simp only [List.cons.injEq, and_true] at e0 e1 e2 e3
  exact ⟨f, by rw [g0]; exact e0, by rw [g1]; exact e1, by rw [g2]; exact e2, by rw [g3]; exact e3⟩
theorem open_set {v : Value} {d : DataW H} {ps : List MemPlace} {r : Reach} {base : Nat}
    (hv : Value.okWide Try.prog W r base 24 v) (h : DataW.Trod enc Try.prog W 0 (fun _ => true) true 24 v d ps) : ∃ f : Nat → Bool, v = setV f := by
  obtain ⟨cs, rfl, hsz, _⟩ : ∃ cs, v = .agg cs ∧ cs.size = Try.prog.cellsOf 24 ∧ Row.okWide Try.prog W r base 24 cs := by
    simpa [Value.okWide, Try.underlying24] using hv
  rw [cells_set] at hsz
  obtain ⟨l⟩ := cs
  obtain ⟨c0, c1, c2, c3, rfl⟩ := list4 l hsz
  obtain ⟨fuel, hf⟩ := h
  obtain ⟨f, rfl, rfl, rfl, rfl⟩ := set_trod hf
  exact ⟨f, rfl⟩
end
end Go.Proofs.Ytiiaheaadbhomaa
