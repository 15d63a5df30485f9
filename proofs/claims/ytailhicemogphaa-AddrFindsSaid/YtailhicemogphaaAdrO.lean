/- An address, a row of bools, a look of the reference: as arguments. -/
import Derived.Test.YtailhicemogphaaProg
import Derived.Test.YtailhicemogphaaWords
import Derived.Deep.Slices
import Derived.Deep.Grids
import Derived.Deep.Fields
import Derived.ChangeSame
set_option linter.unusedVariables false
set_option maxRecDepth 100000
namespace Go.Proofs.Ytailhicemogphaa
open Go.ChangeShapes Go.WideShapes Go.Deep Go.RowKit

theorem ad_cells_int : Try.prog.cellsOf 3 = 1 := by kernel_rfl
theorem ad_cells_bool : Try.prog.cellsOf 4 = 1 := by kernel_rfl
theorem ad_cells_bools : Try.prog.cellsOf 26 = 1 := by kernel_rfl
theorem ad_cells_addr : Try.prog.cellsOf 23 = 3 := by kernel_rfl
theorem ad_cells_look : Try.prog.cellsOf 28 = 3 := by kernel_rfl
section
variable {H : Type} {enc : TypeId × Value → H} {W : World}
theorem bools_trod {fuel : Nat} {cs : List Value} {x : DataW H × List MemPlace} (h : DataW.trod enc Try.prog W 0 (fun _ => true) true fuel 26 cs = some x) :
    ∃ (A : Option Addr) (n c : Nat) (l : List Bool), cs = [.slice A n c] ∧ n = l.length ∧ n ≤ c ∧ c ≤ maxLen ∧ Vals W W.heap.size A (l.map Value.bool) := by
  rcases open_bools Try.underlying26 Try.underlying4 (by kernel_rfl) h with ⟨hcs, _⟩ | ⟨a, len, cap, Z, hcs, _, hl, hm, _, hcell⟩
  · exact ⟨none, 0, 0, [], hcs, rfl, Nat.le_refl _, by simp [maxLen], Vals.none_ _ _ _⟩
  · refine ⟨some a, len, cap, (List.range len).map Z, hcs, by simp, hl, hm, ?_⟩
    intro j hj
    have hj' : j < len := by simpa using hj
    have h1 := hcell j (by omega)
    refine ⟨a, rfl, ?_, ?_⟩
    · have := World.block_lt_of_cell? _ _ h1
      rwa [block_add] at this
    · rw [h1]; simp
theorem addr_trod {held : Bool} {fuel : Nat} {cs : List Value} {x : DataW H × List MemPlace} (h : DataW.trod enc Try.prog W 0 (fun _ => true) held fuel 23 cs = some x) : ∃ k n r, cs = [.int .i64 k, .int .i64 n, .int .i64 r] := by
  obtain ⟨xs, n', -, -, hlen, hxl, hfl⟩ := DataW.trod_struct Try.underlying23 h
  rw [ad_cells_addr] at hlen
  match cs, hlen with
  | [c0, c1, c2], _ =>
    match xs, hxl with
    | [y0, y1, y2], _ =>
      obtain ⟨z0, h0, -⟩ := DataW.trod_int Try.underlying3 (hfl 0 _ rfl)
      obtain ⟨z1, h1, -⟩ := DataW.trod_int Try.underlying3 (hfl 1 _ rfl)
      obtain ⟨z2, h2, -⟩ := DataW.trod_int Try.underlying3 (hfl 2 _ rfl)
      have h0 : List.take (Try.prog.cellsOf 3) [c0, c1, c2] = [Value.int .i64 z0] := h0
      have h1 : List.take (Try.prog.cellsOf 3) [c1, c2] = [Value.int .i64 z1] := h1
      have h2 : List.take (Try.prog.cellsOf 3) [c2] = [Value.int .i64 z2] := h2
      rw [ad_cells_int] at h0 h1 h2
      simp only [List.take_succ_cons, List.take_zero, List.cons.injEq, and_true] at h0 h1 h2
      exact ⟨z0, z1, z2, by rw [h0, h1, h2]⟩
theorem look_trod {fuel : Nat} {cs : List Value} {x : DataW H × List MemPlace} (h : DataW.trod enc Try.prog W 0 (fun _ => true) true fuel 28 cs = some x) :
    ∃ line last A n c, ∃ l : List Bool, cs = [.int .i64 line, .bool last, .slice A n c] ∧ n = l.length ∧ n ≤ c ∧ c ≤ maxLen ∧ Vals W W.heap.size A (l.map Value.bool) := by
  obtain ⟨xs, n', -, -, hlen, hxl, hfl⟩ := DataW.trod_struct Try.underlying28 h
  rw [ad_cells_look] at hlen
  match cs, hlen with
  | [c0, c1, c2], _ =>
    match xs, hxl with
    | [y0, y1, y2], _ =>
      obtain ⟨z0, h0, -⟩ := DataW.trod_int Try.underlying3 (hfl 0 _ rfl)
      obtain ⟨z1, h1, -⟩ := DataW.trod_bool Try.underlying4 (hfl 1 _ rfl)
      obtain ⟨A, n, c, l, h2, q1, q2, q3, q4⟩ := bools_trod (hfl 2 _ rfl)
      have h0 : List.take (Try.prog.cellsOf 3) [c0, c1, c2] = [Value.int .i64 z0] := h0
      have h1 : List.take (Try.prog.cellsOf 4) [c1, c2] = [Value.bool z1] := h1
      have h2 : List.take (Try.prog.cellsOf 26) [c2] = [Value.slice A n c] := h2
      rw [ad_cells_int] at h0
      rw [ad_cells_bool] at h1
      rw [ad_cells_bools] at h2
      simp only [List.take_succ_cons, List.take_zero, List.cons.injEq, and_true] at h0 h1 h2
      exact ⟨z0, z1, A, n, c, l, by rw [h0, h1, h2], q1, q2, q3, q4⟩
variable {v : Value} {d : DataW H} {ps : List MemPlace} {r : Reach} {base : Nat}
theorem open_bools_arg (hv : Value.okWide Try.prog W r base 26 v) (h : DataW.Trod enc Try.prog W 0 (fun _ => true) true 26 v d ps) :
    ∃ (A : Option Addr) (n c : Nat) (l : List Bool), v = .slice A n c ∧ n = l.length ∧ n ≤ c ∧ c ≤ maxLen ∧ Vals W W.heap.size A (l.map Value.bool) := by
  obtain ⟨a0, len, cap, rfl⟩ := okWide_slice Try.underlying26 hv
  obtain ⟨fuel, hf⟩ := h
  obtain ⟨A, n, c, l, hcs, q⟩ := bools_trod hf
  exact ⟨A, n, c, l, by simpa [Value.cells] using hcs, q⟩
theorem open_addr (hv : Value.okWide Try.prog W r base 23 v) (h : DataW.Trod enc Try.prog W 0 (fun _ => true) true 23 v d ps) : ∃ k n z, v = .agg #[.int .i64 k, .int .i64 n, .int .i64 z] := by
  obtain ⟨cs, rfl, hsz⟩ := okWide_struct Try.underlying23 hv
  obtain ⟨fuel, hf⟩ := h
  obtain ⟨k, n, z, e⟩ := addr_trod hf
  obtain ⟨l⟩ := cs
  have e' : l = [.int .i64 k, .int .i64 n, .int .i64 z] := e
  subst e'
  exact ⟨k, n, z, rfl⟩
theorem open_look (hv : Value.okWide Try.prog W r base 28 v) (h : DataW.Trod enc Try.prog W 0 (fun _ => true) true 28 v d ps) :
    ∃ (line : Int) (last : Bool) (A : Option Addr) (n c : Nat) (l : List Bool), v = .agg #[.int .i64 line, .bool last, .slice A n c] ∧ n = l.length ∧ n ≤ c ∧ c ≤ maxLen ∧ Vals W W.heap.size A (l.map Value.bool) := by
  obtain ⟨cs, rfl, hsz⟩ := okWide_struct Try.underlying28 hv
  obtain ⟨fuel, hf⟩ := h
  obtain ⟨line, last, A, n, c, l, e, q⟩ := look_trod hf
  obtain ⟨ls⟩ := cs
  have e' : ls = [.int .i64 line, .bool last, .slice A n c] := e
  subst e'
  exact ⟨line, last, A, n, c, l, rfl, q⟩
end
end Go.Proofs.Ytailhicemogphaa
