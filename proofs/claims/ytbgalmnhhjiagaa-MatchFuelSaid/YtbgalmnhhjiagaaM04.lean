/- Sets in memory; two sets compared. -/
import Derived.Test.YtbgalmnhhjiagaaProg
import Derived.Test.YtbgalmnhhjiagaaM03
import Derived.Lib.Hide
import Derived.IntWalk
import Derived.Deep.QuietTactic
import Derived.BigQuiet
import Derived.WalkSmall
import Derived.Laws.StructEq
set_option maxRecDepth 100000
namespace Go.Proofs.Ytbgalmnhhjiagaa
open Go.RowKit

/-! ### Sets in memory -/
theorem set_size (f : Nat → Bool) : (Try.prog.info? 46).map (·.size) = some (setC f).size := by kernel_rfl
theorem set_cells (f : Nat → Bool) : (setC f).all (·.oneCell') = true := by simp [setC, Value.oneCell']
theorem set_hold (f g : Nat → Bool) : (setC f).size = (setC g).size := by simp [setC]
theorem setC_none : setC (fun _ => false) = #[.int .u64 0, .int .u64 0, .int .u64 0, .int .u64 0] := by
  unfold setC; rw [wd_none, wd_none, wd_none, wd_none]; rfl
/-- A block that holds a set. -/
def SetAt (w : World) (g : Nat) (f : Nat → Bool) : Prop := w.heap[g]? = some (.cells (setC f) 46 (0, 0))
section
variable {w w' : World} {g : Nat} {f : Nat → Bool}
theorem SetAt.lt (h : SetAt w g f) : g < w.heap.size := by
  unfold SetAt at h
  exact (Array.getElem?_eq_some_iff.1 h).1
theorem SetAt.cell (h : SetAt w g f) (k : Nat) (hk : k = 0 ∨ k = 1 ∨ k = 2 ∨ k = 3) : w.cell? ⟨g, k, none⟩ = some (.int .u64 ((wd f k : Nat) : Int)) := by
  rw [cell_of_row w g k _ _ _ h]
  rcases hk with rfl | rfl | rfl | rfl <;> rfl
theorem SetAt.cell' (h : SetAt w g f) {k : Nat} (hk : k = 0 ∨ k = 1 ∨ k = 2 ∨ k = 3) : w.cell? ⟨g, k, none⟩ = some (.int .u64 ((wd f k : Nat) : Int)) := h.cell k hk
theorem SetAt.thawed (h : SetAt w g f) (k : Nat) : w.frozen? ⟨g, k, none⟩ = false := frozen_of_row w g k _ _ h
theorem SetAt.below {B : Nat} (h : SetAt w g f) (hb : Below B w w') (hg : g < B) : SetAt w' g f := by
  unfold SetAt at h ⊢; rw [hb.block g hg]; exact h
theorem SetAt.put (h : SetAt w g f) (f' : Nat → Bool) : SetAt (w.setRow g (setC f')) g f' := setRow_heap w g _ _ _ _ h
theorem SetAt.put_other {g' : Nat} (h : SetAt w g f) (hne : g ≠ g') (cs : Array Value) : SetAt (w.setRow g' cs) g f := by
  unfold SetAt at h ⊢; rw [setRow_other w g' g cs hne]; exact h
theorem SetAt.set_other {a : Addr} {v : Value} (h : SetAt w g f) (hne : g ≠ a.block) : SetAt (w.setCell a v) g f := by
  unfold SetAt at h ⊢; rw [heap_setCell_other w a g v hne]; exact h
theorem SetAt.alloc (h : SetAt w g f) (o : Obj) : SetAt (w.alloc o) g f := by
  have hl := h.lt
  unfold SetAt at h ⊢; rw [Below.heap_alloc w o g hl]; exact h
theorem below_put {B : Nat} {w0 : World} (hb : Below B w0 w) (hg : B ≤ g) (cs : Array Value) : Below B w0 (w.setRow g cs) :=
  ⟨hb.os, hb.tape, hb.output, by rw [size_setRow]; exact hb.size, fun k hk => by rw [setRow_other w g k cs (by omega)]; exact hb.block k hk⟩
theorem set_new (w : World) (f : Nat → Bool) : SetAt (w.alloc (.cells (setC f) 46)) w.heap.size f := heap_alloc_new _ _
theorem set_zero (w : World) : SetAt (w.alloc (.cells #[.int .u64 0, .int .u64 0, .int .u64 0, .int .u64 0] 46)) w.heap.size (fun _ => false) := by
  have := set_new w (fun _ => false)
  rw [setC_none] at this
  exact this
theorem set_zero_at (w : World) (g : Nat) (hg : g = w.heap.size) : SetAt (w.alloc (.cells #[.int .u64 0, .int .u64 0, .int .u64 0, .int .u64 0] 46)) g (fun _ => false) := hg ▸ set_zero w
theorem SetAt.drew (h : SetAt w g f) (n : Nat) : SetAt (w.drewN n) g f := h
end

/-- The two have the same bytes. -/
def sameS (f g : Nat → Bool) : Bool := decide (wd f 0 = wd g 0 ∧ wd f 1 = wd g 1 ∧ wd f 2 = wd g 2 ∧ wd f 3 = wd g 3)
theorem sameS_iff (f g : Nat → Bool) : sameS f g = true ↔ alike f g := by
  unfold sameS
  rw [decide_eq_true_eq]
  exact ⟨fun ⟨h0, h1, h2, h3⟩ => alike_of h0 h1 h2 h3, fun h => ⟨h.wd 0 (by decide), h.wd 1 (by decide), h.wd 2 (by decide), h.wd 3 (by decide)⟩⟩
theorem sameS_of {f g : Nat → Bool} (h : alike f g) : sameS f g = true := (sameS_iff f g).2 h
theorem sameS_not {f g : Nat → Bool} (h : ¬ alike f g) : sameS f g = false := by
  cases hs : sameS f g
  · rfl
  · exact absurd ((sameS_iff f g).1 hs) h

theorem guard_set : Try.prog.eqGuardType Try.prog.depth 46 = false := by kernel_rfl
theorem size_u64 : (Try.prog.info? 44).map (·.size) = some 1 := by kernel_rfl
theorem run_size_u64 (w : World) : (sizeOf 44).run Try.prog w = .ok 1 w := by
  obtain ⟨i, hi, hs⟩ := Option.map_eq_some_iff.1 size_u64
  simp [sizeOf, typeInfo, hi, hs]

theorem run_isAgg_u64 (w : World) : (isAgg 44).run Try.prog w = .ok false w := by
  unfold isAgg
  rw [Sem.run_bind, run_underlying Try.underlying44]
  rfl
theorem run_part_u64 (w : World) (x : Int) (c : Array Value) (i : Nat) (h : c[i]? = some (.int .u64 x)) : (part 44 c (i * 1)).run Try.prog w = .ok (.int .u64 x) w := by
  unfold part
  rw [Sem.run_bind, run_isAgg_u64]
  simp [h]
theorem run_equalIn_set' (D : Nat) (h : ∀ (a b : Int) (w : World), (Op.equalIn D 44 (.int .u64 a) (.int .u64 b)).run Try.prog w = .ok (a == b) w) (w : World) (f g : Nat → Bool) : (Op.equalIn (D + 1) 46 (setV f) (setV g)).run Try.prog w = .ok (sameS f g) w := by
  have p0 := fun (f : Nat → Bool) (w : World) => run_part_u64 w ((wd f 0 : Nat) : Int) (setC f) 0 rfl
  have p1 := fun (f : Nat → Bool) (w : World) => run_part_u64 w ((wd f 1 : Nat) : Int) (setC f) 1 rfl
  have p2 := fun (f : Nat → Bool) (w : World) => run_part_u64 w ((wd f 2 : Nat) : Int) (setC f) 2 rfl
  have p3 := fun (f : Nat → Bool) (w : World) => run_part_u64 w ((wd f 3 : Nat) : Int) (setC f) 3 rfl
  unfold setV
  simp only [Op.equalIn, Sem.run_bind, run_underlying Try.underlying46, Result.andThen_ok, run_size_u64]
  have e4 : (List.range' 0 4) = [0, 1, 2, 3] := rfl
  simp only [Std.Legacy.Range.forIn_eq_forIn_range', Std.Legacy.Range.size, Nat.sub_zero, Nat.add_sub_cancel, Nat.div_one, e4, List.forIn_cons, List.forIn_nil, Sem.run_bind, p0, h, Result.andThen_ok]
  have hb : ∀ j, ((((wd f j : Nat) : Int)) == ((wd g j : Nat) : Int)) = decide (wd f j = wd g j) := fun j => by
    rw [Bool.eq_iff_iff, beq_iff_eq, decide_eq_true_eq]; omega
  simp only [hb]
  unfold sameS
  by_cases e0 : wd f 0 = wd g 0
  · by_cases e1 : wd f 1 = wd g 1
    · by_cases e2 : wd f 2 = wd g 2
      · by_cases e3 : wd f 3 = wd g 3
        · simp [e0, e1, e2, e3, p1, p2, p3, h, Sem.run_bind]
        · have e5 : ¬ ((wd f 3 : Nat) : Int) = ((wd g 3 : Nat) : Int) := by omega
          simp [e0, e1, e2, e3, e5, p1, p2, p3, h, Sem.run_bind]
      · simp [e0, e1, e2, p1, p2, h, hb, Sem.run_bind]
    · simp [e0, e1, p1, h, hb, Sem.run_bind]
  · simp [e0]

section
variable (w : World) (f g : Nat → Bool)
theorem run_equalIn_set : (Op.equalIn 10000 46 (setV f) (setV g)).run Try.prog w = .ok (sameS f g) w :=
  run_equalIn_set' 9999 (fun a b w => run_equalIn_int w 9998 _ .u64 .u64 a b Try.underlying44) w f g
/-- .. as the walk meets them: the numbers laid open. -/
theorem run_equalIn_lit : (Op.equalIn 10000 46 (.agg #[.int .u64 (wd f 0 : Nat), .int .u64 (wd f 1 : Nat), .int .u64 (wd f 2 : Nat), .int .u64 (wd f 3 : Nat)]) (.agg #[.int .u64 (wd g 0 : Nat), .int .u64 (wd g 1 : Nat), .int .u64 (wd g 2 : Nat), .int .u64 (wd g 3 : Nat)])).run Try.prog w = .ok (sameS f g) w :=
  run_equalIn_set w f g
end
end Go.Proofs.Ytbgalmnhhjiagaa
