/- Two sets compared. -/
import Derived.Test.YtlbfdnejigojhaaClsG
import Derived.Laws.StructEq
namespace Go.Proofs.Ytlbfdnejigojhaa
open Go.RowKit

/-- The two have the same bytes. -/
def sameS (f g : Nat → Bool) : Bool := decide (wd f 0 = wd g 0 ∧ wd f 1 = wd g 1 ∧ wd f 2 = wd g 2 ∧ wd f 3 = wd g 3)
theorem sameS_iff (f g : Nat → Bool) : sameS f g = true ↔ alike f g := by
  unfold sameS
  rw [decide_eq_true_eq]
  exact ⟨fun ⟨h0, h1, h2, h3⟩ => alike_of h0 h1 h2 h3, fun h => ⟨h.wd 0 (by decide), h.wd 1 (by decide), h.wd 2 (by decide), h.wd 3 (by decide)⟩⟩
theorem sameS_of {f g : Nat → Bool} (h : alike f g) : sameS f g = true := (sameS_iff f g).2 h
theorem sameS_not {f g : Nat → Bool} (h : ¬ alike f g) : sameS f g = false := by
  cases hs : sameS f g
  · rfl
  · exact absurd ((sameS_iff f g).1 hs) h

theorem guard_set : Try.prog.eqGuardType Try.prog.depth 24 = false := by kernel_rfl
theorem size_u64 : (Try.prog.info? 22).map (·.size) = some 1 := by kernel_rfl
theorem run_size_u64 (w : World) : (sizeOf 22).run Try.prog w = .ok 1 w := by
  obtain ⟨i, hi, hs⟩ := Option.map_eq_some_iff.1 size_u64
  simp [sizeOf, typeInfo, hi, hs]

theorem run_isAgg_u64 (w : World) : (isAgg 22).run Try.prog w = .ok false w := by
  unfold isAgg
  rw [Sem.run_bind, run_underlying Try.underlying22]
  rfl
theorem run_part_u64 (w : World) (x : Int) (c : Array Value) (i : Nat) (h : c[i]? = some (.int .u64 x)) : (part 22 c (i * 1)).run Try.prog w = .ok (.int .u64 x) w := by
  unfold part
  rw [Sem.run_bind, run_isAgg_u64]
  simp [h]
theorem run_equalIn_set' (D : Nat) (h : ∀ (a b : Int) (w : World), (Op.equalIn D 22 (.int .u64 a) (.int .u64 b)).run Try.prog w = .ok (a == b) w) (w : World) (f g : Nat → Bool) : (Op.equalIn (D + 1) 24 (setV f) (setV g)).run Try.prog w = .ok (sameS f g) w := by
  have p0 := fun (f : Nat → Bool) (w : World) => run_part_u64 w ((wd f 0 : Nat) : Int) (setC f) 0 rfl
  have p1 := fun (f : Nat → Bool) (w : World) => run_part_u64 w ((wd f 1 : Nat) : Int) (setC f) 1 rfl
  have p2 := fun (f : Nat → Bool) (w : World) => run_part_u64 w ((wd f 2 : Nat) : Int) (setC f) 2 rfl
  have p3 := fun (f : Nat → Bool) (w : World) => run_part_u64 w ((wd f 3 : Nat) : Int) (setC f) 3 rfl
  unfold setV
  simp only [Op.equalIn, Sem.run_bind, run_underlying Try.underlying24, Result.andThen_ok, run_size_u64]
  have e4 : (List.range' 0 4) = [0, 1, 2, 3] := rfl
  simp only [Std.Legacy.Range.forIn_eq_forIn_range', Std.Legacy.Range.size, Nat.sub_zero, Nat.add_sub_cancel, Nat.div_one, e4, List.forIn_cons, List.forIn_nil, Sem.run_bind, p0, h, Result.andThen_ok]
  have hb : ∀ j, ((((wd f j : Nat) : Int)) == ((wd g j : Nat) : Int)) = decide (wd f j = wd g j) := fun j => by
    rw [Bool.eq_iff_iff, beq_iff_eq, decide_eq_true_eq]; omega
  simp only [hb]
  unfold sameS
  by_cases e0 : wd f 0 = wd g 0
  · by_cases e1 : wd f 1 = wd g 1
    · by_cases e2 : wd f 2 = wd g 2
      · by_cases e3 : wd f 3 = wd g 3
        · simp [e0, e1, e2, e3, p1, p2, p3, h, Sem.run_bind]
        · have e5 : ¬ ((wd f 3 : Nat) : Int) = ((wd g 3 : Nat) : Int) := by omega
          simp [e0, e1, e2, e3, e5, p1, p2, p3, h, Sem.run_bind]
      · simp [e0, e1, e2, p1, p2, h, hb, Sem.run_bind]
    · simp [e0, e1, p1, h, hb, Sem.run_bind]
  · simp [e0]

section
variable (w : World) (f g : Nat → Bool)
theorem run_equalIn_set : (Op.equalIn 10000 24 (setV f) (setV g)).run Try.prog w = .ok (sameS f g) w :=
  run_equalIn_set' 9999 (fun a b w => run_equalIn_int w 9998 _ .u64 .u64 a b Try.underlying22) w f g
/-- .. as the walk meets them: the numbers laid open. -/
theorem run_equalIn_lit : (Op.equalIn 10000 24 (.agg #[.int .u64 (wd f 0 : Nat), .int .u64 (wd f 1 : Nat), .int .u64 (wd f 2 : Nat), .int .u64 (wd f 3 : Nat)]) (.agg #[.int .u64 (wd g 0 : Nat), .int .u64 (wd g 1 : Nat), .int .u64 (wd g 2 : Nat), .int .u64 (wd g 3 : Nat)])).run Try.prog w = .ok (sameS f g) w :=
  run_equalIn_set w f g
end
end Go.Proofs.Ytlbfdnejigojhaa
