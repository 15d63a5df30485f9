/- Spans, ten spans, hits, points of a relation: compared. -/
import Derived.Test.YtbgalmnhhjiagaaM24
import Derived.Test.YtbgalmnhhjiagaaM05
set_option linter.unusedVariables false
set_option maxRecDepth 100000
namespace Go.Proofs.Ytbgalmnhhjiagaa
open Go.RowKit

theorem run_equalIn_array {P : Program} (w : World) (d : Nat) (t elem : TypeId) (len n : Nat) (xs ys : Array Value) (ht : P.underlying t = some (.array len elem)) (hn : (sizeOf elem).run P w = .ok n w) (x y : Nat → Value) (r : Nat → Bool)
    (hx : ∀ i, i < len → (part elem xs (i * n)).run P w = .ok (x i) w) (hy : ∀ i, i < len → (part elem ys (i * n)).run P w = .ok (y i) w) (hr : ∀ i, i < len → (Op.equalIn d elem (x i) (y i)).run P w = .ok (r i) w) :
    (Op.equalIn (d + 1) t (.agg xs) (.agg ys)).run P w = .ok ((List.range' 0 len).all r) w := by
  simp only [Op.equalIn, Sem.run_bind, run_underlying ht, Result.andThen_ok, hn]
  simp only [Std.Legacy.Range.forIn_eq_forIn_range', Std.Legacy.Range.size, Nat.sub_zero, Nat.add_sub_cancel, Nat.div_one]
  have hL : ∀ i ∈ List.range' 0 len, i < len := fun i hi => by
    rw [List.mem_range'] at hi
    omega
  generalize List.range' 0 len = L at *
  induction L with
  | nil => simp
  | cons i L ih =>
    have hi := hL i List.mem_cons_self
    have ih' := ih fun j hj => hL j (List.mem_cons_of_mem _ hj)
    simp only [List.forIn_cons, Sem.run_bind, hx i hi, hy i hi, hr i hi, Result.andThen_ok, List.all_cons]
    cases hri : r i
    · simp only [Bool.not_false, if_true, Sem.run_pure, Result.andThen_ok, Bool.false_and]
    · simp only [Bool.not_true, Bool.false_eq_true, if_false, Sem.run_pure, Result.andThen_ok, Bool.true_and]
      exact ih'
/-- A part that is a struct or an array. -/
theorem run_part_agg {P : Program} (w : World) (t : TypeId) (n : Nat) (d : TypeDesc) (c : Array Value) (o : Nat) (hu : P.underlying t = some d) (hd : d.isRow = true) (hi : (P.info? t).map (·.size) = some n) : (part t c o).run P w = .ok (.agg (c.extract o (o + n))) w := by
  obtain ⟨i, h1, h2⟩ := Option.map_eq_some_iff.1 hi
  have e : (isAgg t).run P w = .ok true w := by
    unfold isAgg
    rw [Sem.run_bind, run_underlying hu]
    cases d <;> first | rfl | cases hd
  have hs : (sizeOf t).run P w = .ok n w := by simp [sizeOf, typeInfo, h1, h2]
  unfold part
  rw [Sem.run_bind, e]
  simp only [Result.andThen_ok, if_true, Sem.run_bind, hs]
  simp
theorem run_part_int (w : World) (c : Array Value) (o : Nat) (x : Int) (h : c[o]? = some (.int .i64 x)) : (part 3 c o).run Try.prog w = .ok (.int .i64 x) w := by
  unfold part
  have e : (isAgg 3).run Try.prog w = .ok false w := by
    unfold isAgg
    rw [Sem.run_bind, run_underlying Try.underlying3]
    rfl
  rw [Sem.run_bind, e]
  simp [h]

/-! ### Spans -/
theorem size_span : (Try.prog.info? 28).map (·.size) = some 2 := by kernel_rfl
theorem under_span : Try.prog.underlying 28 = some (.struct (Try.prog.fieldsOf 28)) := by kernel_rfl
theorem stood_span : Try.prog.stoodInHeld 28 = false := by kernel_rfl
theorem flds_span : (Try.prog.fieldsOf 28).toList.map fldK = [(true, 3, 0), (true, 3, 1)] := by kernel_rfl
theorem guard_span : Try.prog.eqGuardType Try.prog.depth 28 = false := by kernel_rfl
theorem run_equalIn_span (d : Nat) (w : World) (x y : Int × Int) : (Op.equalIn (d + 2) 28 (spnV x) (spnV y)).run Try.prog w = .ok (decide (x = y)) w := by
  unfold spnV
  rw [run_equalIn_struct w (d + 1) _ _ _ under_span stood_span]
  have hf := flds_span
  generalize (Try.prog.fieldsOf 28).toList = L at hf
  match L, (show L.length = 2 by have := congrArg List.length hf; simpa using this), hf with
  | [f0, f1], _, hf =>
    simp only [List.map_cons, List.map_nil, List.cons.injEq, and_true] at hf
    obtain ⟨h0, h1⟩ := hf
    have hi : ∀ a b : Int, (Op.equalIn (d + 1) 3 (.int .i64 a) (.int .i64 b)).run Try.prog w = .ok (decide (a = b)) w := fun a b => by
      rw [← int_beq]; exact run_equalIn_int w d _ .i64 .i64 a b Try.underlying3
    rw [eqFields_cons Try.prog (d + 1) _ _ f0 _ _ _ h0 _ _ _ w (run_part_int w _ 0 x.1 rfl) (run_part_int w _ 0 y.1 rfl) (hi _ _)]
    rw [eqFields_cons Try.prog (d + 1) _ _ f1 _ _ _ h1 _ _ _ w (run_part_int w _ 1 x.2 rfl) (run_part_int w _ 1 y.2 rfl) (hi _ _)]
    simp only [Op.eqFields, Sem.run_pure]
    have e : decide (x = y) = (decide (x.1 = y.1) && decide (x.2 = y.2)) := by
      rw [Bool.eq_iff_iff]; simp [Prod.ext_iff]
    rw [e]
    cases decide (x.1 = y.1) <;> cases decide (x.2 = y.2) <;> rfl
theorem span_eql (w : World) (x y : Int × Int) : (binOp .eql 28 (spnV x) (spnV y)).run Try.prog w = .ok (.bool (decide (x = y))) w :=
  (run_eql_struct w _ _ _).trans (by have := run_equalIn_span 9998 w x y; unfold spnV at this; rw [this]; rfl)
theorem span_neq (w : World) (x y : Int × Int) : (binOp .neq 28 (spnV x) (spnV y)).run Try.prog w = .ok (.bool (!decide (x = y))) w :=
  (run_neq_struct w _ _ _).trans (by have := run_equalIn_span 9998 w x y; unfold spnV at this; rw [this]; rfl)
theorem span_guard (w : World) (op : BinOp) (p q : Operand) (x y : Int × Int) : (eqGuard op 28 p q (spnV x) (spnV y)).run Try.prog w = .ok () w := run_eqGuard_agg w op _ p q _ _ guard_span

/-! ### Ten spans -/
noncomputable def same10B (a b : Spn) : Bool := @decide (same10 a b) (Classical.propDecidable _)
theorem same10B_iff (a b : Spn) : same10B a b = true ↔ same10 a b := by unfold same10B; exact @decide_eq_true_iff _ (Classical.propDecidable _)
theorem hit_part (s : Spn) {i : Nat} (h : i < 10) : (hitC s).extract (i * 2) (i * 2 + 2) = #[.int .i64 (s i).1, .int .i64 (s i).2] := by
  have : i = 0 ∨ i = 1 ∨ i = 2 ∨ i = 3 ∨ i = 4 ∨ i = 5 ∨ i = 6 ∨ i = 7 ∨ i = 8 ∨ i = 9 := by omega
  rcases this with rfl | rfl | rfl | rfl | rfl | rfl | rfl | rfl | rfl | rfl <;> rfl
theorem all10 (a b : Spn) : (List.range' 0 10).all (fun i => decide (a i = b i)) = same10B a b := by
  rw [Bool.eq_iff_iff, same10B_iff, List.all_eq_true]
  constructor
  · intro h g hg
    have := h g (by rw [List.mem_range']; exact ⟨g, hg, by omega⟩)
    simpa using this
  · intro h i hi
    rw [List.mem_range'] at hi
    obtain ⟨j, hj, rfl⟩ := hi
    simpa using h (0 + 1 * j) (by omega)
theorem run_equalIn_ten (d : Nat) (w : World) (a b : Spn) : (Op.equalIn (d + 3) 29 (hitV a) (hitV b)).run Try.prog w = .ok (same10B a b) w := by
  rw [← all10]
  have hs : (sizeOf 28).run Try.prog w = .ok 2 w := by
    obtain ⟨i, h1, h2⟩ := Option.map_eq_some_iff.1 size_span
    simp [sizeOf, typeInfo, h1, h2]
  exact run_equalIn_array w (d + 2) _ 28 10 2 (hitC a) (hitC b) Try.underlying29 hs (fun i => spnV (a i)) (fun i => spnV (b i)) _
    (fun i hi => by rw [run_part_agg w _ 2 _ _ _ under_span rfl size_span, hit_part a hi]; rfl) (fun i hi => by rw [run_part_agg w _ 2 _ _ _ under_span rfl size_span, hit_part b hi]; rfl) (fun i hi => run_equalIn_span d w _ _)

/-! ### Hits -/
theorem size_ten : (Try.prog.info? 29).map (·.size) = some 20 := by kernel_rfl
theorem size_hit : (Try.prog.info? 31).map (·.size) = some 20 := by kernel_rfl
theorem under_hit : Try.prog.underlying 31 = some (.struct (Try.prog.fieldsOf 31)) := by kernel_rfl
theorem stood_hit : Try.prog.stoodInHeld 31 = false := by kernel_rfl
theorem flds_hit : (Try.prog.fieldsOf 31).toList.map fldK = [(true, 29, 0)] := by kernel_rfl
theorem guard_hit : Try.prog.eqGuardType Try.prog.depth 31 = false := by kernel_rfl
theorem run_equalIn_hit (d : Nat) (w : World) (a b : Spn) : (Op.equalIn (d + 4) 31 (hitV a) (hitV b)).run Try.prog w = .ok (same10B a b) w := by
  have h10 := run_equalIn_ten d w a b
  unfold hitV at h10 ⊢
  rw [run_equalIn_struct w (d + 3) _ _ _ under_hit stood_hit]
  have hf := flds_hit
  generalize (Try.prog.fieldsOf 31).toList = L at hf
  match L, (show L.length = 1 by have := congrArg List.length hf; simpa using this), hf with
  | [f0], _, hf =>
    simp only [List.map_cons, List.map_nil, List.cons.injEq, and_true] at hf
    have e : ∀ s : Spn, (hitC s).extract 0 (0 + 20) = hitC s := fun s => by
      have h := hitC_size s
      rw [Nat.zero_add]
      generalize hitC s = c at *
      rw [← h]
      simp
    rw [eqFields_cons Try.prog (d + 3) _ _ f0 _ _ _ hf _ _ _ w (run_part_agg w _ 20 _ _ _ Try.underlying29 rfl size_ten) (run_part_agg w _ 20 _ _ _ Try.underlying29 rfl size_ten) (by rw [e, e]; exact h10)]
    simp only [Op.eqFields, Sem.run_pure]
    cases same10B a b <;> rfl
theorem run_equalIn_hit0 (w : World) (a b : Spn) : (Op.equalIn 10000 31 (.agg (hitC a)) (.agg (hitC b))).run Try.prog w = .ok (same10B a b) w := run_equalIn_hit 9996 w a b
theorem hit_eql (w : World) (a b : Spn) : (binOp .eql 31 (hitV a) (hitV b)).run Try.prog w = .ok (.bool (same10B a b)) w := by
  have h := run_equalIn_hit0 w a b
  unfold hitV
  generalize hitC a = x at *
  generalize hitC b = y at *
  exact (run_eql_struct w _ _ _).trans (by rw [h]; rfl)
theorem hit_neq (w : World) (a b : Spn) : (binOp .neq 31 (hitV a) (hitV b)).run Try.prog w = .ok (.bool (!same10B a b)) w := by
  have h := run_equalIn_hit0 w a b
  unfold hitV
  generalize hitC a = x at *
  generalize hitC b = y at *
  exact (run_neq_struct w _ _ _).trans (by rw [h]; rfl)
theorem hit_guard (w : World) (op : BinOp) (p q : Operand) (a b : Spn) : (eqGuard op 31 p q (hitV a) (hitV b)).run Try.prog w = .ok () w := run_eqGuard_agg w op _ p q _ _ guard_hit
theorem same10B_self (a : Spn) : same10B a a = true := (same10B_iff _ _).2 fun _ _ => rfl
end Go.Proofs.Ytbgalmnhhjiagaa
