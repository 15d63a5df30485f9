/- Sets in memory; two sets compared. Nodes of regular expressions: as they are, as values, compared; slices of them. -/
import Derived.Test.YtjopmieaikgbcaaProg
import Derived.Test.YtjopmieaikgbcaaM01
import Derived.Lib.Hide
import Derived.IntWalk
import Derived.Deep.QuietTactic
import Derived.BigQuiet
import Derived.WalkSmall
import Derived.Laws.StructEq
import Derived.Deep.MidRow
set_option maxRecDepth 100000
namespace Go.Proofs.Ytjopmieaikgbcaa
open Go.RowKit

/-! ### Sets in memory -/
theorem set_size (f : Nat → Bool) : (Try.prog.info? 51).map (·.size) = some (setC f).size := by kernel_rfl
theorem set_cells (f : Nat → Bool) : (setC f).all (·.oneCell') = true := by simp [setC, Value.oneCell']
theorem set_hold (f g : Nat → Bool) : (setC f).size = (setC g).size := by simp [setC]
theorem setC_none : setC (fun _ => false) = #[.int .u64 0, .int .u64 0, .int .u64 0, .int .u64 0] := by
  unfold setC; rw [wd_none, wd_none, wd_none, wd_none]; rfl
/-- A block that holds a set. -/
def SetAt (w : World) (g : Nat) (f : Nat → Bool) : Prop := w.heap[g]? = some (.cells (setC f) 51 (0, 0))
section
variable {w w' : World} {g : Nat} {f : Nat → Bool}
theorem SetAt.lt (h : SetAt w g f) : g < w.heap.size := by
  unfold SetAt at h
  exact (Array.getElem?_eq_some_iff.1 h).1
theorem SetAt.cell (h : SetAt w g f) (k : Nat) (hk : k = 0 ∨ k = 1 ∨ k = 2 ∨ k = 3) : w.cell? ⟨g, k, none⟩ = some (.int .u64 ((wd f k : Nat) : Int)) := by
  rw [cell_of_row w g k _ _ _ h]
  rcases hk with rfl | rfl | rfl | rfl <;> rfl
theorem SetAt.cell' (h : SetAt w g f) {k : Nat} (hk : k = 0 ∨ k = 1 ∨ k = 2 ∨ k = 3) : w.cell? ⟨g, k, none⟩ = some (.int .u64 ((wd f k : Nat) : Int)) := h.cell k hk
theorem SetAt.thawed (h : SetAt w g f) (k : Nat) : w.frozen? ⟨g, k, none⟩ = false := frozen_of_row w g k _ _ h
theorem SetAt.below {B : Nat} (h : SetAt w g f) (hb : Below B w w') (hg : g < B) : SetAt w' g f := by
  unfold SetAt at h ⊢; rw [hb.block g hg]; exact h
theorem SetAt.put (h : SetAt w g f) (f' : Nat → Bool) : SetAt (w.setRow g (setC f')) g f' := setRow_heap w g _ _ _ _ h
theorem SetAt.put_other {g' : Nat} (h : SetAt w g f) (hne : g ≠ g') (cs : Array Value) : SetAt (w.setRow g' cs) g f := by
  unfold SetAt at h ⊢; rw [setRow_other w g' g cs hne]; exact h
theorem SetAt.set_other {a : Addr} {v : Value} (h : SetAt w g f) (hne : g ≠ a.block) : SetAt (w.setCell a v) g f := by
  unfold SetAt at h ⊢; rw [heap_setCell_other w a g v hne]; exact h
theorem SetAt.alloc (h : SetAt w g f) (o : Obj) : SetAt (w.alloc o) g f := by
  have hl := h.lt
  unfold SetAt at h ⊢; rw [Below.heap_alloc w o g hl]; exact h
theorem below_put {B : Nat} {w0 : World} (hb : Below B w0 w) (hg : B ≤ g) (cs : Array Value) : Below B w0 (w.setRow g cs) :=
  ⟨hb.os, hb.tape, hb.output, by rw [size_setRow]; exact hb.size, fun k hk => by rw [setRow_other w g k cs (by omega)]; exact hb.block k hk⟩
theorem set_new (w : World) (f : Nat → Bool) : SetAt (w.alloc (.cells (setC f) 51)) w.heap.size f := heap_alloc_new _ _
theorem set_zero (w : World) : SetAt (w.alloc (.cells #[.int .u64 0, .int .u64 0, .int .u64 0, .int .u64 0] 51)) w.heap.size (fun _ => false) := by
  have := set_new w (fun _ => false)
  rw [setC_none] at this
  exact this
theorem set_zero_at (w : World) (g : Nat) (hg : g = w.heap.size) : SetAt (w.alloc (.cells #[.int .u64 0, .int .u64 0, .int .u64 0, .int .u64 0] 51)) g (fun _ => false) := hg ▸ set_zero w
theorem SetAt.drew (h : SetAt w g f) (n : Nat) : SetAt (w.drewN n) g f := h
end

/-- The two have the same bytes. -/
def sameS (f g : Nat → Bool) : Bool := decide (wd f 0 = wd g 0 ∧ wd f 1 = wd g 1 ∧ wd f 2 = wd g 2 ∧ wd f 3 = wd g 3)
theorem sameS_iff (f g : Nat → Bool) : sameS f g = true ↔ alike f g := by
  unfold sameS
  rw [decide_eq_true_eq]
  exact ⟨fun ⟨h0, h1, h2, h3⟩ => alike_of h0 h1 h2 h3, fun h => ⟨h.wd 0 (by decide), h.wd 1 (by decide), h.wd 2 (by decide), h.wd 3 (by decide)⟩⟩
theorem sameS_of {f g : Nat → Bool} (h : alike f g) : sameS f g = true := (sameS_iff f g).2 h
theorem sameS_not {f g : Nat → Bool} (h : ¬ alike f g) : sameS f g = false := by
  cases hs : sameS f g
  · rfl
  · exact absurd ((sameS_iff f g).1 hs) h

theorem guard_set : Try.prog.eqGuardType Try.prog.depth 51 = false := by kernel_rfl
theorem size_u64 : (Try.prog.info? 49).map (·.size) = some 1 := by kernel_rfl
theorem run_size_u64 (w : World) : (sizeOf 49).run Try.prog w = .ok 1 w := by
  obtain ⟨i, hi, hs⟩ := Option.map_eq_some_iff.1 size_u64
  simp [sizeOf, typeInfo, hi, hs]

theorem run_isAgg_u64 (w : World) : (isAgg 49).run Try.prog w = .ok false w := by
  unfold isAgg
  rw [Sem.run_bind, run_underlying Try.underlying49]
  rfl
theorem run_part_u64 (w : World) (x : Int) (c : Array Value) (i : Nat) (h : c[i]? = some (.int .u64 x)) : (part 49 c (i * 1)).run Try.prog w = .ok (.int .u64 x) w := by
  unfold part
  rw [Sem.run_bind, run_isAgg_u64]
  simp [h]
theorem run_equalIn_set' (D : Nat) (h : ∀ (a b : Int) (w : World), (Op.equalIn D 49 (.int .u64 a) (.int .u64 b)).run Try.prog w = .ok (a == b) w) (w : World) (f g : Nat → Bool) : (Op.equalIn (D + 1) 51 (setV f) (setV g)).run Try.prog w = .ok (sameS f g) w := by
  have p0 := fun (f : Nat → Bool) (w : World) => run_part_u64 w ((wd f 0 : Nat) : Int) (setC f) 0 rfl
  have p1 := fun (f : Nat → Bool) (w : World) => run_part_u64 w ((wd f 1 : Nat) : Int) (setC f) 1 rfl
  have p2 := fun (f : Nat → Bool) (w : World) => run_part_u64 w ((wd f 2 : Nat) : Int) (setC f) 2 rfl
  have p3 := fun (f : Nat → Bool) (w : World) => run_part_u64 w ((wd f 3 : Nat) : Int) (setC f) 3 rfl
  unfold setV
  simp only [Op.equalIn, Sem.run_bind, run_underlying Try.underlying51, Result.andThen_ok, run_size_u64]
  have e4 : (List.range' 0 4) = [0, 1, 2, 3] := rfl
  simp only [Std.Legacy.Range.forIn_eq_forIn_range', Std.Legacy.Range.size, Nat.sub_zero, Nat.add_sub_cancel, Nat.div_one, e4, List.forIn_cons, List.forIn_nil, Sem.run_bind, p0, h, Result.andThen_ok]
  have hb : ∀ j, ((((wd f j : Nat) : Int)) == ((wd g j : Nat) : Int)) = decide (wd f j = wd g j) := fun j => by
    rw [Bool.eq_iff_iff, beq_iff_eq, decide_eq_true_eq]; omega
  simp only [hb]
  unfold sameS
  by_cases e0 : wd f 0 = wd g 0
  · by_cases e1 : wd f 1 = wd g 1
    · by_cases e2 : wd f 2 = wd g 2
      · by_cases e3 : wd f 3 = wd g 3
        · simp [e0, e1, e2, e3, p1, p2, p3, h, Sem.run_bind]
        · have e5 : ¬ ((wd f 3 : Nat) : Int) = ((wd g 3 : Nat) : Int) := by omega
          simp [e0, e1, e2, e3, e5, p1, p2, p3, h, Sem.run_bind]
      · simp [e0, e1, e2, p1, p2, h, hb, Sem.run_bind]
    · simp [e0, e1, p1, h, hb, Sem.run_bind]
  · simp [e0]

section
variable (w : World) (f g : Nat → Bool)
theorem run_equalIn_set : (Op.equalIn 10000 51 (setV f) (setV g)).run Try.prog w = .ok (sameS f g) w :=
  run_equalIn_set' 9999 (fun a b w => run_equalIn_int w 9998 _ .u64 .u64 a b Try.underlying49) w f g
/-- .. as the walk meets them: the numbers laid open. -/
theorem run_equalIn_lit : (Op.equalIn 10000 51 (.agg #[.int .u64 (wd f 0 : Nat), .int .u64 (wd f 1 : Nat), .int .u64 (wd f 2 : Nat), .int .u64 (wd f 3 : Nat)]) (.agg #[.int .u64 (wd g 0 : Nat), .int .u64 (wd g 1 : Nat), .int .u64 (wd g 2 : Nat), .int .u64 (wd g 3 : Nat)])).run Try.prog w = .ok (sameS f g) w :=
  run_equalIn_set w f g
end
end Go.Proofs.Ytjopmieaikgbcaa

set_option maxRecDepth 100000
namespace Go.Proofs.Ytjopmieaikgbcaa
open Go.RowKit

/-- A node. -/
structure Nod where
  kind : Int
  a : Int
  b : Int
  lo : Int
  hi : Int
  grp : Int
  set : Nat → Bool
def zset : Nat → Bool := fun _ => false
def nodL (n : Nod) : List Value := [.int .i64 n.kind, .int .i64 n.a, .int .i64 n.b, .int .i64 n.lo, .int .i64 n.hi, .int .i64 n.grp, .int .u64 (wd n.set 0 : Nat), .int .u64 (wd n.set 1 : Nat), .int .u64 (wd n.set 2 : Nat), .int .u64 (wd n.set 3 : Nat)]
def nodC (n : Nod) : Array Value := (nodL n).toArray
def nodV (n : Nod) : Value := .agg (nodC n)
theorem nodL_len (n : Nod) : (nodL n).length = 10 := rfl
theorem nodC_size (n : Nod) : (nodC n).size = 10 := rfl
theorem nod_one (n : Nod) : ∀ v ∈ nodL n, v.oneCell' = true := by simp [nodL, Value.oneCell']
theorem nod_cells (n : Nod) : (nodC n).all (·.oneCell') = true := all_oneCell_toArray (nod_one n)
/-- The two have the same cells. -/
noncomputable def sameN (n m : Nod) : Bool := @decide (nodL n = nodL m) (Classical.propDecidable _)
theorem sameN_iff (n m : Nod) : sameN n m = true ↔ nodL n = nodL m := by unfold sameN; exact @decide_eq_true_iff _ (Classical.propDecidable _)
theorem sameN_self (n : Nod) : sameN n n = true := (sameN_iff n n).2 rfl
theorem nodL_iff (n m : Nod) : nodL n = nodL m ↔ n.kind = m.kind ∧ n.a = m.a ∧ n.b = m.b ∧ n.lo = m.lo ∧ n.hi = m.hi ∧ n.grp = m.grp ∧ sameS n.set m.set = true := by
  have hb : ∀ k, (((wd n.set k : Nat) : Int) = ((wd m.set k : Nat) : Int)) ↔ wd n.set k = wd m.set k := fun k => by omega
  simp only [nodL, List.cons.injEq, Value.int.injEq, true_and, and_true, hb]
  unfold sameS
  rw [decide_eq_true_eq]
theorem sameN_and (n m : Nod) : sameN n m = (decide (n.kind = m.kind) && (decide (n.a = m.a) && (decide (n.b = m.b) && (decide (n.lo = m.lo) && (decide (n.hi = m.hi) && (decide (n.grp = m.grp) && sameS n.set m.set)))))) := by
  rw [Bool.eq_iff_iff, sameN_iff, nodL_iff]
  simp only [Bool.and_eq_true, decide_eq_true_eq]

/-! ### Two nodes compared -/
theorem size_nod : (Try.prog.info? 54).map (·.size) = some 10 := by kernel_rfl
theorem nod_size (n : Nod) : (Try.prog.info? 54).map (·.size) = some (nodC n).size := size_nod
theorem guard_nod : Try.prog.eqGuardType Try.prog.depth 54 = false := by kernel_rfl
theorem part_int (w : World) (n : Nod) (k : Nat) (x : Int) (h : (nodC n)[k]? = some (.int .i64 x)) : (part 3 (nodC n) k).run Try.prog w = .ok (.int .i64 x) w := by
  unfold part
  have e : (isAgg 3).run Try.prog w = .ok false w := by
    unfold isAgg
    rw [Sem.run_bind, run_underlying Try.underlying3]
    rfl
  rw [Sem.run_bind, e]
  simp [h]
theorem part_set (w : World) (n : Nod) : (part 51 (nodC n) 6).run Try.prog w = .ok (setV n.set) w := by
  unfold part
  have e : (isAgg 51).run Try.prog w = .ok true w := by
    unfold isAgg
    rw [Sem.run_bind, run_underlying Try.underlying51]
    rfl
  have hs : (sizeOf 51).run Try.prog w = .ok 4 w := by
    obtain ⟨i, hi, hs⟩ := Option.map_eq_some_iff.1 (set_size n.set)
    simp [sizeOf, typeInfo, hi, hs, setC]
  rw [Sem.run_bind, e]
  simp only [Result.andThen_ok, if_true, Sem.run_bind, hs]
  simp [nodC, nodL, setV, setC]
/-- What the comparison of two structs asks of the list of fields. -/
def fldK (f : Field) : Bool × TypeId × Nat := (f.name != "_", f.type, f.offset)
theorem eqFields_cons (P : Program) (d : Nat) (xs ys : Array Value) (f : Field) (fs : List Field) (t : TypeId) (o : Nat) (h : fldK f = (true, t, o)) (a b : Value) (r : Bool) (w : World) (ha : (part t xs o).run P w = .ok a w) (hb : (part t ys o).run P w = .ok b w)
    (hr : (Op.equalIn d t a b).run P w = .ok r w) : (Op.eqFields d xs ys (f :: fs)).run P w = if r then (Op.eqFields d xs ys fs).run P w else .ok false w := by
  simp only [fldK, Prod.mk.injEq, bne_iff_ne] at h
  obtain ⟨h1, h2, h3⟩ := h
  subst h2
  subst h3
  simp only [Op.eqFields, if_pos h1, Sem.run_bind, ha, hb, hr, Result.andThen_ok]
  cases r <;> simp
theorem flds_nod : (Try.prog.fieldsOf 54).toList.map fldK = [(true, 3, 0), (true, 3, 1), (true, 3, 2), (true, 3, 3), (true, 3, 4), (true, 3, 5), (true, 51, 6)] := by kernel_rfl
theorem under_nod : Try.prog.underlying 54 = some (.struct (Try.prog.fieldsOf 54)) := by kernel_rfl
theorem stood_nod : Try.prog.stoodInHeld 54 = false := by kernel_rfl
theorem int_beq (a b : Int) : (a == b) = decide (a = b) := by rw [Bool.eq_iff_iff, beq_iff_eq, decide_eq_true_eq]
theorem run_equalIn_nod (w : World) (n m : Nod) : (Op.equalIn 10000 54 (nodV n) (nodV m)).run Try.prog w = .ok (sameN n m) w := by
  unfold nodV
  rw [run_equalIn_struct w 9999 _ _ _ under_nod stood_nod, sameN_and]
  have hf := flds_nod
  generalize (Try.prog.fieldsOf 54).toList = L at hf
  match L, (show L.length = 7 by have := congrArg List.length hf; simpa using this), hf with
  | [f0, f1, f2, f3, f4, f5, f6], _, hf =>
    simp only [List.map_cons, List.map_nil, List.cons.injEq, and_true] at hf
    obtain ⟨h0, h1, h2, h3, h4, h5, h6⟩ := hf
    have hi : ∀ a b : Int, (Op.equalIn 9999 3 (.int .i64 a) (.int .i64 b)).run Try.prog w = .ok (decide (a = b)) w := fun a b => by
      rw [← int_beq]; exact run_equalIn_int w 9998 _ .i64 .i64 a b Try.underlying3
    rw [eqFields_cons Try.prog 9999 _ _ f0 _ _ _ h0 _ _ _ w (part_int w n 0 n.kind rfl) (part_int w m 0 m.kind rfl) (hi _ _)]
    rw [eqFields_cons Try.prog 9999 _ _ f1 _ _ _ h1 _ _ _ w (part_int w n 1 n.a rfl) (part_int w m 1 m.a rfl) (hi _ _)]
    rw [eqFields_cons Try.prog 9999 _ _ f2 _ _ _ h2 _ _ _ w (part_int w n 2 n.b rfl) (part_int w m 2 m.b rfl) (hi _ _)]
    rw [eqFields_cons Try.prog 9999 _ _ f3 _ _ _ h3 _ _ _ w (part_int w n 3 n.lo rfl) (part_int w m 3 m.lo rfl) (hi _ _)]
    rw [eqFields_cons Try.prog 9999 _ _ f4 _ _ _ h4 _ _ _ w (part_int w n 4 n.hi rfl) (part_int w m 4 m.hi rfl) (hi _ _)]
    rw [eqFields_cons Try.prog 9999 _ _ f5 _ _ _ h5 _ _ _ w (part_int w n 5 n.grp rfl) (part_int w m 5 m.grp rfl) (hi _ _)]
    rw [eqFields_cons Try.prog 9999 _ _ f6 _ _ _ h6 _ _ _ w (part_set w n) (part_set w m) (run_equalIn_set' 9998 (fun a b w => run_equalIn_int w 9997 _ .u64 .u64 a b Try.underlying49) w n.set m.set)]
    simp only [Op.eqFields, Sem.run_pure]
    cases decide (n.kind = m.kind) <;> cases decide (n.a = m.a) <;> cases decide (n.b = m.b) <;> cases decide (n.lo = m.lo) <;> cases decide (n.hi = m.hi) <;> cases decide (n.grp = m.grp) <;> cases sameS n.set m.set <;> rfl
theorem nod_eql (w : World) (n m : Nod) : (binOp .eql 54 (nodV n) (nodV m)).run Try.prog w = .ok (.bool (sameN n m)) w :=
  (run_eql_struct w _ _ _).trans (by have := run_equalIn_nod w n m; unfold nodV at this; rw [this]; rfl)
theorem nod_neq (w : World) (n m : Nod) : (binOp .neq 54 (nodV n) (nodV m)).run Try.prog w = .ok (.bool (!sameN n m)) w :=
  (run_neq_struct w _ _ _).trans (by have := run_equalIn_nod w n m; unfold nodV at this; rw [this]; rfl)
theorem nod_guard (w : World) (op : BinOp) (x y : Operand) (n m : Nod) : (eqGuard op 54 x y (nodV n) (nodV m)).run Try.prog w = .ok () w := run_eqGuard_agg w op _ x y _ _ guard_nod

/-! ### Slices of nodes -/
/-- In the world w the slice that begins at A holds the nodes ns, ten cells each, all below block B. -/
def Nods (w : World) (B : Nat) (A : Option Addr) (ns : List Nod) : Prop :=
  ∀ (k : Nat) (h : k < ns.length), ∃ ad, A = some ad ∧ ad.block < B ∧ ∀ j u, (nodL (ns[k]'h))[j]? = some u → w.cell? (ad.add (k * 10 + j)) = some u
section
variable {w w' : World} {B B' : Nat} {A : Option Addr} {ns : List Nod}
theorem spot_none {a : Addr} {v : Value} (h : w.cell? a = some v) : a.spot = none := by
  unfold World.cell? at h
  split at h
  · split at h
    · cases h
    · simpa using ‹¬ a.spot.isSome = true›
  · cases h
theorem Nods.at_ (h : Nods w B A ns) {k : Nat} (hk : k < ns.length) : ∃ ad b o, A = some ad ∧ ad.add (k * 10) = ⟨b, o, none⟩ ∧ b < B ∧ w.rangeAt b o (nodL (ns[k]'hk)) := by
  obtain ⟨ad, h1, h2, h3⟩ := h k hk
  have h0 := spot_none (h3 0 _ rfl)
  rw [Nat.add_zero] at h0
  have e : ad.add (k * 10) = ⟨(ad.add (k * 10)).block, (ad.add (k * 10)).off, none⟩ := by rw [← h0]
  refine ⟨ad, _, _, h1, e, by rw [block_add]; exact h2, fun j u hj => ?_⟩
  rw [← Addr.add_mid, ← e, add_two]
  exact h3 j u hj
theorem Nods.keep (h : Nods w B A ns) (hk : ∀ p : Addr, p.block < B → w'.cell? p = w.cell? p) : Nods w' B A ns := by
  intro k hlt
  obtain ⟨ad, hA, hb, hc⟩ := h k hlt
  exact ⟨ad, hA, hb, fun j u hj => (hk _ (by rw [block_add]; exact hb)).trans (hc j u hj)⟩
theorem Nods.below (h : Nods w B A ns) (hb : Below B w w') : Nods w' B A ns := h.keep fun _ hp => hb.cell hp
theorem Nods.more (h : Nods w B A ns) (hB : B ≤ B') : Nods w B' A ns := fun k hk =>
  let ⟨ad, hA, hb, hc⟩ := h k hk; ⟨ad, hA, Nat.lt_of_lt_of_le hb hB, hc⟩
theorem Nods.none_ (w : World) (B : Nat) (A : Option Addr) : Nods w B A [] := fun _ h => absurd h (by simp)
theorem Nods.take (h : Nods w B A ns) (m : Nat) : Nods w B A (ns.take m) := fun k hk => by
  rw [List.length_take] at hk
  obtain ⟨ad, hA, hb, hc⟩ := h k (by omega)
  exact ⟨ad, hA, hb, fun j u hj => hc j u (by rw [List.getElem_take] at hj; exact hj)⟩
/-- The cells of nodes, one behind the other. -/
def nodsL (ns : List Nod) : List Value := ns.flatMap nodL
theorem nodsL_len (ns : List Nod) : (nodsL ns).length = ns.length * 10 := by
  induction ns with
  | nil => rfl
  | cons n ns ih => simp only [nodsL, List.flatMap_cons, List.length_append, List.length_cons] at ih ⊢; rw [ih, nodL_len]; omega
theorem nodsL_append (ns ms : List Nod) : nodsL (ns ++ ms) = nodsL ns ++ nodsL ms := by simp [nodsL]
theorem nodsL_one (ns : List Nod) : ∀ u ∈ nodsL ns, u.oneCell' = true := by
  intro u hu
  obtain ⟨n, _, h⟩ := List.mem_flatMap.1 hu
  exact nod_one n u h
theorem nodsL_at (ns : List Nod) (k j : Nat) (hk : k < ns.length) (hj : j < 10) : (nodsL ns)[k * 10 + j]? = (nodL (ns[k]'hk))[j]? := by
  induction ns generalizing k with
  | nil => simp at hk
  | cons n ns ih =>
    cases k with
    | zero => simp only [nodsL, List.flatMap_cons, Nat.zero_mul, Nat.zero_add, List.getElem_cons_zero]; rw [List.getElem?_append_left (by rw [nodL_len]; exact hj)]
    | succ k =>
      have hk' : k < ns.length := by simpa using hk
      have e : nodsL (n :: ns) = nodL n ++ nodsL ns := by simp [nodsL]
      rw [e, List.getElem?_append_right (by rw [nodL_len]; omega), nodL_len, show (k + 1) * 10 + j - 10 = k * 10 + j by omega, ih k hk']
      rfl
/-- A value that owns the nodes is a slice that holds them. -/
theorem own_nods {base : Nat} {v : Value} {n : Nat} (h : w.ownsRow base 54 10 v n (nodsL ns)) :
    ∃ A cap, v = .slice A n cap ∧ n = ns.length ∧ n ≤ cap ∧ cap ≤ maxLen ∧ Nods w w.heap.size A ns := by
  have hl := h.1
  rw [nodsL_len] at hl
  obtain ⟨-, ⟨rfl, rfl⟩ | ⟨g, cap, cur, rfl, _, hh, hnc, hcm, hsz, htake⟩⟩ := id h
  · have : ns = [] := by cases ns with | nil => rfl | cons _ _ => simp at hl
    subst this
    exact ⟨none, 0, rfl, rfl, Nat.le_refl _, by simp [maxLen], Nods.none_ _ _ _⟩
  · refine ⟨some ⟨g, 0, none⟩, cap, rfl, by omega, hnc, hcm, fun k hk => ⟨_, rfl, (h.lt g rfl).2, fun j u hj => ?_⟩⟩
    have hj10 : j < 10 := by have := (List.getElem?_eq_some_iff.1 hj).1; rwa [nodL_len] at this
    rw [add_zero_off, h.cellAt (k * 10 + j) (by omega), nodsL_at ns k j hk hj10, hj]
end
end Go.Proofs.Ytjopmieaikgbcaa
