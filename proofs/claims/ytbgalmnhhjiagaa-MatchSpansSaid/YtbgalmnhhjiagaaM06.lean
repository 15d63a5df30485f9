/- A block whose cells are known, all of them; nothing here speaks of a program. Contracts: slices.Equal at nodes, tree.Same, the reference's Same. -/
import Derived.Test.YtbgalmnhhjiagaaM02
import Derived.Laws.Rows
import Derived.Laws.OwnMore
import Derived.Deep.MidRow
import Derived.Test.YtbgalmnhhjiagaaM05
set_option maxRecDepth 100000
namespace Go.Proofs.Ytbgalmnhhjiagaa
open Go.RowKit

/-- Block g is these cells, of that type, and may be written. -/
def Held (w : World) (g : Nat) (t : TypeId) (cs : Array Value) : Prop := w.heap[g]? = some (.cells cs t (0, 0))
section
variable {w w' : World} {g g' : Nat} {t t' : TypeId} {cs cs' : Array Value}
theorem Held.lt (h : Held w g t cs) : g < w.heap.size := (Array.getElem?_eq_some_iff.1 h).1
theorem Held.at_ (h : Held w g t cs) {i : Nat} {v : Value} (hv : cs[i]? = some v) : w.cell? ⟨g, i, none⟩ = some v := by rw [cell_of_row w g i cs t (0, 0) h]; exact hv
theorem Held.thawed (h : Held w g t cs) (i : Nat) : w.frozen? ⟨g, i, none⟩ = false := frozen_of_row w g i cs t h
theorem Held.drew (h : Held w g t cs) : Held w.drew g t cs := h
theorem Held.drewN (h : Held w g t cs) (n : Nat) : Held (w.drewN n) g t cs := h
theorem Held.alloc (h : Held w g t cs) (o : Obj) : Held (w.alloc o) g t cs := (Below.heap_alloc w o g h.lt).trans h
theorem Held.below {B : Nat} (h : Held w g t cs) (hb : Below B w w') (hg : g < B) : Held w' g t cs := (hb.block g hg).trans h
theorem Held.keep (h : Held w g t cs) (hb : Below w.heap.size w w') : Held w' g t cs := h.below hb h.lt
theorem Held.far {a : Addr} (h : Held w g t cs) (hne : g ≠ a.block) (v : Value) : Held (w.setCell a v) g t cs := (heap_setCell_other w a g v hne).trans h
theorem Held.put (h : Held w g t cs) (i : Nat) (v : Value) : Held (w.setCell ⟨g, i, none⟩ v) g t (cs.setIfInBounds i v) := heap_setCell_same w g i cs t v h
theorem Held.row (h : Held w g t cs) (cs' : Array Value) : Held (w.setRow g cs') g t cs' := setRow_heap w g _ _ _ _ h
theorem Held.row_far (h : Held w g t cs) (hne : g ≠ g') (cs' : Array Value) : Held (w.setRow g' cs') g t cs := (setRow_other w g' g cs' hne).trans h
theorem Held.grown {r : Option Nat} (h : Held w g t cs) (hg : w.grownBy w' r) (hne : some g ≠ r) : Held w' g t cs := (hg.block g h.lt hne).trans h
theorem Held.range (h : Held w g t cs) : w.rangeAt g 0 cs.toList := fun j v hj => by rw [Nat.zero_add]; exact h.at_ (by simpa using hj)
theorem held_new (w : World) (t : TypeId) (cs : Array Value) : Held (w.alloc (.cells cs t)) w.heap.size t cs := heap_alloc_new w _
theorem held_new2 (w : World) (o : Obj) (t : TypeId) (cs : Array Value) : Held ((w.alloc o).alloc (.cells cs t)) (w.heap.size + 1) t cs := heap_alloc2_new w o _
theorem Held.apart (h : Held w g t cs) (h' : Held w g' t' cs') (hne : t ≠ t') : g ≠ g' := by
  rintro rfl
  unfold Held at h h'
  rw [h] at h'
  injection h' with h'
  injection h' with _ h'
  exact hne h'
theorem Held.not_own {base : Nat} {e : TypeId} {size n : Nat} {v : Value} {xs : List Value} (h : Held w g t cs) (ho : w.ownsRow base e size v n xs) (hne : e ≠ t) : v.ownBlock ≠ some g := by
  intro hv
  rcases ho.2 with ⟨rfl, _⟩ | ⟨g', cap, cur, rfl, _, hh, _⟩
  · cases hv
  · have e1 : g' = g := by simpa [Value.ownBlock] using hv
    subst e1
    exact Held.apart (t := e) hh h hne rfl
theorem sizeA' (w : World) (o : Obj) : (w.alloc o).heap.size = w.heap.size + 1 := by simp
theorem below_row {B : Nat} {w0 : World} (hb : Below B w0 w) (hg : B ≤ g) (cs : Array Value) : Below B w0 (w.setRow g cs) :=
  ⟨hb.os, hb.tape, hb.output, by rw [size_setRow]; exact hb.size, fun k hk => by rw [setRow_other w g k cs (by omega)]; exact hb.block k hk⟩
end
/-- Two results, the first in a block. -/
theorem results_cell_two {P : Program} {fn : Func} {p q : Tmp} {ty : TypeId} (h : fn.results = #[.cell p ty, .tmp q]) (tmps : Array Value) (w : World) (g : Nat) (t : TypeId) (cs : Array Value) (fr : Nat × Nat) (d : TypeDesc)
    (hp : tmps.getD p undef = .pointer (some ⟨g, 0, none⟩)) {x : Value} (hx : tmps.getD q undef = x) (hg : w.heap[g]? = some (.cells cs t fr))
    (hu : P.underlying ty = some d) (hd : (match d with | .struct _ | .array _ _ => true | _ => false) = true) (hi : (P.info? ty).map (·.size) = some cs.size) :
    (results fn tmps).run P w = .ok (.tuple #[.agg cs, x]) w := by
  have hp' : tmps[p]?.getD undef = .pointer (some ⟨g, 0, none⟩) := by simpa using hp
  have hx' : tmps[q]?.getD undef = x := by simpa using hx
  simp [results, h, hp', hx', asAddr, run_loadVar_row w g t ty cs fr d hg hu hd hi]
end Go.Proofs.Ytbgalmnhhjiagaa

set_option maxRecDepth 100000
namespace Go.Proofs.Ytbgalmnhhjiagaa
open Go.RowKit

/-- The two have the same nodes, one by one. -/
noncomputable def sameNs (l m : List Nod) : Bool := @decide (l.map nodL = m.map nodL) (Classical.propDecidable _)
theorem sameNs_iff (l m : List Nod) : sameNs l m = true ↔ l.map nodL = m.map nodL := by unfold sameNs; exact @decide_eq_true_iff _ (Classical.propDecidable _)
theorem sameNs_self (l : List Nod) : sameNs l l = true := (sameNs_iff l l).2 rfl
theorem sameNs_not {l m : List Nod} (h : ¬ l.map nodL = m.map nodL) : sameNs l m = false := by
  cases hs : sameNs l m
  · rfl
  · exact absurd ((sameNs_iff l m).1 hs) h
theorem sameNs_len {l m : List Nod} (h : l.length ≠ m.length) : sameNs l m = false := sameNs_not fun e => h (by simpa using congrArg List.length e)
theorem sameNs_at {l m : List Nod} {k : Nat} (h1 : k < l.length) (h2 : k < m.length) (h : sameN (l[k]'h1) (m[k]'h2) = false) : sameNs l m = false := sameNs_not fun e => by
  have h3 : (l.map nodL)[k]? = (m.map nodL)[k]? := by rw [e]
  rw [List.getElem?_map, List.getElem?_map, List.getElem?_eq_getElem h1, List.getElem?_eq_getElem h2] at h3
  have h4 : nodL (l[k]'h1) = nodL (m[k]'h2) := by simpa using h3
  rw [(sameN_iff _ _).2 h4] at h
  cases h
theorem sameNs_all {l m : List Nod} (hl : l.length = m.length) (h : ∀ j (h1 : j < l.length) (h2 : j < m.length), sameN (l[j]'h1) (m[j]'h2) = true) : sameNs l m = true := by
  rw [sameNs_iff]
  apply List.ext_getElem?
  intro j
  rw [List.getElem?_map, List.getElem?_map]
  by_cases hj : j < l.length
  · rw [List.getElem?_eq_getElem hj, List.getElem?_eq_getElem (by omega)]
    simp only [Option.map_some, (sameN_iff _ _).1 (h j hj (by omega))]
  · rw [List.getElem?_eq_none (by omega), List.getElem?_eq_none (by omega)]

theorem quiet_load_mid {P : Program} {C : World → Prop} {op : Oper} {a : Act} {K : Act → Prop} (ty : TypeId) (x : Operand) (ho : op.op = .load ty x)
    (b o : Nat) (hx : a.eval x = .pointer (some ⟨b, o, none⟩)) (cs : List Value) (d : TypeDesc) (hc : ∀ w, C w → w.rangeAt b o cs)
    (hu : P.underlying ty = some d) (hd : d.isRow = true) (hi : (P.info? ty).map (·.size) = some cs.length)
    (h : K (a.put op.dst (.agg cs.toArray))) : op.quiet P a C K :=
  ⟨_, fun w hw => by
    unfold Oper.quietAt execOp
    simp only [ho, hx, Instr.loadAt, Instr.sureAddr, Sem.run_bind, Sem.run_pure, Result.andThen_ok, run_loadVar_mid w b o ty cs d (hc w hw) hu hd hi]
    exact ⟨rfl, rfl⟩, h⟩

theorem nod_info (n : Nod) : (Try.prog.info? 49).map (·.size) = some (nodL n).length := size_nod
/-- A node is read. -/
theorem quiet_load_nod {C : World → Prop} {op : Oper} {a : Act} {K : Act → Prop} (n : Nod) (b o : Nat) (x : Operand) (ho : op.op = .load 49 x) (hx : a.eval x = .pointer (some ⟨b, o, none⟩)) (hc : ∀ w, C w → w.rangeAt b o (nodL n))
    (h : K (a.put op.dst (nodV n))) : op.quiet Try.prog a C K :=
  quiet_load_mid 49 x ho b o hx (nodL n) _ hc under_nod rfl (nod_info n) h


theorem below_drewN' {w w' : World} {B : Nat} (h : Below B w w') (q : Nat) : Below B w (w'.drewN q) := below_drewN h q

end Go.Proofs.Ytbgalmnhhjiagaa
