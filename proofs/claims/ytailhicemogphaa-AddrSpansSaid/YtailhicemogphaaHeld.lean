/- A block whose cells are known, all of them; nothing here speaks of a program. -/
import Derived.Test.YtailhicemogphaaWords
import Derived.Laws.Rows
import Derived.Laws.OwnMore
import Derived.Deep.MidRow
set_option maxRecDepth 100000
namespace Go.Proofs.Ytailhicemogphaa
open Go.RowKit

/-- Block g is these cells, of that type, and may be written. -/
def Held (w : World) (g : Nat) (t : TypeId) (cs : Array Value) : Prop := w.heap[g]? = some (.cells cs t (0, 0))
section
variable {w w' : World} {g g' : Nat} {t t' : TypeId} {cs cs' : Array Value}
theorem Held.lt (h : Held w g t cs) : g < w.heap.size := (Array.getElem?_eq_some_iff.1 h).1
theorem Held.at_ (h : Held w g t cs) {i : Nat} {v : Value} (hv : cs[i]? = some v) : w.cell? ⟨g, i, none⟩ = some v := by rw [cell_of_row w g i cs t (0, 0) h]; exact hv
theorem Held.thawed (h : Held w g t cs) (i : Nat) : w.frozen? ⟨g, i, none⟩ = false := frozen_of_row w g i cs t h
theorem Held.drew (h : Held w g t cs) : Held w.drew g t cs := h
theorem Held.drewN (h : Held w g t cs) (n : Nat) : Held (w.drewN n) g t cs := h
theorem Held.alloc (h : Held w g t cs) (o : Obj) : Held (w.alloc o) g t cs := (Below.heap_alloc w o g h.lt).trans h
theorem Held.below {B : Nat} (h : Held w g t cs) (hb : Below B w w') (hg : g < B) : Held w' g t cs := (hb.block g hg).trans h
theorem Held.keep (h : Held w g t cs) (hb : Below w.heap.size w w') : Held w' g t cs := h.below hb h.lt
theorem Held.far {a : Addr} (h : Held w g t cs) (hne : g ≠ a.block) (v : Value) : Held (w.setCell a v) g t cs := (heap_setCell_other w a g v hne).trans h
theorem Held.put (h : Held w g t cs) (i : Nat) (v : Value) : Held (w.setCell ⟨g, i, none⟩ v) g t (cs.setIfInBounds i v) := heap_setCell_same w g i cs t v h
theorem Held.row (h : Held w g t cs) (cs' : Array Value) : Held (w.setRow g cs') g t cs' := setRow_heap w g _ _ _ _ h
theorem Held.row_far (h : Held w g t cs) (hne : g ≠ g') (cs' : Array Value) : Held (w.setRow g' cs') g t cs := (setRow_other w g' g cs' hne).trans h
theorem Held.grown {r : Option Nat} (h : Held w g t cs) (hg : w.grownBy w' r) (hne : some g ≠ r) : Held w' g t cs := (hg.block g h.lt hne).trans h
theorem Held.range (h : Held w g t cs) : w.rangeAt g 0 cs.toList := fun j v hj => by rw [Nat.zero_add]; exact h.at_ (by simpa using hj)
theorem held_new (w : World) (t : TypeId) (cs : Array Value) : Held (w.alloc (.cells cs t)) w.heap.size t cs := heap_alloc_new w _
theorem held_new2 (w : World) (o : Obj) (t : TypeId) (cs : Array Value) : Held ((w.alloc o).alloc (.cells cs t)) (w.heap.size + 1) t cs := heap_alloc2_new w o _
theorem Held.apart (h : Held w g t cs) (h' : Held w g' t' cs') (hne : t ≠ t') : g ≠ g' := by
  rintro rfl
  unfold Held at h h'
  rw [h] at h'
  injection h' with h'
  injection h' with _ h'
  exact hne h'
theorem Held.not_own {base : Nat} {e : TypeId} {size n : Nat} {v : Value} {xs : List Value} (h : Held w g t cs) (ho : w.ownsRow base e size v n xs) (hne : e ≠ t) : v.ownBlock ≠ some g := by
  intro hv
  rcases ho.2 with ⟨rfl, _⟩ | ⟨g', cap, cur, rfl, _, hh, _⟩
  · cases hv
  · have e1 : g' = g := by simpa [Value.ownBlock] using hv
    subst e1
    exact Held.apart (t := e) hh h hne rfl
theorem sizeA' (w : World) (o : Obj) : (w.alloc o).heap.size = w.heap.size + 1 := by simp
theorem below_row {B : Nat} {w0 : World} (hb : Below B w0 w) (hg : B ≤ g) (cs : Array Value) : Below B w0 (w.setRow g cs) :=
  ⟨hb.os, hb.tape, hb.output, by rw [size_setRow]; exact hb.size, fun k hk => by rw [setRow_other w g k cs (by omega)]; exact hb.block k hk⟩
end
/-- Two results, the first in a block. -/
theorem results_cell_two {P : Program} {fn : Func} {p q : Tmp} {ty : TypeId} (h : fn.results = #[.cell p ty, .tmp q]) (tmps : Array Value) (w : World) (g : Nat) (t : TypeId) (cs : Array Value) (fr : Nat × Nat) (d : TypeDesc)
    (hp : tmps.getD p undef = .pointer (some ⟨g, 0, none⟩)) {x : Value} (hx : tmps.getD q undef = x) (hg : w.heap[g]? = some (.cells cs t fr))
    (hu : P.underlying ty = some d) (hd : (match d with | .struct _ | .array _ _ => true | _ => false) = true) (hi : (P.info? ty).map (·.size) = some cs.size) :
    (results fn tmps).run P w = .ok (.tuple #[.agg cs, x]) w := by
  have hp' : tmps[p]?.getD undef = .pointer (some ⟨g, 0, none⟩) := by simpa using hp
  have hx' : tmps[q]?.getD undef = x := by simpa using hx
  simp [results, h, hp', hx', asAddr, run_loadVar_row w g t ty cs fr d hg hu hd hi]
end Go.Proofs.Ytailhicemogphaa
