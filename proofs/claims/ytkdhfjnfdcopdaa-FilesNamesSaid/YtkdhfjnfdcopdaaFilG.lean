/- What happens to a table in memory: a file more, a file's bytes put anew. -/
import Derived.Test.YtkdhfjnfdcopdaaFilW
import Derived.Test.YtkdhfjnfdcopdaaApp2
namespace Go.Proofs.Ytkdhfjnfdcopdaa
open Go.RowKit

section
variable {w w' : World} {F F' : Nat → Prop} {T g c k : Nat} {v v' u x : Value} {vs : List Value} {fs : List Fil} {l : List UInt8}
theorem OwnF.grown (h : OwnF w F u l) {row : Option Nat} (hg : w.grownBy w' row) (hne : ∀ b, u.ownBlock = some b → row ≠ some b) : OwnF w' F u l :=
  h.kept (fun b hb => hg.block b (h.lt hb) fun e => hne b hb e.symm) fun _ _ f => f
theorem grown_any (h : w.grownBy w' none) (row : Option Nat) : w.grownBy w' row := ⟨h.os, h.tape, h.output, h.size, fun k hk _ => h.block k hk (by simp)⟩
theorem set_grown (w : World) (p : Addr) (u : Value) : w.grownBy (w.setCell p u) (some p.block) := by
  have hb : Below 0 w (w.setCell p u) := (Below.refl 0 w).setCell (Nat.zero_le _) u
  exact ⟨hb.os, hb.tape, hb.output, hb.size, fun k _ hne => Below.heap_setCell w p u k (fun e => hne (by rw [e]))⟩
theorem ty_ne1 : 5 ≠ 52 := by decide
theorem ty_ne2 : 5 ≠ 60 := by decide
theorem ty_ne3 : 52 ≠ 60 := by decide

/-- A file's bytes are others now: what came out of its row, or is new, is stored in its place. -/
theorem Row.put (h : Row w F (.slice (some ⟨g, 0, none⟩) fs.length c) vs fs) (hk : k < fs.length) (hx : vs[k]? = some x) (hg : w.grownBy w' x.ownBlock) (hu : OwnF w' F u l)
    (hb : ∀ b, u.ownBlock = some b → x.ownBlock = some b ∨ w.heap.size ≤ b) :
    Row (w'.setCell ⟨g, k * 2 + 1, none⟩ u) F (.slice (some ⟨g, 0, none⟩) fs.length c) (vs.set k u) (fs.set k ((fs[k]'hk).1, l)) := by
  obtain ⟨hl, hown, hkind, heach, hap⟩ := h
  have hf : fs[k]? = some (fs[k]'hk) := List.getElem?_eq_getElem hk
  have hxo := heach k x _ hx hf
  have hown' : w'.ownsRow 0 52 2 (.slice (some ⟨g, 0, none⟩) fs.length c) fs.length (filCells vs fs) := by
    refine hown.kept hg ?_
    right
    intro e
    exact own_ne hxo.1 hown ty_ne1 e.symm rfl
  have hst := hown'.stored (k * 2 + 1) u
  have hug : ∀ b (y : Value) (l : List UInt8), OwnF w' F y l → y.ownBlock = some b → some g ≠ some b := fun b y l hy e => own_ne hy.1 hown' ty_ne1 e
  refine ⟨by simpa using hl, ?_, hkind, ?_, ?_⟩
  · rw [List.length_set, filCells_set vs fs hl k hk]; exact hst.1
  · intro j y z hy hz
    by_cases hjk : j = k
    · subst hjk
      rw [List.getElem?_set_self (by omega)] at hy hz
      injection hy with hy
      injection hz with hz
      subst hy
      subst hz
      exact hu.grown hst.2 (fun b e => hug b u l hu e)
    · rw [List.getElem?_set_ne (by omega)] at hy hz
      have hy' : OwnF w' F y z.2 := (heach j y z hy hz).grown hg fun b e e2 => hjk (hap j k y x b hy hx e e2)
      exact hy'.grown hst.2 (fun b e => hug b y _ hy' e)
  · intro i j y z b hy hz ey ez
    have old : ∀ m (y : Value), m ≠ k → vs[m]? = some y → y.ownBlock = some b → u.ownBlock ≠ some b := by
      intro m y hm hy ey eu
      have hmlt : m < fs.length := by have := (List.getElem?_eq_some_iff.1 hy).1; omega
      rcases hb b eu with h1 | h1
      · exact hm (hap m k y x b hy hx ey h1)
      · have := (heach m y _ hy (List.getElem?_eq_getElem hmlt)).lt ey; omega
    by_cases hi : i = k
    · by_cases hj : j = k
      · rw [hi, hj]
      · subst hi
        rw [List.getElem?_set_self (by omega)] at hy
        rw [List.getElem?_set_ne (by omega)] at hz
        injection hy with hy
        subst hy
        exact absurd ey (old j z hj hz ez)
    · by_cases hj : j = k
      · subst hj
        rw [List.getElem?_set_self (by omega)] at hz
        rw [List.getElem?_set_ne (by omega)] at hy
        injection hz with hz
        subst hz
        exact absurd ez (old i y hi hy ey)
      · rw [List.getElem?_set_ne (by omega)] at hy hz
        exact hap i j y z b hy hz ey ez
/-- A file more. -/
theorem Row.snoc {z : Fil} (h : Row w F v vs fs) (hu : OwnF w F u z.2) (hne : ∀ (j : Nat) (y : Value) (b : Nat), vs[j]? = some y → y.ownBlock = some b → u.ownBlock ≠ some b)
    (h' : w'.ownsRow 0 52 2 v' (fs.length + 1) (filCells vs fs ++ [.string z.1, u])) (hg : w.grownBy w' v.ownBlock) (hv : ∀ b, v'.ownBlock = some b → v.ownBlock = some b ∨ F b) :
    Row w' F v' (vs ++ [u]) (fs ++ [z]) := by
  obtain ⟨hl, hown, hkind, heach, hap⟩ := h
  have hkeep : ∀ (y : Value) (l : List UInt8), OwnF w F y l → OwnF w' F y l := fun y l hy => hy.grown hg fun b e => own_ne hy.1 hown ty_ne1 e
  refine ⟨by simp [hl], ?_, ?_, ?_, ?_⟩
  · rw [filCells_snoc vs fs hl, List.length_append]; exact h'
  · intro b e
    rcases hv b e with h1 | h1
    · exact hkind b h1
    · exact h1
  · intro j y q hy hq
    rcases Nat.lt_or_ge j fs.length with hj | hj
    · rw [List.getElem?_append_left (by omega)] at hy hq
      exact hkeep y _ (heach j y q hy hq)
    · have hj' : j = fs.length := by
        have := (List.getElem?_eq_some_iff.1 hq).1
        simp at this; omega
      subst hj'
      rw [List.getElem?_append_right (by omega)] at hy hq
      simp only [hl, Nat.sub_self, List.getElem?_cons_zero, Option.some.injEq] at hy hq
      subst hy
      subst hq
      exact hkeep _ _ hu
  · intro i j y q b hy hq ey eq
    have hi := (List.getElem?_eq_some_iff.1 hy).1
    have hj := (List.getElem?_eq_some_iff.1 hq).1
    simp only [List.length_append, List.length_cons, List.length_nil] at hi hj
    rcases Nat.lt_or_ge i vs.length with hi' | hi'
    · rw [List.getElem?_append_left hi'] at hy
      rcases Nat.lt_or_ge j vs.length with hj' | hj'
      · rw [List.getElem?_append_left hj'] at hq
        exact hap i j y q b hy hq ey eq
      · obtain rfl : j = vs.length := by omega
        rw [List.getElem?_append_right (Nat.le_refl _)] at hq
        simp only [Nat.sub_self, List.getElem?_cons_zero, Option.some.injEq] at hq
        subst hq
        exact absurd eq (hne i y b hy ey)
    · obtain rfl : i = vs.length := by omega
      rw [List.getElem?_append_right (Nat.le_refl _)] at hy
      simp only [Nat.sub_self, List.getElem?_cons_zero, Option.some.injEq] at hy
      subst hy
      rcases Nat.lt_or_ge j vs.length with hj' | hj'
      · rw [List.getElem?_append_left hj'] at hq
        exact absurd ey (hne j q b hq eq)
      · omega
theorem Row.ne_obj {cs : Array Value} {fr : Nat × Nat} (h : Row w F v vs fs) (hT : w.heap[T]? = some (.cells cs 60 fr)) : v.ownBlock ≠ some T := own_ne_obj h.own hT ty_ne3
theorem OwnF.ne_obj {cs : Array Value} {fr : Nat × Nat} (h : OwnF w F u l) (hT : w.heap[T]? = some (.cells cs 60 fr)) : u.ownBlock ≠ some T := own_ne_obj h.1 hT ty_ne2
theorem TabAt.put (h : TabAt w F T (.slice (some ⟨g, 0, none⟩) fs.length c) vs fs) (hk : k < fs.length) (hx : vs[k]? = some x) (hg : w.grownBy w' x.ownBlock) (hu : OwnF w' F u l)
    (hb : ∀ b, u.ownBlock = some b → x.ownBlock = some b ∨ w.heap.size ≤ b) :
    TabAt (w'.setCell ⟨g, k * 2 + 1, none⟩ u) F T (.slice (some ⟨g, 0, none⟩) fs.length c) (vs.set k u) (fs.set k ((fs[k]'hk).1, l)) := by
  refine ⟨h.kind, ?_, h.row.put hk hx hg hu hb⟩
  have h1 : g ≠ T := fun e => h.row.ne_obj h.cell (by subst e; rfl)
  have h2 : some T ≠ x.ownBlock := fun e => (h.row.each k x _ hx (List.getElem?_eq_getElem hk)).ne_obj h.cell e.symm
  rw [Below.heap_setCell w' _ u T (fun e => h1 e.symm), hg.block T h.lt h2]
  exact h.cell
/-- What putting a file's bytes turns lies in blocks of the table's kind. -/
theorem TabAt.put_fr (h : TabAt w F T (.slice (some ⟨g, 0, none⟩) fs.length c) vs fs) (hk : k < fs.length) (hx : vs[k]? = some x) (hg : w.grownBy w' x.ownBlock) : Fr F w (w'.setCell ⟨g, k * 2 + 1, none⟩ u) :=
  (Fr.grown hg fun b e => (h.row.each k x _ hx (List.getElem?_eq_getElem hk)).2 b e).trans (Fr.setCell _ _ (h.row.kind g rfl))
/-- The table's row is another one now. -/
theorem TabAt.store (h : w.heap[T]? = some (.cells #[v] 60 (0, 0))) (hF : F T) (hr : Row w F v' vs fs) : TabAt (w.setCell ⟨T, 0, none⟩ v') F T v' vs fs := by
  have hg := set_grown w ⟨T, 0, none⟩ v'
  refine ⟨hF, ?_, hr.len, hr.own.kept hg (.inr (hr.ne_obj h)), hr.kind, fun j y z hy hz => (hr.each j y z hy hz).grown hg fun b e e2 => (hr.each j y z hy hz).ne_obj h (e.trans e2.symm), hr.apart⟩
  have := heap_setCell_same w T 0 #[v] 60 v' h
  rw [this]; rfl
theorem OwnF.cut {A : Option Addr} {n : Nat} (h : OwnF w F (.slice A n c) l) {m : Nat} (hm : m ≤ l.length) : OwnF w F (.slice A m c) (l.take m) := by
  obtain ⟨⟨h1, h2⟩, h3⟩ := h
  refine ⟨⟨by rw [bv_length, List.length_take]; omega, ?_⟩, fun b e => h3 b (by cases A <;> exact e)⟩
  rcases h2 with ⟨e, h0⟩ | ⟨g, cap, cur, e, hb, hg, hnc, hcm, hcs, ht⟩
  · injection e with e1 e2 e3
    subst e1
    subst e3
    left
    exact ⟨by rw [show m = 0 by omega], by rw [List.length_take]; omega⟩
  · injection e with e1 e2 e3
    subst e1
    subst e3
    right
    refine ⟨g, c, cur, ?_, hb, hg, by rw [List.length_take]; omega, hcm, hcs, ?_⟩
    · rw [List.length_take, Nat.min_eq_left hm]
    · rw [List.length_take, Nat.min_eq_left hm, Nat.mul_one]
      rw [Nat.mul_one] at ht
      have : (cur.toList.take l.length).take m = (bv l).take m := by rw [ht]
      rw [List.take_take, Nat.min_eq_left hm] at this
      rw [this]; simp [bv, List.map_take]
end
end Go.Proofs.Ytkdhfjnfdcopdaa
