/- Contracts: slices.Equal at nodes, tree.Same, the reference's Same. -/
import Derived.Test.YtcloimdndcbchaaTreA
import Derived.Test.YtcloimdndcbchaaHeld
set_option maxRecDepth 100000
namespace Go.Proofs.Ytcloimdndcbchaa
open Go.RowKit

/-- The two have the same nodes, one by one. -/
noncomputable def sameNs (l m : List Nod) : Bool := @decide (l.map nodL = m.map nodL) (Classical.propDecidable _)
theorem sameNs_iff (l m : List Nod) : sameNs l m = true ↔ l.map nodL = m.map nodL := by unfold sameNs; exact @decide_eq_true_iff _ (Classical.propDecidable _)
theorem sameNs_self (l : List Nod) : sameNs l l = true := (sameNs_iff l l).2 rfl
theorem sameNs_not {l m : List Nod} (h : ¬ l.map nodL = m.map nodL) : sameNs l m = false := by
  cases hs : sameNs l m
  · rfl
  · exact absurd ((sameNs_iff l m).1 hs) h
theorem sameNs_len {l m : List Nod} (h : l.length ≠ m.length) : sameNs l m = false := sameNs_not fun e => h (by simpa using congrArg List.length e)
theorem sameNs_at {l m : List Nod} {k : Nat} (h1 : k < l.length) (h2 : k < m.length) (h : sameN (l[k]'h1) (m[k]'h2) = false) : sameNs l m = false := sameNs_not fun e => by
  have h3 : (l.map nodL)[k]? = (m.map nodL)[k]? := by rw [e]
  rw [List.getElem?_map, List.getElem?_map, List.getElem?_eq_getElem h1, List.getElem?_eq_getElem h2] at h3
  have h4 : nodL (l[k]'h1) = nodL (m[k]'h2) := by simpa using h3
  rw [(sameN_iff _ _).2 h4] at h
  cases h
theorem sameNs_all {l m : List Nod} (hl : l.length = m.length) (h : ∀ j (h1 : j < l.length) (h2 : j < m.length), sameN (l[j]'h1) (m[j]'h2) = true) : sameNs l m = true := by
  rw [sameNs_iff]
  apply List.ext_getElem?
  intro j
  rw [List.getElem?_map, List.getElem?_map]
  by_cases hj : j < l.length
  · rw [List.getElem?_eq_getElem hj, List.getElem?_eq_getElem (by omega)]
    simp only [Option.map_some, (sameN_iff _ _).1 (h j hj (by omega))]
  · rw [List.getElem?_eq_none (by omega), List.getElem?_eq_none (by omega)]

theorem quiet_load_mid {P : Program} {C : World → Prop} {op : Oper} {a : Act} {K : Act → Prop} (ty : TypeId) (x : Operand) (ho : op.op = .load ty x)
    (b o : Nat) (hx : a.eval x = .pointer (some ⟨b, o, none⟩)) (cs : List Value) (d : TypeDesc) (hc : ∀ w, C w → w.rangeAt b o cs)
    (hu : P.underlying ty = some d) (hd : d.isRow = true) (hi : (P.info? ty).map (·.size) = some cs.length)
    (h : K (a.put op.dst (.agg cs.toArray))) : op.quiet P a C K :=
  ⟨_, fun w hw => by
    unfold Oper.quietAt execOp
    simp only [ho, hx, Instr.loadAt, Instr.sureAddr, Sem.run_bind, Sem.run_pure, Result.andThen_ok, run_loadVar_mid w b o ty cs d (hc w hw) hu hd hi]
    exact ⟨rfl, rfl⟩, h⟩

theorem nod_info (n : Nod) : (Try.prog.info? 37).map (·.size) = some (nodL n).length := size_nod
/-- A node is read. -/
theorem quiet_load_nod {C : World → Prop} {op : Oper} {a : Act} {K : Act → Prop} (n : Nod) (b o : Nat) (x : Operand) (ho : op.op = .load 37 x) (hx : a.eval x = .pointer (some ⟨b, o, none⟩)) (hc : ∀ w, C w → w.rangeAt b o (nodL n))
    (h : K (a.put op.dst (nodV n))) : op.quiet Try.prog a C K :=
  quiet_load_mid 37 x ho b o hx (nodL n) _ hc under_nod rfl (nod_info n) h


theorem below_drewN' {w w' : World} {B : Nat} (h : Below B w w') (q : Nat) : Below B w (w'.drewN q) := below_drewN h q

end Go.Proofs.Ytcloimdndcbchaa
