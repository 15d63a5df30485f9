/- The reference's at; items of the reference in memory. -/
import Derived.Test.YtiiaheaadbhomaaBrkA
import Derived.Test.YtiiaheaadbhomaaClsR
import Derived.Deep.RegionWith
namespace Go.Proofs.Ytiiaheaadbhomaa
open Go.RowKit

/-- The byte at a place, -1 if there is none. -/
def atV (l : List UInt8) (k : Nat) : Int := match l[k]? with | some x => (x.toNat : Int) | none => -1
theorem atV_in {l : List UInt8} {k : Nat} (h : k < l.length) : atV l k = ((l[k]'h).toNat : Int) := by unfold atV; rw [List.getElem?_eq_getElem h]
theorem atV_out {l : List UInt8} {k : Nat} (h : l.length ≤ k) : atV l k = -1 := by unfold atV; rw [List.getElem?_eq_none h]
theorem atV_is {l : List UInt8} {k : Nat} {x : UInt8} : (atV l k = (x.toNat : Int)) ↔ bg [x] (l.drop k) = true := by
  by_cases h : k < l.length
  · rw [atV_in h, List.drop_eq_getElem_cons h, bg_cons, bg_nil, Bool.and_true, beq_iff_eq]
    constructor
    · intro e; exact UInt8.toNat_inj.1 (by omega)
    · intro e; rw [e]
  · rw [atV_out (by omega), List.drop_of_length_le (by omega)]
    constructor
    · intro e; omega
    · intro e; cases e
theorem bg_two (x y : UInt8) (l : List UInt8) (k : Nat) : bg [x, y] (l.drop k) = (bg [x] (l.drop k) && bg [y] (l.drop (k + 1))) := by
  by_cases h : k < l.length
  · rw [List.drop_eq_getElem_cons h, bg_cons, bg_cons, bg_nil, Bool.and_true]
  · rw [List.drop_of_length_le (show l.length ≤ k by omega)]; rfl

set_option maxRecDepth 100000 in
theorem at_any (A : Option Addr) (n c : Nat) (l : List UInt8) (B : Nat) (w : World) (hn : n = l.length) (h : Byt w B A l) (k : Nat) (hk : k ≤ 9223372036854775807) :
    Calls Try.prog 18 #[.slice A n c, .int .i64 (k : Int)] w fun e w' => e = .returned (.int .i64 (atV l k)) ∧ w = w' := by
  by_cases hlt : k < l.length
  · obtain ⟨ad, rfl, _, hd⟩ := h.at_ hlt
    rw [atV_in hlt]
    have hc : (l[k]'hlt).toNat < 256 := UInt8.toNat_lt _
    generalize (l[k]'hlt).toNat = x at hd hc ⊢
    replace hn := Lib.hid hn
    have hkn : k < n := by have := hn.out; omega
    go_enter Try.func18, Try.ntmps18
    go_wp2
    go_ret
    exact ⟨rfl, rfl⟩
  · rw [atV_out (by omega)]
    have hkn : n ≤ k := by omega
    replace hn := Lib.hid hn
    go_enter Try.func18, Try.ntmps18
    go_wp2
    go_ret
    exact ⟨rfl, rfl⟩

/-! ### Items -/
def itmL (C : Int) (f : Nat → Bool) (cl : Bool) (nx E : Int) : List Value := .int .i64 C :: (boolsL f ++ [.bool cl, .int .i64 nx, .int .i64 E])
def itmC (C : Int) (f : Nat → Bool) (cl : Bool) (nx E : Int) : Array Value := (itmL C f cl nx E).toArray
theorem itm_len (C : Int) (f : Nat → Bool) (cl : Bool) (nx E : Int) : (itmL C f cl nx E).length = 260 := by simp [itmL, boolsL_len]
theorem itm_size (C : Int) (f : Nat → Bool) (cl : Bool) (nx E : Int) : (itmC C f cl nx E).size = 260 := by simp [itmC, itm_len]
theorem itm_0 (C : Int) (f : Nat → Bool) (cl : Bool) (nx E : Int) : (itmC C f cl nx E)[0]? = some (.int .i64 C) := by simp [itmC, itmL]
theorem itm_in (C : Int) (f : Nat → Bool) (cl : Bool) (nx E : Int) {k : Nat} (h : k < 256) : (itmC C f cl nx E)[k + 1]? = some (.bool (f k)) := by
  unfold itmC itmL
  rw [List.getElem?_toArray, List.getElem?_cons_succ, List.getElem?_append_left (by rw [boolsL_len]; exact h)]
  unfold boolsL
  rw [List.getElem?_map, List.getElem?_range h]; rfl
theorem itm_hi (C : Int) (f : Nat → Bool) (cl : Bool) (nx E : Int) (k : Nat) : (itmC C f cl nx E)[k + 257]? = [Value.bool cl, .int .i64 nx, .int .i64 E][k]? := by
  unfold itmC itmL
  rw [List.getElem?_toArray, show k + 257 = (k + 256) + 1 by omega, List.getElem?_cons_succ, List.getElem?_append_right (by rw [boolsL_len]; omega), boolsL_len, Nat.add_sub_cancel]
theorem itm_one (C : Int) (f : Nat → Bool) (cl : Bool) (nx E : Int) : ∀ v ∈ itmL C f cl nx E, v.oneCell' = true := by
  intro v hv
  simp only [itmL, List.mem_cons, List.mem_append, List.not_mem_nil, or_false] at hv
  rcases hv with rfl | hv | rfl | rfl | rfl
  · rfl
  · exact bools_one f v hv
  · rfl
  · rfl
  · rfl
/-- An item's block. -/
def ItmAt (w : World) (g : Nat) (C : Int) (f : Nat → Bool) (cl : Bool) (nx E : Int) : Prop := w.heap[g]? = some (.cells (itmC C f cl nx E) 49 (0, 0))
section
variable {w w' : World} {g : Nat} {C : Int} {f : Nat → Bool} {cl : Bool} {nx E : Int}
theorem ItmAt.lt (h : ItmAt w g C f cl nx E) : g < w.heap.size := by
  unfold ItmAt at h
  exact (Array.getElem?_eq_some_iff.1 h).1
theorem ItmAt.c0 (h : ItmAt w g C f cl nx E) : w.cell? ⟨g, 0, none⟩ = some (.int .i64 C) := by rw [cell_of_row w g 0 _ _ _ h, itm_0]
theorem ItmAt.cin (h : ItmAt w g C f cl nx E) {k : Nat} (hk : k < 256) : w.cell? ⟨g, 1 + k, none⟩ = some (.bool (f k)) := by rw [Nat.add_comm, cell_of_row w g (k + 1) _ _ _ h, itm_in _ _ _ _ _ hk]
theorem ItmAt.c2 (h : ItmAt w g C f cl nx E) : w.cell? ⟨g, 257, none⟩ = some (.bool cl) := by rw [cell_of_row w g 257 _ _ _ h, itm_hi _ _ _ _ _ 0]; rfl
theorem ItmAt.c3 (h : ItmAt w g C f cl nx E) : w.cell? ⟨g, 258, none⟩ = some (.int .i64 nx) := by rw [cell_of_row w g 258 _ _ _ h, itm_hi _ _ _ _ _ 1]; rfl
theorem ItmAt.c4 (h : ItmAt w g C f cl nx E) : w.cell? ⟨g, 259, none⟩ = some (.int .i64 E) := by rw [cell_of_row w g 259 _ _ _ h, itm_hi _ _ _ _ _ 2]; rfl
theorem ItmAt.thawed (h : ItmAt w g C f cl nx E) (k : Nat) : w.frozen? ⟨g, k, none⟩ = false := frozen_of_row w g k _ _ h
theorem ItmAt.below {B : Nat} (h : ItmAt w g C f cl nx E) (hb : Below B w w') (hg : g < B) : ItmAt w' g C f cl nx E := by
  unfold ItmAt at h ⊢; rw [hb.block g hg]; exact h
theorem ItmAt.set_other {a : Addr} {v : Value} (h : ItmAt w g C f cl nx E) (hne : g ≠ a.block) : ItmAt (w.setCell a v) g C f cl nx E := by
  unfold ItmAt at h ⊢; rw [heap_setCell_other w a g v hne]; exact h
theorem ItmAt.alloc (h : ItmAt w g C f cl nx E) (o : Obj) : ItmAt (w.alloc o) g C f cl nx E := by
  have hl := h.lt
  unfold ItmAt at h ⊢; rw [Below.heap_alloc w o g hl]; exact h
theorem itm_new (w : World) (C : Int) (f : Nat → Bool) (cl : Bool) (nx E : Int) : ItmAt (w.alloc (.cells (itmC C f cl nx E) 49)) w.heap.size C f cl nx E := heap_alloc_new _ _
theorem ItmAt.range (h : ItmAt w g C f cl nx E) : w.rangeAt g 0 (itmL C f cl nx E) := by
  intro j v hj
  rw [Nat.zero_add, cell_of_row w g j _ _ _ h]
  unfold itmC
  rw [List.getElem?_toArray]; exact hj
end
theorem size_itm : (Try.prog.info? 49).map (·.size) = some 260 := by kernel_rfl
theorem itm_info (C : Int) (f : Nat → Bool) (cl : Bool) (nx E : Int) : (Try.prog.info? 49).map (·.size) = some (itmL C f cl nx E).length := by rw [itm_len]; exact size_itm
theorem zero_itm' : (Try.prog.info? 49).map (fun i => (i.zero, i.size)) = some (some (.agg (itmC 0 noneF false 0 0)), 260) := by kernel_rfl
theorem zero_itm (w : World) : (zeroValue 49).run Try.prog w = .ok (.agg (itmC 0 noneF false 0 0)) w := (zero_of_info zero_itm').1 w
theorem build_E (e : Int) (w : World) : (Instr.build 49 #[(4, .int .i64 e)]).run Try.prog w = .ok (.agg (itmC 0 noneF false 0 e)) w := run_build w _ _ _ (by kernel_rfl)
theorem build_CN (c k : Int) (w : World) : (Instr.build 49 #[(0, .int .i64 c), (3, .int .i64 k)]).run Try.prog w = .ok (.agg (itmC c noneF false k 0)) w := run_build w _ _ _ (by kernel_rfl)
theorem build_N (k : Int) (w : World) : (Instr.build 49 #[(3, .int .i64 k)]).run Try.prog w = .ok (.agg (itmC 0 noneF false k 0)) w := run_build w _ _ _ (by kernel_rfl)
end Go.Proofs.Ytiiaheaadbhomaa
