/- The contract of the reference's read: classes and lone bytes. -/
import Derived.Test.YtiiaheaadbhomaaBrkD
import Derived.Test.YtiiaheaadbhomaaClsJ
namespace Go.Proofs.Ytiiaheaadbhomaa
open Go.RowKit

theorem betw_at (sg : UInt8) {l : List UInt8} {j : Nat} (h : j < l.length) : betw sg (l.drop j) = if bg [sg, 93] (l.drop j) then some 0 else (betw sg (l.drop (j + 1))).map (· + 1) := by
  rw [List.drop_eq_getElem_cons h]; rfl
def RelB (sg : UInt8) (l : List UInt8) (k : Nat) (v : Value) : Prop :=
  ∃ j : Nat, k + 2 ≤ j ∧ j ≤ l.length ∧ v = .int .i64 (j : Int) ∧ betw sg (l.drop (k + 2)) = (betw sg (l.drop j)).map (· + (j - (k + 2)))
theorem RelB.mk {sg : UInt8} {l : List UInt8} {k : Nat} {v : Value} (h : ∃ j : Nat, k + 2 ≤ j ∧ j ≤ l.length ∧ v = .int .i64 (j : Int) ∧ betw sg (l.drop (k + 2)) = (betw sg (l.drop j)).map (· + (j - (k + 2)))) : RelB sg l k v := h
theorem betw_found {sg : UInt8} {l : List UInt8} {k j : Nat} (hl : j < l.length) (hr : betw sg (l.drop (k + 2)) = (betw sg (l.drop j)).map (· + (j - (k + 2)))) (hb : bg [sg, 93] (l.drop j) = true) : betw sg (l.drop (k + 2)) = some (j - (k + 2)) := by
  rw [hr, betw_at sg hl, if_pos hb]; simp
theorem betw_next {sg : UInt8} {l : List UInt8} {k j : Nat} (hj : k + 2 ≤ j) (hl : j < l.length) (hr : betw sg (l.drop (k + 2)) = (betw sg (l.drop j)).map (· + (j - (k + 2)))) (hb : bg [sg, 93] (l.drop j) = false) : betw sg (l.drop (k + 2)) = (betw sg (l.drop (j + 1))).map (· + (j + 1 - (k + 2))) := by
  rw [hr, betw_at sg hl, if_neg (by simp [hb])]
  cases betw sg (l.drop (j + 1)) with
  | none => rfl
  | some i => simp; omega
theorem betw_gone {sg : UInt8} {l : List UInt8} {k j : Nat} (hl : l.length ≤ j) (hr : betw sg (l.drop (k + 2)) = (betw sg (l.drop j)).map (· + (j - (k + 2)))) : betw sg (l.drop (k + 2)) = none := by
  rw [hr, List.drop_of_length_le hl]; rfl
/-- What a piece is where [: [. [= begins. -/
theorem piece_open {l : List UInt8} {k : Nat} (h : k < l.length) (hx : ((l[k]'h).toNat : Int) = 91) : (atV l (k + 1) = 58 → piece (l.drop k) = clsP (l.drop k)) ∧ (atV l (k + 1) = 46 → piece (l.drop k) = loneP 46 (l.drop k)) ∧ (atV l (k + 1) = 61 → piece (l.drop k) = loneP 61 (l.drop k)) := by
  have e1 : bg [91, 58] (l.drop k) = decide (atV l (k + 1) = 58) := by rw [bg_at 91 58 h, hx]; simp
  have e2 : bg [91, 46] (l.drop k) = decide (atV l (k + 1) = 46) := by rw [bg_at 91 46 h, hx]; simp
  have e3 : bg [91, 61] (l.drop k) = decide (atV l (k + 1) = 61) := by rw [bg_at 91 61 h, hx]; simp
  unfold piece endP
  rw [e1, e2, e3]
  refine ⟨fun e => ?_, fun e => ?_, fun e => ?_⟩ <;> simp [e]

section
variable {w w' : World} {g : Nat} {C : Int} {f : Nat → Bool} {cl : Bool} {nx E : Int}
theorem itmC_set (i : Nat) (v : Value) : (itmC C f cl nx E).setIfInBounds i v = ((itmL C f cl nx E).set i v).toArray := by unfold itmC; simp
theorem ItmAt.set0 (h : ItmAt w g C f cl nx E) (C' : Int) : ItmAt (w.setCell ⟨g, 0, none⟩ (.int .i64 C')) g C' f cl nx E := by
  unfold ItmAt at h ⊢
  rw [heap_setCell_same w g 0 _ _ _ h, itmC_set]; rfl
theorem boolsL_set (f : Nat → Bool) {k : Nat} (hk : k < 256) (b : Bool) : (boolsL f).set k (.bool b) = boolsL (putB f k b) := by
  apply List.ext_getElem?
  intro i
  rw [List.getElem?_set]
  by_cases hi : k = i
  · subst hi
    rw [if_pos rfl, if_pos (by rw [boolsL_len]; exact hk)]
    unfold boolsL
    rw [List.getElem?_map, List.getElem?_range hk]
    simp [putB]
  · rw [if_neg hi]
    unfold boolsL
    rw [List.getElem?_map, List.getElem?_map]
    by_cases hl : i < 256
    · rw [List.getElem?_range hl]
      have : ¬ i = k := fun e => hi e.symm
      simp [putB, this]
    · rw [List.getElem?_eq_none (by simp; omega)]; rfl
theorem ItmAt.setIn (h : ItmAt w g C f cl nx E) {k : Nat} (hk : k < 256) (b : Bool) : ItmAt (w.setCell ⟨g, 1 + k, none⟩ (.bool b)) g C (putB f k b) cl nx E := by
  rw [Nat.add_comm]
  unfold ItmAt at h ⊢
  rw [heap_setCell_same w g (k + 1) _ _ _ h, itmC_set]
  unfold itmC itmL
  rw [List.set_cons_succ, List.set_append, if_pos (by rw [boolsL_len]; exact hk), boolsL_set f hk b]
theorem ItmAt.set2 (h : ItmAt w g C f cl nx E) (b : Bool) : ItmAt (w.setCell ⟨g, 257, none⟩ (.bool b)) g C f b nx E := by
  unfold ItmAt at h ⊢
  rw [heap_setCell_same w g 257 _ _ _ h, itmC_set]
  unfold itmC itmL
  rw [show (257 : Nat) = 256 + 1 by rfl, List.set_cons_succ, List.set_append, if_neg (by rw [boolsL_len]; omega), boolsL_len]; rfl
theorem ItmAt.alike {f' : Nat → Bool} (h : ItmAt w g C f cl nx E) (ha : Go.Proofs.Ytiiaheaadbhomaa.alike f f') : ItmAt w g C f' cl nx E := by
  unfold ItmAt at h ⊢; rw [← itm_alike ha]; exact h
theorem ItmAt.row_far {g' : Nat} (h : ItmAt w g C f cl nx E) (hne : g ≠ g') (cs : Array Value) : ItmAt (w.setRow g' cs) g C f cl nx E := by
  unfold ItmAt at h ⊢; rw [setRow_other w g' g cs hne]; exact h
end
/-- The result's block and the new item's. -/
theorem two_blocks (w : World) (nx : Int) : ∃ w2, (((w.alloc (.cells (itmC 0 noneF false 0 0) 49)).alloc (.cells (itmC 0 noneF false 0 0) 49)).setRow (w.heap.size + 1) (itmC 0 noneF false nx 0)) = w2 ∧
    ItmAt w2 w.heap.size 0 noneF false 0 0 ∧ ItmAt w2 (w.heap.size + 1) 0 noneF false nx 0 ∧ Below w.heap.size w w2 ∧ w.heap.size + 2 ≤ w2.heap.size := by
  have h1 := itm_new w 0 noneF false 0 0
  have h2 := itm_new (w.alloc (.cells (itmC 0 noneF false 0 0) 49)) 0 noneF false 0 0
  rw [sizeA'] at h2
  refine ⟨_, rfl, (h1.alloc _).row_far (by omega) _, h2.put _ _ _ _ _, below_put ((((Below.refl _ _).alloc (Nat.le_refl _) _)).alloc (by simp) _) (by omega) _, ?_⟩
  rw [size_setRow, sizeA', sizeA']; exact Nat.le_refl _
theorem refIs_at (nm : List UInt8) (k : Nat) (w : World) :
    Calls Try.prog 28 #[.string ⟨nm.toArray⟩, .int .u8 (k : Int)] w fun e w' => e = .returned (.tuple #[.bool (clsF nm k), .bool (known nm)]) ∧ w = w' := by
  have := refIs_any ⟨nm.toArray⟩ (k : Int) w
  rw [ba_toList, cls_some nm (k : Int) 0] at this
  exact this

def RelC (W : World) (F : Nat → Bool) (kn : Bool) (nx : Int) (v : Value) (wr : World) : Prop :=
  ∃ m : Nat, m ≤ 256 ∧ (m = 0 ∨ kn = true) ∧ v = .int .i64 (m : Int) ∧ ItmAt wr W.heap.size 0 noneF false 0 0 ∧ ItmAt wr (W.heap.size + 1) 0 (upto F m) true nx 0 ∧ Below W.heap.size W wr
theorem RelC.mk {W : World} {F : Nat → Bool} {kn : Bool} {nx : Int} {v : Value} {wr : World} (h : ∃ m : Nat, m ≤ 256 ∧ (m = 0 ∨ kn = true) ∧ v = .int .i64 (m : Int) ∧ ItmAt wr W.heap.size 0 noneF false 0 0 ∧ ItmAt wr (W.heap.size + 1) 0 (upto F m) true nx 0 ∧ Below W.heap.size W wr) : RelC W F kn nx v wr := h
end Go.Proofs.Ytiiaheaadbhomaa
