/- The contract of the reference's Of: an array of 256 bools. -/
import Derived.Test.YtiiaheaadbhomaaClsG
namespace Go.Proofs.Ytiiaheaadbhomaa
open Go.RowKit

def boolsC (f : Nat → Bool) : Array Value := ((List.range 256).map fun c => Value.bool (f c)).toArray
theorem bools_get (f : Nat → Bool) (c : Nat) (hc : c < 256) : (boolsC f)[c]? = some (.bool (f c)) := by
  unfold boolsC
  rw [List.getElem?_toArray, List.getElem?_map, List.getElem?_range hc]; rfl
theorem bools_size (f : Nat → Bool) : (boolsC f).size = 256 := by simp [boolsC]
/-- A block that holds 256 bools. -/
def BoolsAt (w : World) (g : Nat) (f : Nat → Bool) : Prop := w.heap[g]? = some (.cells (boolsC f) 47 (0, 0))
section
variable {w w' : World} {g : Nat} {f : Nat → Bool}
theorem BoolsAt.lt (h : BoolsAt w g f) : g < w.heap.size := by
  unfold BoolsAt at h
  exact (Array.getElem?_eq_some_iff.1 h).1
theorem BoolsAt.cell (h : BoolsAt w g f) {k : Nat} (hk : k < 256) : w.cell? ⟨g, k, none⟩ = some (.bool (f k)) := by
  rw [cell_of_row w g k _ _ _ h, bools_get f k hk]
theorem BoolsAt.thawed (h : BoolsAt w g f) (k : Nat) : w.frozen? ⟨g, k, none⟩ = false := frozen_of_row w g k _ _ h
theorem BoolsAt.below {B : Nat} (h : BoolsAt w g f) (hb : Below B w w') (hg : g < B) : BoolsAt w' g f := by
  unfold BoolsAt at h ⊢; rw [hb.block g hg]; exact h
theorem BoolsAt.set_other {a : Addr} {v : Value} (h : BoolsAt w g f) (hne : g ≠ a.block) : BoolsAt (w.setCell a v) g f := by
  unfold BoolsAt at h ⊢; rw [heap_setCell_other w a g v hne]; exact h
theorem BoolsAt.alloc (h : BoolsAt w g f) (o : Obj) : BoolsAt (w.alloc o) g f := by
  have hl := h.lt
  unfold BoolsAt at h ⊢; rw [Below.heap_alloc w o g hl]; exact h
theorem bools_new (w : World) (f : Nat → Bool) : BoolsAt (w.alloc (.cells (boolsC f) 47)) w.heap.size f := heap_alloc_new _ _
theorem SetAt.store {f' : Nat → Bool} {k x : Nat} (h : SetAt w g f) (hk : k = 0 ∨ k = 1 ∨ k = 2 ∨ k = 3) (hx : wd f' k = x) (ho : ∀ j, j < 4 → j ≠ k → wd f' j = wd f j) :
    SetAt (w.setCell ⟨g, k, none⟩ (.int .u64 (x : Int))) g f' := by
  subst hx
  unfold SetAt at h ⊢
  rw [heap_setCell_same w g k _ _ _ h]
  unfold setC
  rcases hk with rfl | rfl | rfl | rfl
  · rw [ho 1 (by decide) (by decide), ho 2 (by decide) (by decide), ho 3 (by decide) (by decide)]; rfl
  · rw [ho 0 (by decide) (by decide), ho 2 (by decide) (by decide), ho 3 (by decide) (by decide)]; rfl
  · rw [ho 0 (by decide) (by decide), ho 1 (by decide) (by decide), ho 3 (by decide) (by decide)]; rfl
  · rw [ho 0 (by decide) (by decide), ho 1 (by decide) (by decide), ho 2 (by decide) (by decide)]; rfl
theorem SetAt.any {k x : Nat} (h : SetAt w g f) (hk : k = 0 ∨ k = 1 ∨ k = 2 ∨ k = 3) (hx : x < 18446744073709551616) :
    ∃ G, SetAt (w.setCell ⟨g, k, none⟩ (.int .u64 (x : Int))) g G ∧ wd G k = x ∧ ∀ j, j < 4 → j ≠ k → wd G j = wd f j := by
  have hw := fun j => wd_lt f j
  have hy : ∀ j, (if j = k then x else wd f j) < 18446744073709551616 := fun j => by split <;> simp [hx, hw]
  obtain ⟨G, g0, g1, g2, g3⟩ := set_of _ _ _ _ (hy 0) (hy 1) (hy 2) (hy 3)
  have hG : ∀ j, j < 4 → wd G j = if j = k then x else wd f j := by
    intro j hj
    have : j = 0 ∨ j = 1 ∨ j = 2 ∨ j = 3 := by omega
    rcases this with rfl | rfl | rfl | rfl
    · exact g0
    · exact g1
    · exact g2
    · exact g3
  have e1 : wd G k = x := by rw [hG k (by omega), if_pos rfl]
  have e2 : ∀ j, j < 4 → j ≠ k → wd G j = wd f j := fun j hj hne => by rw [hG j hj, if_neg hne]
  exact ⟨G, h.store hk e1 e2, e1, e2⟩
end

/-- What lies in the four numbers once the bytes from k on are read: each number's bits moved down to its first that is read. -/
def dn (f : Nat → Bool) (k : Nat) : Nat → Bool := fun c => decide (max k (64 * (c / 64)) + c % 64 < 64 * (c / 64 + 1)) && f (max k (64 * (c / 64)) + c % 64)
theorem dn_all (f : Nat → Bool) : alike (fun _ => false) (dn f 256) := fun c hc => by
  have : ¬ max 256 (64 * (c / 64)) + c % 64 < 64 * (c / 64 + 1) := by omega
  simp [dn, this]
theorem dn_zero (f : Nat → Bool) : alike (dn f 0) f := fun c _ => by
  have h1 : max 0 (64 * (c / 64)) + c % 64 = c := by omega
  have h2 : c < 64 * (c / 64 + 1) := by omega
  simp only [dn, h1, h2, decide_true, Bool.true_and]
theorem dn_wd (f : Nat → Bool) (k j i : Nat) (hi : i < 64) : dn f k (64 * j + i) = (decide (max k (64 * j) + i < 64 * (j + 1)) && f (max k (64 * j) + i)) := by
  have h1 : (64 * j + i) / 64 = j := by omega
  have h2 : (64 * j + i) % 64 = i := by omega
  simp only [dn, h1, h2]
theorem dn_other (f : Nat → Bool) (k j K i : Nat) (he : k = 64 * K + i) (hi : i < 64) (hj : j ≠ K) : wd (dn f k) j = wd (dn f (k + 1)) j := wd_congr fun x hx => by
  rw [dn_wd f k j x hx, dn_wd f (k + 1) j x hx]
  by_cases h : K < j
  · have h1 : max k (64 * j) = 64 * j := by omega
    have h2 : max (k + 1) (64 * j) = 64 * j := by omega
    rw [h1, h2]
  · have h1 : ¬ max k (64 * j) + x < 64 * (j + 1) := by omega
    have h2 : ¬ max (k + 1) (64 * j) + x < 64 * (j + 1) := by omega
    simp [h1, h2]
theorem dn_half (f : Nat → Bool) (k K i : Nat) (he : k = 64 * K + i) (hi : i < 64) :
    wd (dn f (k + 1)) K < 9223372036854775808 ∧ wd (dn f k) K = wd (dn f (k + 1)) K * 2 + (if f k then 1 else 0) := by
  have e1 : wd (dn f (k + 1)) K = num (fun x => dn f (k + 1) (64 * K + x)) 63 := by
    unfold wd
    show num _ 63 + (if dn f (k + 1) (64 * K + 63) = true then 2 ^ 63 else 0) = _
    have : dn f (k + 1) (64 * K + 63) = false := by
      rw [dn_wd f (k + 1) K 63 (by decide)]
      have : ¬ max (k + 1) (64 * K) + 63 < 64 * (K + 1) := by omega
      simp [this]
    rw [this]; simp
  have e2 : wd (dn f k) K = 2 * num (fun x => dn f k (64 * K + (x + 1))) 63 + (if dn f k (64 * K + 0) then 1 else 0) := num_cons _ 63
  have e3 : num (fun x => dn f k (64 * K + (x + 1))) 63 = num (fun x => dn f (k + 1) (64 * K + x)) 63 := num_congr fun x hx => by
    rw [dn_wd f k K (x + 1) (by omega), dn_wd f (k + 1) K x (by omega)]
    have h1 : max k (64 * K) + (x + 1) = k + 1 + x := by omega
    have h2 : max (k + 1) (64 * K) + x = k + 1 + x := by omega
    rw [h1, h2]
  have e4 : dn f k (64 * K + 0) = f k := by
    rw [dn_wd f k K 0 (by decide)]
    have h1 : max k (64 * K) + 0 = k := by omega
    have h2 : k < 64 * (K + 1) := by omega
    rw [h1]; simp [h2]
  rw [e2, e3, e4, ← e1]
  have hl := num_lt (fun x => dn f (k + 1) (64 * K + x)) 63
  rw [← e1] at hl
  exact ⟨hl, by omega⟩

def RelR (w : World) (f : Nat → Bool) (i : Value) (wr : World) : Prop :=
  ∃ k : Nat, k ≤ 256 ∧ i = .int .i64 ((k : Int) - 1) ∧ BoolsAt wr w.heap.size f ∧ SetAt wr (w.heap.size + 1) (fun _ => false) ∧ SetAt wr (w.heap.size + 2) (dn f k) ∧ Below w.heap.size w wr
theorem RelR.mk {w : World} {f : Nat → Bool} {i : Value} {wr : World} (h : ∃ k : Nat, k ≤ 256 ∧ i = .int .i64 ((k : Int) - 1) ∧ BoolsAt wr w.heap.size f ∧ SetAt wr (w.heap.size + 1) (fun _ => false) ∧ SetAt wr (w.heap.size + 2) (dn f k) ∧ Below w.heap.size w wr) : RelR w f i wr := h

end Go.Proofs.Ytiiaheaadbhomaa
