/- Contracts: parts, areTimes, wanted. -/
import Derived.Test.YtbgalmnhhjiagaaM06
import Derived.Deep.WholeRow
set_option maxRecDepth 100000
namespace Go.Proofs.Ytbgalmnhhjiagaa
open Go.RowKit

/-- The nodes that a node is made of. -/
def partsN (n : Nod) : List Int := if n.kind = 2 ∨ n.kind = 3 then [n.a, n.b] else if n.kind = 4 ∨ n.kind = 5 then [n.a] else []
def timesN (lo hi : Int) : Bool := decide (0 ≤ lo) && (decide (lo ≤ 255) && (decide (hi = -1) || (decide (lo ≤ hi) && decide (hi ≤ 255))))
def wantedN (n : Nod) : Nod :=
  if n.kind = 1 then { kind := n.kind, a := 0, b := 0, lo := 0, hi := 0, grp := 0, set := n.set } else
  if n.kind = 2 ∨ n.kind = 3 then { kind := n.kind, a := n.a, b := n.b, lo := 0, hi := 0, grp := 0, set := zset } else
  if n.kind = 4 then { kind := n.kind, a := n.a, b := 0, lo := n.lo, hi := n.hi, grp := 0, set := zset } else
  if n.kind = 5 then { kind := n.kind, a := n.a, b := 0, lo := 0, hi := 0, grp := n.grp, set := zset } else
  if n.kind = 6 then { kind := n.kind, a := 0, b := 0, lo := 0, hi := 0, grp := n.grp, set := zset } else
  { kind := n.kind, a := 0, b := 0, lo := 0, hi := 0, grp := 0, set := zset }
theorem nodV_lit (k a b lo hi g : Int) (s : Nat → Bool) : nodV ⟨k, a, b, lo, hi, g, s⟩ = .agg #[.int .i64 k, .int .i64 a, .int .i64 b, .int .i64 lo, .int .i64 hi, .int .i64 g, .int .u64 (wd s 0 : Nat), .int .u64 (wd s 1 : Nat), .int .u64 (wd s 2 : Nat), .int .u64 (wd s 3 : Nat)] := rfl
theorem partsN_2 {n : Nod} (h : n.kind = 2) : partsN n = [n.a, n.b] := by simp [partsN, h]
theorem partsN_3 {n : Nod} (h : n.kind = 3) : partsN n = [n.a, n.b] := by simp [partsN, h]
theorem partsN_4 {n : Nod} (h : n.kind = 4) : partsN n = [n.a] := by simp [partsN, h]
theorem partsN_5 {n : Nod} (h : n.kind = 5) : partsN n = [n.a] := by simp [partsN, h]
theorem partsN_else {n : Nod} (h2 : n.kind ≠ 2) (h3 : n.kind ≠ 3) (h4 : n.kind ≠ 4) (h5 : n.kind ≠ 5) : partsN n = [] := by simp [partsN, h2, h3, h4, h5]
theorem beq_no {a b : Int} (h : a ≠ b) : (a == b) = false := by rw [beq_eq_false_iff_ne]; exact h

/-- What parts tells: a slice of its own. -/
def PartsRet (w : World) (l : List Int) (e : Ending) (w' : World) : Prop :=
  ∃ A n c, e = .returned (.slice A n c) ∧ n = l.length ∧ n ≤ c ∧ c ≤ 2 ∧ Vals w' w'.heap.size A (l.map (Value.int .i64)) ∧ (∀ ad, A = some ad → w.heap.size ≤ ad.block) ∧ Below w.heap.size w w'

theorem alloc2_below (w : World) (o1 o2 : Obj) : Below w.heap.size w ((w.alloc o1).alloc o2) := ((Below.refl _ _).alloc (Nat.le_refl _) _).alloc (by simp) _
set_option maxHeartbeats 1000000 in
theorem parts_any (n : Nod) (w : World) : Calls Try.prog 21 #[nodV n] w (PartsRet w (partsN n)) := by
  have two : ∀ a b : Int, PartsRet w [a, b] (.returned (.slice (some ⟨w.heap.size + 1, 0, none⟩) 2 2)) ((w.alloc (.cells (nodC n) 49)).alloc (.cells #[.int .i64 a, .int .i64 b] 3)) := fun a b =>
    ⟨_, 2, 2, rfl, rfl, Nat.le_refl _, Nat.le_refl _, by
      have := vals_new (w.alloc (.cells (nodC n) 49)) [.int .i64 a, .int .i64 b] 3 (0, 0)
      rw [sizeA'] at this
      rw [sizeA', sizeA']; exact this, (fun ad e => by cases e; show w.heap.size ≤ w.heap.size + 1; omega), alloc2_below _ _ _⟩
  have one : ∀ a : Int, PartsRet w [a] (.returned (.slice (some ⟨w.heap.size + 1, 0, none⟩) 1 1)) ((w.alloc (.cells (nodC n) 49)).alloc (.cells #[.int .i64 a] 3)) := fun a =>
    ⟨_, 1, 1, rfl, rfl, Nat.le_refl _, by omega, by
      have := vals_new (w.alloc (.cells (nodC n) 49)) [.int .i64 a] 3 (0, 0)
      rw [sizeA'] at this
      rw [sizeA', sizeA']; exact this, (fun ad e => by cases e; show w.heap.size ≤ w.heap.size + 1; omega), alloc2_below _ _ _⟩
  have none_ : PartsRet w [] (.returned (.slice none 0 0)) (w.alloc (.cells (nodC n) 49)) :=
    ⟨_, 0, 0, rfl, rfl, Nat.le_refl _, by omega, Vals.none_ _ _ _, (fun ad e => by cases e), (Below.refl _ _).alloc (Nat.le_refl _) _⟩
  replace two := Lib.hid two
  replace one := Lib.hid one
  replace none_ := Lib.hid none_
  by_cases h2 : n.kind = 2
  · rw [partsN_2 h2]
    obtain ⟨k, a, b, lo, hi, g, s⟩ := n
    simp only at h2
    subst h2
    rw [nodV_lit]
    go_enter Try.func21, Try.ntmps21
    go_wp2
    go_ret
    exact two.out a b
  by_cases h3 : n.kind = 3
  · rw [partsN_3 h3]
    obtain ⟨k, a, b, lo, hi, g, s⟩ := n
    simp only at h3
    subst h3
    rw [nodV_lit]
    clear h2
    go_enter Try.func21, Try.ntmps21
    go_wp2
    go_ret
    exact two.out a b
  by_cases h4 : n.kind = 4
  · rw [partsN_4 h4]
    obtain ⟨k, a, b, lo, hi, g, s⟩ := n
    simp only at h4
    subst h4
    rw [nodV_lit]
    clear h2 h3
    go_enter Try.func21, Try.ntmps21
    go_wp2
    go_ret
    exact one.out a
  by_cases h5 : n.kind = 5
  · rw [partsN_5 h5]
    obtain ⟨k, a, b, lo, hi, g, s⟩ := n
    simp only at h5
    subst h5
    rw [nodV_lit]
    clear h2 h3 h4
    go_enter Try.func21, Try.ntmps21
    go_wp2
    go_ret
    exact one.out a
  · rw [partsN_else h2 h3 h4 h5]
    obtain ⟨k, a, b, lo, hi, g, s⟩ := n
    replace h2 := beq_no h2
    replace h3 := beq_no h3
    replace h4 := beq_no h4
    replace h5 := beq_no h5
    simp only at h2 h3 h4 h5
    rw [nodV_lit]
    go_enter Try.func21, Try.ntmps21
    go_wp2
    go_ret
    exact none_.out

theorem areTimes_any (lo hi : Int) (w : World) : Calls Try.prog 32 #[.int .i64 lo, .int .i64 hi] w fun e w' => e = .returned (.bool (timesN lo hi)) ∧ w = w' := by
  have hT : ∀ b, timesN lo hi = b → Ending.returned (.bool b) = .returned (.bool (timesN lo hi)) := fun b h => by rw [h]
  by_cases h1 : lo < 0
  · rw [show timesN lo hi = false by have : ¬ 0 ≤ lo := by omega
                                     simp [timesN, this]]
    clear hT
    go_enter Try.func32, Try.ntmps32
    go_wp2
    go_ret
    exact ⟨rfl, rfl⟩
  by_cases h2 : 255 < lo
  · rw [show timesN lo hi = false by have : ¬ lo ≤ 255 := by omega
                                     simp [timesN, this]]
    clear hT
    go_enter Try.func32, Try.ntmps32
    go_wp2
    go_ret
    exact ⟨rfl, rfl⟩
  have h1' : 0 ≤ lo := by omega
  have h2' : lo ≤ 255 := by omega
  by_cases h3 : hi = -1
  · subst h3
    rw [show timesN lo (-1) = true by simp [timesN, h1', h2']]
    clear hT
    go_enter Try.func32, Try.ntmps32
    go_wp2
    go_ret
    exact ⟨rfl, rfl⟩
  have h3' := beq_no h3
  by_cases h4 : lo ≤ hi
  · rw [show timesN lo hi = decide (hi ≤ 255) by simp [timesN, h1', h2', h3, h4]]
    clear hT h3
    go_enter Try.func32, Try.ntmps32
    go_wp2
    go_ret
    exact ⟨rfl, rfl⟩
  · rw [show timesN lo hi = false by simp [timesN, h1', h2', h3, h4]]
    clear hT h3
    go_enter Try.func32, Try.ntmps32
    go_wp2
    go_ret
    exact ⟨rfl, rfl⟩
end Go.Proofs.Ytbgalmnhhjiagaa
