/- A cursor in memory; contracts: At, left, passLine (package scan). -/
import Derived.Test.YtdjnlploddlkbaaOwnB
import Derived.Test.YtdjnlploddlkbaaScnA
import Derived.Deep.QuietTactic
import Derived.Deep.CutRange
import Derived.BigQuiet
set_option linter.unusedVariables false
set_option linter.unusedSimpArgs false
set_option maxRecDepth 100000
namespace Go.Proofs.Ytdjnlploddlkbaa
open Go.RowKit

/-- A cursor at block C, over the text l, at the place a; what was made for it lies behind B. -/
structure Cur (w : World) (B C : Nat) (v : Value) (l : List UInt8) (a : Nat) : Prop where
  held : Held w C 45 #[v, .int .i64 (a : Int)]
  own : OwnB w B v l
  base : B ≤ C
  le : a ≤ l.length
  few : l.length ≤ 1000000
section
variable {w w' : World} {B C : Nat} {v : Value} {l : List UInt8} {a : Nat}
theorem Cur.keep (h : Cur w B C v l a) (hb : Below w.heap.size w w') : Cur w' B C v l a := ⟨h.held.keep hb, h.own.keep hb, h.base, h.le, h.few⟩
theorem Cur.lower (h : Cur w B C v l a) {B' : Nat} (hB : B' ≤ B) : Cur w B' C v l a := ⟨h.held, sw_base h.own hB, Nat.le_trans hB h.base, h.le, h.few⟩
theorem Cur.lt (h : Cur w B C v l a) : C < w.heap.size := h.held.lt
theorem Cur.goto (h : Cur w B C v l a) {b : Nat} (hb : b ≤ l.length) : Cur (w.setCell ⟨C, 1, none⟩ (.int .i64 (b : Int))) B C v l b :=
  ⟨h.held.put 1 _, sw_far h.held (by decide) h.own 1 _, h.base, hb, h.few⟩
theorem Cur.goto' (h : Cur w B C v l a) {b : Nat} (hb : b ≤ l.length) {z : Int} (hz : z = (b : Int)) : Cur (w.setCell ⟨C, 1, none⟩ (.int .i64 z)) B C v l b := by subst hz; exact h.goto hb
/-- What a call on the cursor turns: the cursor's block. -/
theorem cur_grown (w : World) (C i : Nat) (u : Value) : w.grownBy (w.setCell ⟨C, i, none⟩ u) (some C) := by
  have hb : Below 0 w (w.setCell ⟨C, i, none⟩ u) := (Below.refl 0 w).setCell (Nat.zero_le _) u
  exact ⟨hb.os, hb.tape, hb.output, hb.size, fun k _ hk => heap_setCell_other w ⟨C, i, none⟩ k u (fun e => hk (by rw [e]))⟩
theorem grown_keep {r : Option Nat} (h : w.grownBy w' r) {w2 : World} (hb : Below w'.heap.size w' w2) : w.grownBy w2 r :=
  ⟨hb.os.trans h.os, hb.tape.trans h.tape, hb.output.trans h.output, Nat.le_trans h.size hb.size, fun k hk hr => (hb.block k (Nat.lt_of_lt_of_le hk h.size)).trans (h.block k hk hr)⟩
theorem keep_grown {r : Option Nat} (hb : Below w.heap.size w w') {w2 : World} (h : w'.grownBy w2 r) : w.grownBy w2 r :=
  ⟨h.os.trans hb.os, h.tape.trans hb.tape, h.output.trans hb.output, Nat.le_trans hb.size h.size, fun k hk hr => (h.block k (Nat.lt_of_lt_of_le hk hb.size) hr).trans (hb.block k hk)⟩
end
/-- The rest of a text, as a slice. -/
def leftV (v : Value) (a : Nat) : Value :=
  match v with
  | .slice A n c => .slice (if c = a then A else A.map (·.add a)) (n - a) (c - a)
  | v => v
section
variable {w : World} {B C : Nat} {v : Value} {l : List UInt8} {a : Nat}
/-- The text as a slice: it begins at its block's beginning, or it is nil. -/
theorem OwnB.text (h : OwnB w B v l) : ∃ A c, v = .slice A l.length c ∧ l.length ≤ c ∧ c ≤ maxLen ∧ (A = none → c = 0) ∧ Byt w w.heap.size A l := by
  obtain ⟨A, c, rfl, h1, h2, h3, h4⟩ := own_byt h
  refine ⟨A, c, rfl, h2, h3, fun e => ?_, h4⟩
  subst e
  rcases h.2 with ⟨e, _⟩ | ⟨g, _, _, e, _⟩
  · injection e
  · injection e with e; cases e
/-- The rest of the text. -/
theorem OwnB.rest (h : OwnB w B v l) (hle : a ≤ l.length) : ∃ A c, leftV v a = .slice A (l.drop a).length c ∧ (l.drop a).length ≤ c ∧ c ≤ maxLen ∧ (A = none → c = 0) ∧ Byt w w.heap.size A (l.drop a) := by
  obtain ⟨A, c, rfl, h1, h2, h3, h4⟩ := h.text
  have hcut := h4.cut (i := a) (j := l.length) (cap := c) (Nat.le_refl _) h1
  rw [List.take_length] at hcut
  refine ⟨_, c - a, by rw [List.length_drop]; rfl, by rw [List.length_drop]; omega, by omega, fun e => ?_, hcut⟩
  split at e
  · omega
  · cases A with
    | none => have := h3 rfl; omega
    | some ad => cases e
theorem Cur.text (h : Cur w B C v l a) : ∃ A c, v = .slice A l.length c ∧ l.length ≤ c ∧ c ≤ maxLen ∧ (A = none → c = 0) ∧ Byt w w.heap.size A l := h.own.text
theorem Cur.rest (h : Cur w B C v l a) : ∃ A c, leftV v a = .slice A (l.drop a).length c ∧ (l.drop a).length ≤ c ∧ c ≤ maxLen ∧ (A = none → c = 0) ∧ Byt w w.heap.size A (l.drop a) := h.own.rest h.le
/-- The same slice, in another world. -/
theorem OwnB.rest_at {w' : World} (h : OwnB w' B v l) (hle : a ≤ l.length) {A : Option Addr} {m c : Nat} (hv : leftV v a = .slice A m c) : Byt w' w'.heap.size A (l.drop a) := by
  obtain ⟨A', c', e, _, _, _, hb⟩ := h.rest hle
  rw [hv] at e
  cases e
  exact hb
theorem Byt.pre {A : Option Addr} (h : Byt w B A l) (k : Nat) : Byt w B A (l.take k) := fun j hj => by
  have hj' : j < l.length := by rw [List.length_take] at hj; omega
  obtain ⟨ad, h1, h2, h3⟩ := h.at_ hj'
  exact ⟨ad, h1, h2, by rw [h3, List.getElem_take]⟩
theorem at_any (h : Cur w B C v l a) : Calls Try.prog 11 #[.pointer (some ⟨C, 0, none⟩)] w fun e w' => e = .returned (.int .i64 (a : Int)) ∧ w = w' := by
  have c1 : w.cell? ⟨C, 1, none⟩ = some (.int .i64 (a : Int)) := h.held.at_ rfl
  clear h
  go_enter Try.func11, Try.ntmps11
  go_wp2
  go_ret
  exact ⟨rfl, rfl⟩
theorem at_nil (w : World) : Calls Try.prog 11 #[.pointer none] w fun e w' => e = .returned (.int .i64 0) ∧ w = w' := by
  go_enter Try.func11, Try.ntmps11
  go_wp2
  go_ret
  exact ⟨rfl, rfl⟩
theorem left_nil (w : World) : Calls Try.prog 24 #[.pointer none] w fun e w' => e = .returned (.slice none 0 0) ∧ w = w' := by
  go_enter Try.func24, Try.ntmps24
  go_wp2
  go_ret
  exact ⟨rfl, rfl⟩
set_option maxHeartbeats 1000000 in
theorem left_any (h : Cur w B C v l a) : Calls Try.prog 24 #[.pointer (some ⟨C, 0, none⟩)] w fun e w' => e = .returned (leftV v a) ∧ ∃ q, w' = w.drewN q := by
  obtain ⟨A, c, rfl, h1, h2, h3, -⟩ := h.text
  have c0 : w.cell? ⟨C, 0, none⟩ = some (.slice A l.length c) := h.held.at_ rfl
  have c1 : w.cell? ⟨C, 1, none⟩ = some (.int .i64 (a : Int)) := h.held.at_ rfl
  have hle := h.le
  have hfew := h.few
  clear h h3
  unfold maxLen at h2
  generalize l.length = n at *
  go_enter Try.func24, Try.ntmps24
  have hlv := Lib.hid (show leftV (.slice A n c) a = .slice (if c = a then A else A.map (·.add a)) (n - a) (c - a) from rfl)
  go_wp2_with (first | go_region | fail)
  all_goals
    go_ret
    refine ⟨?_, by first | exact ⟨_, rfl⟩ | exact ⟨_, World.drewN_drewN _ _ _⟩⟩
    first
      | (rw [hlv.out, if_neg (by assumption)]; rfl)
      | (simp [leftV]; done)
set_option maxHeartbeats 2000000 in
theorem passLine_any (h : Cur w B C v l a) (k : Nat) (hk : k ≤ l.length) :
    Calls Try.prog 30 #[.pointer (some ⟨C, 0, none⟩), .int .i64 (k : Int)] w fun e w' => e = .returned (.tuple #[]) ∧ Cur w' B C v l (min (a + k + 1) l.length) ∧ w.grownBy w' (some C) := by
  have hgo := Lib.hid (fun (z : Int) (hz : z = ((min (a + k + 1) l.length : Nat) : Int)) => (h.goto' (Nat.min_le_right _ _) hz).keep (below_drewN (Below.refl _ _) 1))
  have hgr := Lib.hid (fun (z : Int) => grown_keep (cur_grown w C 1 (.int .i64 z)) (below_drewN (Below.refl _ _) 1))
  obtain ⟨A, c, rfl, h1, h2, h3, -⟩ := h.text
  have c0 : w.cell? ⟨C, 0, none⟩ = some (.slice A l.length c) := h.held.at_ rfl
  have c1 : w.cell? ⟨C, 1, none⟩ = some (.int .i64 (a : Int)) := h.held.at_ rfl
  have t1 : w.frozen? ⟨C, 1, none⟩ = false := h.held.thawed 1
  have hle := h.le
  have hfew := h.few
  clear h h3
  unfold maxLen at h2
  generalize hN : l.length = n at *
  clear hN
  go_enter Try.func30, Try.ntmps30
  go_wp2_with (first | go_region | fail)
  all_goals
    go_end0
    exact ⟨rfl, hgo.out _ (by omega), hgr.out _⟩
end
end Go.Proofs.Ytdjnlploddlkbaa
