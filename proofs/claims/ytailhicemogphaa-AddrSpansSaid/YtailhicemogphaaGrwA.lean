/- What a store into one block, and a call that keeps all below its world, leave of other blocks; nothing here speaks of a program. -/
import Derived.Test.YtailhicemogphaaHeld
import Derived.OwnWalk
set_option linter.unusedVariables false
set_option maxRecDepth 100000
namespace Go.Proofs.Ytailhicemogphaa
open Go.RowKit
section
variable {w w' : World}
/-- A store turns its block alone. -/
theorem cur_grown (w : World) (C i : Nat) (u : Value) : w.grownBy (w.setCell ⟨C, i, none⟩ u) (some C) := by
  have hb : Below 0 w (w.setCell ⟨C, i, none⟩ u) := (Below.refl 0 w).setCell (Nat.zero_le _) u
  exact ⟨hb.os, hb.tape, hb.output, hb.size, fun k _ hk => heap_setCell_other w ⟨C, i, none⟩ k u (fun e => hk (by rw [e]))⟩
theorem grown_keep {r : Option Nat} (h : w.grownBy w' r) {w2 : World} (hb : Below w'.heap.size w' w2) : w.grownBy w2 r :=
  ⟨hb.os.trans h.os, hb.tape.trans h.tape, hb.output.trans h.output, Nat.le_trans h.size hb.size, fun k hk hr => (hb.block k (Nat.lt_of_lt_of_le hk h.size)).trans (h.block k hk hr)⟩
theorem keep_grown {r : Option Nat} (hb : Below w.heap.size w w') {w2 : World} (h : w'.grownBy w2 r) : w.grownBy w2 r :=
  ⟨h.os.trans hb.os, h.tape.trans hb.tape, h.output.trans hb.output, Nat.le_trans hb.size h.size, fun k hk hr => (h.block k (Nat.lt_of_lt_of_le hk hb.size) hr).trans (hb.block k hk)⟩
theorem grown_below {w w' : World} {K : Nat} (h : w.grownBy w' (some K)) (hK : K < w.heap.size) : Below K w w' :=
  (Below.refl K w).grown h (Nat.le_of_lt hK) (fun k e => by cases e; exact Nat.le_refl _)
theorem grown_none (h : Below w.heap.size w w') (r : Option Nat) : w.grownBy w' r := ⟨h.os, h.tape, h.output, h.size, fun k hk _ => h.block k hk⟩
theorem none_below (h : w.grownBy w' none) : Below w.heap.size w w' := ⟨h.os, h.tape, h.output, h.size, fun k hk => h.block k hk (by simp)⟩
theorem grown_two {r : Option Nat} (h : w.grownBy w' r) {w2 : World} (k : w'.grownBy w2 r) : w.grownBy w2 r :=
  ⟨k.os.trans h.os, k.tape.trans h.tape, k.output.trans h.output, Nat.le_trans h.size k.size, fun i hi hr => (k.block i (Nat.lt_of_lt_of_le hi h.size) hr).trans (h.block i hi hr)⟩
theorem below_drewN {B : Nat} (h : Below B w w') (n : Nat) : Below B w (w'.drewN n) := ⟨h.os, h.tape, h.output, h.size, h.block⟩
theorem grown_drew {r : Option Nat} (h : w.grownBy w' r) : w.grownBy w'.drew r := ⟨h.os, h.tape, h.output, h.size, h.block⟩
end
end Go.Proofs.Ytailhicemogphaa
