/- Contracts, where it is known what they tell: Same of two rows of the same bytes; Rest, Text. -/
import Derived.Test.YtdjnlploddlkbaaScnI
import Derived.Test.YtdjnlploddlkbaaScnJ
import Derived.Test.YtdjnlploddlkbaaCopB
import Derived.Test.YtdjnlploddlkbaaSmB
set_option linter.unusedVariables false
set_option linter.unusedSimpArgs false
set_option maxRecDepth 100000
namespace Go.Proofs.Ytdjnlploddlkbaa
open Go.RowKit

/-- The references' test for the same bytes, of two rows of the same bytes. -/
theorem same_own {w : World} {b1 b2 n c1 c2 : Nat} {A1 A2 : Option Addr} {l : List UInt8} (h1 : OwnB w b1 (.slice A1 n c1) l) (h2 : OwnB w b2 (.slice A2 n c2) l) :
    Calls Try.prog 15 #[.slice A1 n c1, .slice A2 n c2] w fun e w' => e = .returned (.bool true) ∧ Below w.heap.size w w' := by
  obtain ⟨_, _, e1, -, k1, k2, k3⟩ := own_byt h1
  cases e1
  obtain ⟨_, _, e2, -, k4, k5, k6⟩ := own_byt h2
  cases e2
  refine (sameB_any A1 A2 l.length c1 l.length c2 l l w.heap.size w rfl rfl k1 k4 k2 k3 k6).mono fun e w' h => ?_
  obtain ⟨rfl, q, rfl⟩ := h
  rw [beq_self_eq_true]
  exact ⟨rfl, below_drewN (Below.refl _ _) q⟩
/-- Likewise of a row and of bytes that an argument holds. -/
theorem same_arg {w : World} {b1 B n n2 c1 c2 : Nat} {A1 A2 : Option Addr} {l : List UInt8} (h1 : OwnB w b1 (.slice A1 n c1) l) (hn2 : n2 = l.length) (hc2 : n2 ≤ c2) (h2 : Byt w B A2 l) (hB : B ≤ w.heap.size) :
    Calls Try.prog 15 #[.slice A1 n c1, .slice A2 n2 c2] w fun e w' => e = .returned (.bool true) ∧ Below w.heap.size w w' := by
  obtain ⟨_, _, e1, -, k1, k2, k3⟩ := own_byt h1
  cases e1
  refine (sameB_any A1 A2 l.length c1 n2 c2 l l w.heap.size w rfl hn2 k1 hc2 k2 k3 (h2.more hB)).mono fun e w' h => ?_
  obtain ⟨rfl, q, rfl⟩ := h
  rw [beq_self_eq_true]
  exact ⟨rfl, below_drewN (Below.refl _ _) q⟩
theorem rest_at {w : World} {B C : Nat} {v : Value} {l Y : List UInt8} {a : Nat} (h : Cur w B C v l a) (hmx : Mx w) (hY : lnOf (l.drop a) = Y) :
    Calls Try.prog 16 #[.pointer (some ⟨C, 0, none⟩)] w fun e w' => (∃ A c, e = .returned (.slice A Y.length c) ∧ OwnB w' w.heap.size (.slice A Y.length c) Y) ∧ ∃ a', CurQ w w' B C v l a' := by
  refine (rest_any h hmx).mono fun e w' hq => ?_
  obtain ⟨⟨u, rfl, ho⟩, hq⟩ := hq
  rw [hY] at ho
  obtain ⟨A, c, rfl, -⟩ := own_byt ho
  exact ⟨⟨A, c, rfl, ho⟩, _, hq⟩
theorem rest_to {w : World} {B C : Nat} {v : Value} {l Y : List UInt8} {a p : Nat} (h : Cur w B C v l a) (hmx : Mx w) (hY : lnOf (l.drop a) = Y) (hp : a + adv (l.drop a) = p) :
    Calls Try.prog 16 #[.pointer (some ⟨C, 0, none⟩)] w fun e w' => (∃ A c, e = .returned (.slice A Y.length c) ∧ OwnB w' w.heap.size (.slice A Y.length c) Y) ∧ CurQ w w' B C v l p := by
  refine (rest_any h hmx).mono fun e w' hq => ?_
  obtain ⟨⟨u, rfl, ho⟩, hq⟩ := hq
  rw [hY] at ho
  rw [hp] at hq
  obtain ⟨A, c, rfl, -⟩ := own_byt ho
  exact ⟨⟨A, c, rfl, ho⟩, hq⟩
theorem CurQ.trans {w w' w2 : World} {B C : Nat} {v : Value} {l : List UInt8} {a b : Nat} (h : CurQ w w' B C v l a) (k : CurQ w' w2 B C v l b) : CurQ w w2 B C v l b :=
  ⟨k.cur, k.grown.os.trans h.grown.os, k.grown.tape.trans h.grown.tape, k.grown.output.trans h.grown.output, Nat.le_trans h.grown.size k.grown.size, fun j hj hne => (k.grown.block j (Nat.lt_of_lt_of_le hj h.grown.size) hne).trans (h.grown.block j hj hne)⟩
theorem text_yes {w : World} {B C : Nat} {v : Value} {l t Z : List UInt8} {a p : Nat} (h : Cur w B C v l a) (hm : mnS (txtS (l.drop a)) = some t) (hZ : t ++ [10] = Z) (hp : min (a + plS (anyOf [10]) (l.drop a) + 1) l.length = p) :
    Calls Try.prog 17 #[.pointer (some ⟨C, 0, none⟩)] w fun e w' => (∃ A c, e = .returned (.tuple #[.slice A Z.length c, .int .i64 0]) ∧ OwnB w' w.heap.size (.slice A Z.length c) Z) ∧ CurQ w w' B C v l p := by
  refine (text_any h).mono fun e w' hq => ?_
  unfold TxtQ at hq
  rw [hm, hp] at hq
  obtain ⟨⟨u, rfl, ho⟩, hq⟩ := hq
  rw [hZ] at ho
  obtain ⟨A, c, rfl, -⟩ := own_byt ho
  exact ⟨⟨A, c, rfl, ho⟩, hq⟩
end Go.Proofs.Ytdjnlploddlkbaa
