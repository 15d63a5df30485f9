/- Plain facts of trees: what fits, what is put, Re in two parts. -/
import Derived.Test.YtcloimdndcbchaaTreO
import Derived.Test.YtcloimdndcbchaaTreP
set_option linter.unusedVariables false
set_option maxRecDepth 100000
namespace Go.Proofs.Ytcloimdndcbchaa
open Go.RowKit

theorem fits_set (s : Nat → Bool) (t g : Int) : fitsN (setN s) t g = true := by
  unfold fitsN
  rw [show partsN (setN s) = [] from rfl, show wantedN (setN s) = setN s from rfl, sameN_self]
  simp [setN]
theorem fits_two (k : Int) (hk : k = 2 ∨ k = 3) (a b t g : Int) : fitsN (twoN k a b) t g = (okP t a && okP t b) := by
  unfold fitsN
  rcases hk with rfl | rfl
  · rw [show partsN (twoN 2 a b) = [a, b] from rfl, show wantedN (twoN 2 a b) = twoN 2 a b from rfl, sameN_self]
    simp [twoN]
  · rw [show partsN (twoN 3 a b) = [a, b] from rfl, show wantedN (twoN 3 a b) = twoN 3 a b from rfl, sameN_self]
    simp [twoN]
theorem fits_plain (k : Int) (hk : k = 0 ∨ k = 7 ∨ k = 8) (t g : Int) : fitsN ⟨k, 0, 0, 0, 0, 0, zset⟩ t g = true := by
  unfold fitsN
  rcases hk with rfl | rfl | rfl
  · rw [show partsN ⟨0, 0, 0, 0, 0, 0, zset⟩ = [] from rfl, show wantedN ⟨0, 0, 0, 0, 0, 0, zset⟩ = ⟨0, 0, 0, 0, 0, 0, zset⟩ from rfl, sameN_self]; simp
  · rw [show partsN ⟨7, 0, 0, 0, 0, 0, zset⟩ = [] from rfl, show wantedN ⟨7, 0, 0, 0, 0, 0, zset⟩ = ⟨7, 0, 0, 0, 0, 0, zset⟩ from rfl, sameN_self]; simp
  · rw [show partsN ⟨8, 0, 0, 0, 0, 0, zset⟩ = [] from rfl, show wantedN ⟨8, 0, 0, 0, 0, 0, zset⟩ = ⟨8, 0, 0, 0, 0, 0, zset⟩ from rfl, sameN_self]; simp
theorem putI_yes {ns : List Nod} {g : Nat} {n : Nod} (h : canPut ns g n = true) : putI ns g n = (ns.length : Int) := by simp [putI, h]
theorem putL_yes {ns : List Nod} {g : Nat} {n : Nod} (h : canPut ns g n = true) : putL ns g n = ns ++ [n] := by simp [putL, h]
theorem putI_no {ns : List Nod} {g : Nat} {n : Nod} (h : canPut ns g n = false) : putI ns g n = -1 := by simp [putI, h]
theorem putL_no {ns : List Nod} {g : Nat} {n : Nod} (h : canPut ns g n = false) : putL ns g n = ns := by simp [putL, h]
theorem canPut_of {ns : List Nod} {g : Nat} {n : Nod} (hl : ns.length < 1000) (h : fitsN n (ns.length : Int) (g : Int) = true) : canPut ns g n = true := by
  unfold canPut; rw [decide_eq_true hl, h]; rfl
theorem canPut_full {ns : List Nod} {g : Nat} {n : Nod} (hl : 1000 ≤ ns.length) : canPut ns g n = false := by
  unfold canPut; rw [decide_eq_false (by omega)]; rfl
theorem set_any_lit (B T o : Nat) (v : Value) (ns : List Nod) (g : Nat) (w : World) (h : Bldr w B T o v ns g) (s : Nat → Bool) (cs : Array Value) (hs : setC s = cs) (hf : ns.length < 1000) :
    Calls Try.prog 51 #[.pointer (some ⟨T, o, none⟩), .agg cs] w (BldRet w B T o v (ns.length : Int) (ns ++ [setN s]) g) := by
  have := set_any B T o v ns g w h s
  rw [putI_yes (canPut_of hf (fits_set s _ _)), putL_yes (canPut_of hf (fits_set s _ _))] at this
  unfold setV at this
  rw [hs] at this
  exact this
theorem set_num (n : Nat) (hn : n < 18446744073709551616) : ∃ s, setC s = #[.int .u64 (n : Int), .int .u64 0, .int .u64 0, .int .u64 0] := by
  obtain ⟨s, h0, h1, h2, h3⟩ := set_of n 0 0 0 hn (by decide) (by decide) (by decide)
  exact ⟨s, by unfold setC; rw [h0, h1, h2, h3]; rfl⟩
/-- A builder of nothing. -/
theorem bldr_new (w : World) : Bldr (w.alloc (.cells #[.slice none 0 0, .int .i64 0] 42)) w.heap.size w.heap.size 0 (.slice none 0 0) [] 0 :=
  ⟨⟨_, _, held_new w _ _, by decide, rfl, rfl⟩, World.ownsRow_nil _ _ _ _, by decide, by decide, by simp⟩
theorem apart_new {w : World} {B T o : Nat} {v : Value} {ns : List Nod} {g : Nat} (h : Bldr w B T o v ns g) : Apart (some ⟨w.heap.size, 0, none⟩) T v := fun ad e => by
  obtain rfl := Option.some.inj e
  refine ⟨by have := h.lt; show w.heap.size ≠ T; omega, fun e => ?_⟩
  have := (h.own.lt _ e.symm).2
  exact absurd this (Nat.lt_irrefl _)
/-- Cat of numbers that lie in a block of their own. -/
theorem cat_new (B T o : Nat) (v : Value) (ns : List Nod) (g : Nat) (w : World) (h : Bldr w B T o v ns g) (l : List Int) (hl : l.length ≤ 1000) :
    Calls Try.prog 19 #[.pointer (some ⟨T, o, none⟩), .slice (some ⟨w.heap.size, 0, none⟩) l.length l.length] (w.alloc (.cells (l.map (Value.int .i64)).toArray 3)) fun e w' => ∃ v', e = .returned (.int .i64 (catR ns g l).1) ∧ Bldr w' B T o v' (catR ns g l).2 g ∧ Chg w w' T o v v' := by
  have hb : Below w.heap.size w (w.alloc (.cells (l.map (Value.int .i64)).toArray 3)) := (Below.refl _ _).alloc (Nat.le_refl _) _
  have := cat_any B T o v ns g (some ⟨w.heap.size, 0, none⟩) l.length l.length (w.heap.size + 1) l _ (h.keep hb) rfl (Nat.le_refl _) (by omega) (vals_new w _ 3 (0, 0)) (by simp) (apart_new h)
  exact this.mono fun e w' ⟨v', h1, h2, h3⟩ => ⟨v', h1, h2, (Chg.of_below hb).trans h3⟩
theorem re_yes (B T o : Nat) (v : Value) (ns : List Nod) (g x : Nat) (w : World) (h : Bldr w B T o v ns g) (hx : x < ns.length) (hr : rightN (ns.take (x + 1)) (g : Int) = true) :
    Calls Try.prog 11 #[.pointer (some ⟨T, o, none⟩), .int .i64 (x : Int)] w (ReYes w (ns.take (x + 1)) g) :=
  (re_in B T o v ns g x w h hx).mono fun e w' hh => by
    rcases hh with ⟨_, h1⟩ | ⟨h1, _⟩
    · exact h1
    · rw [hr] at h1; cases h1
theorem re_no (B T o : Nat) (v : Value) (ns : List Nod) (g x : Nat) (w : World) (h : Bldr w B T o v ns g) (hx : x < ns.length) (hr : rightN (ns.take (x + 1)) (g : Int) = false) :
    Calls Try.prog 11 #[.pointer (some ⟨T, o, none⟩), .int .i64 (x : Int)] w (ReNo w) :=
  (re_in B T o v ns g x w h hx).mono fun e w' hh => by
    rcases hh with ⟨h1, _⟩ | ⟨_, h1⟩
    · rw [hr] at h1; cases h1
    · exact h1
end Go.Proofs.Ytcloimdndcbchaa
