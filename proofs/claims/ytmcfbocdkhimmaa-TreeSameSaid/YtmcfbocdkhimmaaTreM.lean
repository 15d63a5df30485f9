/- Plain facts of trees; the contract of the law's awake. -/
import Derived.Test.YtmcfbocdkhimmaaTreO
import Derived.Test.YtmcfbocdkhimmaaTreP
import Derived.Test.YtmcfbocdkhimmaaTreJ
set_option linter.unusedVariables false
namespace Go.Proofs.Ytmcfbocdkhimmaa
open Go.RowKit

theorem fits_set (s : Nat → Bool) (t g : Int) : fitsN (setN s) t g = true := by
  unfold fitsN
  rw [show partsN (setN s) = [] from rfl, show wantedN (setN s) = setN s from rfl, sameN_self]
  simp [setN]
theorem fits_two (k : Int) (hk : k = 2 ∨ k = 3) (a b t g : Int) : fitsN (twoN k a b) t g = (okP t a && okP t b) := by
  unfold fitsN
  rcases hk with rfl | rfl
  · rw [show partsN (twoN 2 a b) = [a, b] from rfl, show wantedN (twoN 2 a b) = twoN 2 a b from rfl, sameN_self]
    simp [twoN]
  · rw [show partsN (twoN 3 a b) = [a, b] from rfl, show wantedN (twoN 3 a b) = twoN 3 a b from rfl, sameN_self]
    simp [twoN]
theorem fits_plain (k : Int) (hk : k = 0 ∨ k = 7 ∨ k = 8) (t g : Int) : fitsN ⟨k, 0, 0, 0, 0, 0, zset⟩ t g = true := by
  unfold fitsN
  rcases hk with rfl | rfl | rfl
  · rw [show partsN ⟨0, 0, 0, 0, 0, 0, zset⟩ = [] from rfl, show wantedN ⟨0, 0, 0, 0, 0, 0, zset⟩ = ⟨0, 0, 0, 0, 0, 0, zset⟩ from rfl, sameN_self]; simp
  · rw [show partsN ⟨7, 0, 0, 0, 0, 0, zset⟩ = [] from rfl, show wantedN ⟨7, 0, 0, 0, 0, 0, zset⟩ = ⟨7, 0, 0, 0, 0, 0, zset⟩ from rfl, sameN_self]; simp
  · rw [show partsN ⟨8, 0, 0, 0, 0, 0, zset⟩ = [] from rfl, show wantedN ⟨8, 0, 0, 0, 0, 0, zset⟩ = ⟨8, 0, 0, 0, 0, 0, zset⟩ from rfl, sameN_self]; simp
theorem putI_yes {ns : List Nod} {g : Nat} {n : Nod} (h : canPut ns g n = true) : putI ns g n = (ns.length : Int) := by simp [putI, h]
theorem putL_yes {ns : List Nod} {g : Nat} {n : Nod} (h : canPut ns g n = true) : putL ns g n = ns ++ [n] := by simp [putL, h]
theorem putI_no {ns : List Nod} {g : Nat} {n : Nod} (h : canPut ns g n = false) : putI ns g n = -1 := by simp [putI, h]
theorem putL_no {ns : List Nod} {g : Nat} {n : Nod} (h : canPut ns g n = false) : putL ns g n = ns := by simp [putL, h]
theorem canPut_of {ns : List Nod} {g : Nat} {n : Nod} (hl : ns.length < 1000) (h : fitsN n (ns.length : Int) (g : Int) = true) : canPut ns g n = true := by
  unfold canPut; rw [decide_eq_true hl, h]; rfl
theorem canPut_full {ns : List Nod} {g : Nat} {n : Nod} (hl : 1000 ≤ ns.length) : canPut ns g n = false := by
  unfold canPut; rw [decide_eq_false (by omega)]; rfl
theorem set_any_lit (B T o : Nat) (v : Value) (ns : List Nod) (g : Nat) (w : World) (h : Bldr w B T o v ns g) (s : Nat → Bool) (cs : Array Value) (hs : setC s = cs) (hf : ns.length < 1000) :
    Calls Try.prog 10 #[.pointer (some ⟨T, o, none⟩), .agg cs] w (BldRet w B T o v (ns.length : Int) (ns ++ [setN s]) g) := by
  have := set_any B T o v ns g w h s
  rw [putI_yes (canPut_of hf (fits_set s _ _)), putL_yes (canPut_of hf (fits_set s _ _))] at this
  unfold setV at this
  rw [hs] at this
  exact this
theorem set_num (n : Nat) (hn : n < 18446744073709551616) : ∃ s, setC s = #[.int .u64 (n : Int), .int .u64 0, .int .u64 0, .int .u64 0] := by
  obtain ⟨s, h0, h1, h2, h3⟩ := set_of n 0 0 0 hn (by decide) (by decide) (by decide)
  exact ⟨s, by unfold setC; rw [h0, h1, h2, h3]; rfl⟩
/-- A builder of nothing. -/
theorem bldr_new (w : World) : Bldr (w.alloc (.cells #[.slice none 0 0, .int .i64 0] 28)) w.heap.size w.heap.size 0 (.slice none 0 0) [] 0 :=
  ⟨⟨_, _, held_new w _ _, by decide, rfl, rfl⟩, World.ownsRow_nil _ _ _ _, by decide, by decide, by simp⟩
theorem apart_new {w : World} {B T o : Nat} {v : Value} {ns : List Nod} {g : Nat} (h : Bldr w B T o v ns g) : Apart (some ⟨w.heap.size, 0, none⟩) T v := fun ad e => by
  obtain rfl := Option.some.inj e
  refine ⟨by have := h.lt; show w.heap.size ≠ T; omega, fun e => ?_⟩
  have := (h.own.lt _ e.symm).2
  exact absurd this (Nat.lt_irrefl _)
/-- Cat of numbers that lie in a block of their own. -/
theorem cat_new (B T o : Nat) (v : Value) (ns : List Nod) (g : Nat) (w : World) (h : Bldr w B T o v ns g) (l : List Int) (hl : l.length ≤ 1000) :
    Calls Try.prog 11 #[.pointer (some ⟨T, o, none⟩), .slice (some ⟨w.heap.size, 0, none⟩) l.length l.length] (w.alloc (.cells (l.map (Value.int .i64)).toArray 3)) fun e w' => ∃ v', e = .returned (.int .i64 (catR ns g l).1) ∧ Bldr w' B T o v' (catR ns g l).2 g ∧ Chg w w' T o v v' := by
  have hb : Below w.heap.size w (w.alloc (.cells (l.map (Value.int .i64)).toArray 3)) := (Below.refl _ _).alloc (Nat.le_refl _) _
  have := cat_any B T o v ns g (some ⟨w.heap.size, 0, none⟩) l.length l.length (w.heap.size + 1) l _ (h.keep hb) rfl (Nat.le_refl _) (by omega) (vals_new w _ 3 (0, 0)) (by simp) (apart_new h)
  exact this.mono fun e w' ⟨v', h1, h2, h3⟩ => ⟨v', h1, h2, (Chg.of_below hb).trans h3⟩
theorem re_yes (B T o : Nat) (v : Value) (ns : List Nod) (g x : Nat) (w : World) (h : Bldr w B T o v ns g) (hx : x < ns.length) (hr : rightN (ns.take (x + 1)) (g : Int) = true) :
    Calls Try.prog 13 #[.pointer (some ⟨T, o, none⟩), .int .i64 (x : Int)] w (ReYes w (ns.take (x + 1)) g) :=
  (re_in B T o v ns g x w h hx).mono fun e w' hh => by
    rcases hh with ⟨_, h1⟩ | ⟨h1, _⟩
    · exact h1
    · rw [hr] at h1; cases h1
theorem re_no (B T o : Nat) (v : Value) (ns : List Nod) (g x : Nat) (w : World) (h : Bldr w B T o v ns g) (hx : x < ns.length) (hr : rightN (ns.take (x + 1)) (g : Int) = false) :
    Calls Try.prog 13 #[.pointer (some ⟨T, o, none⟩), .int .i64 (x : Int)] w (ReNo w) :=
  (re_in B T o v ns g x w h hx).mono fun e w' hh => by
    rcases hh with ⟨h1, _⟩ | ⟨_, h1⟩
    · rw [hr] at h1; cases h1
    · exact h1

/-! ### The document's example -/
def exN (s t : Nat → Bool) : List Nod := [setN s, setN t, twoN 2 0 1]
theorem ex_right (s t : Nat → Bool) : rightN (exN s t) 0 = true := by
  rw [rightN_end (by simp [exN])]
  · rfl
  · intro k hk
    match k, hk with
    | 0, _ => exact fits_set s _ _
    | 1, _ => exact fits_set t _ _
    | 2, _ =>
      show fitsN (twoN 2 0 1) _ _ = true
      rw [fits_two 2 (.inl rfl)]; rfl
theorem ex_least (s t : Nat → Bool) : leastNs (exN s t) 0 = 2 := by
  unfold leastNs
  rw [if_pos (ex_right s t)]
  rfl
theorem ex_cat (s t : Nat → Bool) : catR ([setN s] ++ [setN t]) 0 [0, 1] = (2, exN s t) := by
  unfold catR
  rw [if_neg (by simp)]
  show (if okP ((2 : Nat) : Int) 0 = true then chainGo 0 2 0 ([setN s] ++ [setN t]) [1] else (-1, [setN s] ++ [setN t])) = _
  rw [if_pos (by rfl)]
  show (if canPut ([setN s] ++ [setN t]) 0 (twoN 2 0 1) = true then chainGo 0 2 ((2 : Nat) : Int) ([setN s] ++ [setN t] ++ [twoN 2 0 1]) [] else (-1, [setN s] ++ [setN t])) = _
  rw [if_pos (canPut_of (by simp) (by rw [fits_two 2 (.inl rfl)]; rfl))]
  rfl
/-- What Re answers, opened: a slice of so many nodes. -/
def ReSl (w : World) (ns : List Nod) (g n : Nat) (e : Ending) (w' : World) : Prop :=
  ∃ A c, e = .returned (.tuple #[.agg #[.slice A n c, .int .i64 (g : Int)], .bool true]) ∧ n ≤ c ∧ c ≤ maxLen ∧ Nods w' w'.heap.size A ns ∧ Below w.heap.size w w'
theorem ReYes.sl {w w' : World} {ns : List Nod} {g n : Nat} {e : Ending} (h : ReYes w ns g e w') (hn : ns.length = n) : ReSl w ns g n e w' := by
  obtain ⟨v, rfl, ho, hb⟩ := h
  obtain ⟨A, c, rfl, _, h1, h2, h3⟩ := own_nods ho
  rw [hn] at h1 ⊢
  exact ⟨A, c, rfl, h1, h2, h3, hb⟩

set_option maxHeartbeats 4000000 in
theorem awake_any (w : World) : Calls Try.prog 5 #[] w fun e w' => e = .returned (.bool true) ∧ Below w.heap.size w w' := by
  obtain ⟨s2, e2⟩ := set_num 2 (by decide)
  obtain ⟨s4, e4⟩ := set_num 4 (by decide)
  have hB0 := Lib.hid (bldr_new w)
  have hb0 := Lib.hid ((Below.refl w.heap.size w).alloc (Nat.le_refl _) (.cells #[.slice none 0 0, .int .i64 0] 28))
  have hS2 := Lib.hid (fun w' h => set_any_lit w.heap.size w.heap.size 0 (.slice none 0 0) [] 0 w' h s2 _ e2 (by decide))
  have hS4 := Lib.hid (fun v w' h => set_any_lit w.heap.size w.heap.size 0 v [setN s2] 0 w' h s4 _ e4 (show 1 < 1000 by decide))
  have hCt := Lib.hid (fun v w' h => cat_new w.heap.size w.heap.size 0 v ([setN s2] ++ [setN s4]) 0 w' h [0, 1] (by decide))
  rw [ex_cat] at hCt
  have hRe := Lib.hid (fun v w' h => (re_yes w.heap.size w.heap.size 0 v (exN s2 s4) 0 2 w' h (show 2 < 3 by decide) (ex_right s2 s4)).mono fun e w2 h => ReYes.sl (ns := exN s2 s4) (n := 3) h rfl)
  have hLs := Lib.hid (fun A c w1 w' (h1 : 3 ≤ c) (h2 : c ≤ maxLen) (hN : Nods w1 w1.heap.size A (exN s2 s4)) (hb : Below w1.heap.size w1 w') => treeLeast_any A 3 c (exN s2 s4) 0 w1.heap.size w' rfl h1 h2 hb.size (hN.below hb))
  have hRt := Lib.hid (fun A c w1 w' (h1 : 3 ≤ c) (h2 : c ≤ maxLen) (hN : Nods w1 w1.heap.size A (exN s2 s4)) (hb : Below w1.heap.size w1 w') => right_any A 3 c (exN s2 s4) 0 w1.heap.size w' rfl h1 h2 hb.size (hN.below hb))
  have hSm := Lib.hid (fun A c w1 w' (h1 : 3 ≤ c) (h2 : c ≤ maxLen) (hN : Nods w1 w1.heap.size A (exN s2 s4)) (hb : Below w1.heap.size w1 w') => treeSame_any A A 3 c 3 c 0 0 (exN s2 s4) (exN s2 s4) w1.heap.size w' rfl rfl h1 h1 h2 hb.size (hN.below hb) (hN.below hb))
  rw [ex_least] at hLs
  rw [ex_right] at hRt
  rw [sameNs_self] at hSm
  clear e2 e4
  go_enter Try.func5, Try.ntmps5
  go_wp2_with (first
    | (go_at_call 10; refine (hS4.out _ _ hB1.out).mono ?_; rintro e w2 ⟨v2, rfl, h1, h2⟩; have hB2 := Lib.hid h1; have hb2 := Lib.hid (hb1.out.trans (hB1.out.below (Nat.le_refl _) h2)); clear h1 h2)
    | (go_at_call 10; refine (hS2.out _ hB0.out).mono ?_; rintro e w1 ⟨v1, rfl, h1, h2⟩; have hB1 := Lib.hid h1; have hb1 := Lib.hid (hb0.out.trans (hB0.out.below (Nat.le_refl _) h2)); clear h1 h2)
    | (go_at_call 11; refine (hCt.out _ _ hB2.out).mono ?_; rintro e w3 ⟨v3, rfl, h1, h2⟩; have hB3 := Lib.hid h1; have hb3 := Lib.hid (hb2.out.trans (hB2.out.below (Nat.le_refl _) h2)); clear h1 h2)
    | (go_at_call 13; refine (hRe.out _ _ hB3.out).mono ?_; rintro e w4 ⟨A4, c4, rfl, hc4, hm4, hN4, h4⟩; have hb4 := Lib.hid (hb3.out.trans (h4.mono hb3.out.size)); have hN := Lib.hid hN4; have hm := Lib.hid hm4; have hb5 := Lib.hid ((Below.refl w4.heap.size w4).alloc (Nat.le_refl _) (.cells #[.slice A4 3 c4, .int .i64 0] 24)); clear hN4 h4 hm4)
    | (go_at_call 15; refine (hLs.out _ _ _ _ hc4 hm.out hN.out hb5.out).mono ?_; rintro e w5 ⟨rfl, h1⟩; have hb6 := Lib.hid (hb5.out.trans (h1.mono hb5.out.size)); have hX5 := ((held_new w4 24 #[.slice A4 3 c4, .int .i64 0]).keep h1); have x0 := hX5.at_ (i := 0) rfl; have x1 := hX5.at_ (i := 1) rfl; have hX5' := Lib.hid hX5; clear hX5 h1)
    | (go_at_call 16; refine (hRt.out _ _ _ _ hc4 hm.out hN.out hb6.out).mono ?_; rintro e w6 ⟨rfl, h1⟩; have hb7 := Lib.hid (hb6.out.trans (h1.mono hb6.out.size)); have hX6 := hX5'.out.keep h1; have y0 := hX6.at_ (i := 0) rfl; have y1 := hX6.at_ (i := 1) rfl; clear hX6 h1)
    | (go_at_call 6; refine (hSm.out _ _ _ _ hc4 hm.out hN.out hb7.out).mono ?_; rintro e w7 ⟨rfl, h1⟩; have hb8 := Lib.hid (hb7.out.trans (h1.mono hb7.out.size)); clear h1))
  go_ret
  exact ⟨rfl, hb4.out.trans (hb8.out.mono hb4.out.size)⟩
end Go.Proofs.Ytmcfbocdkhimmaa
