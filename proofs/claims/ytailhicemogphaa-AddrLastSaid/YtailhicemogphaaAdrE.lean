/- Contracts: Select (package addr): where two is not active, where it is; of two numbers, of a number and the last line, of two expressions. -/
import Derived.Test.YtailhicemogphaaAdrD
import Derived.OwnWalk
set_option linter.unusedVariables false
set_option linter.unusedSimpArgs false
set_option maxRecDepth 100000
namespace Go.Proofs.Ytailhicemogphaa
open Go.RowKit

theorem ret_bbe {a b c d : Bool} {x y : Int} (h : (a, c, x) = (b, d, y)) : Ending.returned (.tuple #[.bool a, .bool c, .int .i64 x]) = .returned (.tuple #[.bool b, .bool d, .int .i64 y]) := by cases h; rfl
theorem belowSel (w : World) (x y z x' y' z' x2 y2 z2 : Value) :
    Below w.heap.size w (((w.alloc (.cells #[x, y, z] 23)).alloc (.cells #[x', y', z'] 23)).alloc (.cells #[x2, y2, z2] 37)) :=
  (((Below.refl w.heap.size w).alloc (Nat.le_refl _) _).alloc (by rw [sizeA']; exact Nat.le_succ _) _).alloc (by rw [sizeA', sizeA']; omega) _
theorem selIn {w w2 : World} {x y z x' y' z' x2 y2 z2 : Value}
    (hq : Below (((w.alloc (.cells #[x, y, z] 23)).alloc (.cells #[x', y', z'] 23)).alloc (.cells #[x2, y2, z2] 37)).heap.size (((w.alloc (.cells #[x, y, z] 23)).alloc (.cells #[x', y', z'] 23)).alloc (.cells #[x2, y2, z2] 37)) w2) :
    Below w.heap.size w w2 ∧ w2.cell? ⟨w.heap.size + 1, 0, none⟩ = some x' ∧ w2.cell? ⟨w.heap.size + 1, 1, none⟩ = some y' ∧ w2.cell? ⟨w.heap.size + 1 + 1, 0, none⟩ = some x2 ∧ w2.cell? ⟨w.heap.size + 1 + 1, 1, none⟩ = some y2 := by
  have h1 := ((held_new2 w (.cells #[x, y, z] 23) 23 #[x', y', z']).alloc (.cells #[x2, y2, z2] 37)).keep hq
  have h2 := (held_new ((w.alloc (.cells #[x, y, z] 23)).alloc (.cells #[x', y', z'] 23)) 37 #[x2, y2, z2]).keep hq
  rw [sizeA', sizeA'] at h2
  exact ⟨(belowSel w x y z x' y' z' x2 y2 z2).trans (hq.mono (belowSel w x y z x' y' z' x2 y2 z2).size), h1.at_ rfl, h1.at_ rfl, h2.at_ rfl, h2.at_ rfl⟩
theorem holds_1 {v : Value} (m line : Int) (last : Bool) (w : World) :
    Calls Try.prog 11 #[.agg #[.int .i64 1, .int .i64 m, .int .i64 0], .agg #[.int .i64 line, .bool last, v]] w fun e w' => e = .returned (.tuple #[.bool (decide (m = line)), .int .i64 0]) ∧ Below w.heap.size w w' := by
  have := holds_num (v := v) ⟨1, m, 0⟩ (show (1 : Int) ≠ 3 by decide) line last w
  rw [holdsN_1] at this
  exact this
theorem holds_2 {v : Value} (line : Int) (last : Bool) (w : World) :
    Calls Try.prog 11 #[.agg #[.int .i64 2, .int .i64 0, .int .i64 0], .agg #[.int .i64 line, .bool last, v]] w fun e w' => e = .returned (.tuple #[.bool last, .int .i64 0]) ∧ Below w.heap.size w w' := by
  have := holds_num (v := v) ⟨2, 0, 0⟩ (show (2 : Int) ≠ 3 by decide) line last w
  rw [holdsN_2] at this
  exact this
theorem sel_cells {w : World} {g : Nat} {t : TypeId} {x y z : Value} (h : Held w g t #[x, y, z]) : w.cell? ⟨g, 0, none⟩ = some x ∧ w.cell? ⟨g, 1, none⟩ = some y ∧ w.cell? ⟨g, 2, none⟩ = some z := ⟨h.at_ rfl, h.at_ rfl, h.at_ rfl⟩
theorem yes_kind {k : Int} (h : 0 ≤ k ∧ k ≤ 3) (w : World) : Calls Try.prog 17 #[.int .i64 k] w fun e w' => e = .returned (.bool true) ∧ ∃ m, w' = w.drewN m :=
  (isKind_any k w).mono fun e w' ⟨he, hq⟩ => ⟨by rw [he, decide_eq_true h.1, decide_eq_true h.2]; rfl, hq⟩
set_option maxHeartbeats 4000000 in
theorem select_off {v : Value} {one two : Ad} {line : Int} {last : Bool} {w : World} {s : Bool} {r : Option Nat} {J : World → Prop} (h1 : 0 ≤ one.k ∧ one.k ≤ 3) (h2 : 0 ≤ two.k ∧ two.k ≤ 3) (hr : ∀ k, r = some k → k < w.heap.size)
    (hH : ∀ w1, Below w.heap.size w w1 → Calls Try.prog 11 #[adV one, .agg #[.int .i64 line, .bool last, v]] w1 fun e w2 => e = .returned (.tuple #[.bool s, .int .i64 0]) ∧ w1.grownBy w2 r ∧ J w2)
    (hJ : ∀ w1 w2, J w1 → Below w1.heap.size w1 w2 → J w2) :
    Calls Try.prog 14 #[adV one, adV two, .bool false, .agg #[.int .i64 line, .bool last, v]] w fun e w' =>
      e = .returned (.tuple #[.bool s, .bool (s && goesS two line last), .int .i64 0]) ∧ w.grownBy w' r ∧ J w' := by
  have hb := Lib.hid (belowSel w)
  have hK1 := Lib.hid (yes_kind h1)
  have hK2 := Lib.hid (yes_kind h2)
  have hG := Lib.hid (fun w1 => goesOn_any (v := v) two line last w1)
  generalize goesS two line last = G at *
  obtain ⟨k1, m1, r1⟩ := one
  obtain ⟨k2, m2, r2⟩ := two
  have hHh := Lib.hid hH
  have hJh := Lib.hid hJ
  unfold adV at *
  dsimp only at *
  have hrh := Lib.hid hr
  clear hH hJ h1 h2 hr
  have hx1 := ((held_new w 23 #[.int .i64 k1, .int .i64 m1, .int .i64 r1]).alloc (.cells #[.int .i64 k2, .int .i64 m2, .int .i64 r2] 23)).alloc (.cells #[.int .i64 line, .bool last, v] 37)
  have hx2 := (held_new2 w (.cells #[.int .i64 k1, .int .i64 m1, .int .i64 r1] 23) 23 #[.int .i64 k2, .int .i64 m2, .int .i64 r2]).alloc (.cells #[.int .i64 line, .bool last, v] 37)
  have hx3 := held_new ((w.alloc (.cells #[.int .i64 k1, .int .i64 m1, .int .i64 r1] 23)).alloc (.cells #[.int .i64 k2, .int .i64 m2, .int .i64 r2] 23)) 37 #[.int .i64 line, .bool last, v]
  rw [sizeA', sizeA'] at hx3
  have hbw := Lib.hid (hb.out (.int .i64 k1) (.int .i64 m1) (.int .i64 r1) (.int .i64 k2) (.int .i64 m2) (.int .i64 r2) (.int .i64 line) (.bool last) v)
  go_enter Try.func14, Try.ntmps14
  go_upto_region 1 with fail
  generalize ((w.alloc (.cells #[.int .i64 k1, .int .i64 m1, .int .i64 r1] 23)).alloc (.cells #[.int .i64 k2, .int .i64 m2, .int .i64 r2] 23)).alloc (.cells #[.int .i64 line, .bool last, v] 37) = w1 at *
  obtain ⟨c1, c2, c3⟩ := sel_cells hx1
  obtain ⟨d1, d2, d3⟩ := sel_cells hx2
  obtain ⟨e1, e2, e3⟩ := sel_cells hx3
  have hx1h := Lib.hid hx1
  have hx2h := Lib.hid hx2
  have hx3h := Lib.hid hx3
  clear hx1 hx2 hx3
  go_upto_region 3 with (first | (go_at_call 17; refine (hK1.out _).mono ?_; rintro e w2 ⟨rfl, n1, rfl⟩) | (go_at_call 17; refine (hK2.out _).mono ?_; rintro e w2 ⟨rfl, n2, rfl⟩))
  have hb3 := Lib.hid (below_drewN hbw.out (n1 + n2))
  have hy2 := Lib.hid (hx2h.out.drewN (n1 + n2))
  have hy3 := Lib.hid (hx3h.out.drewN (n1 + n2))
  obtain ⟨a1, a2, a3⟩ := sel_cells (hx1h.out.drewN (n1 + n2))
  obtain ⟨b1, b2, b3⟩ := sel_cells hy3.out
  generalize w1.drewN (n1 + n2) = w3 at *
  clear c1 c2 c3 d1 d2 d3 e1 e2 e3 hx1h hx2h hx3h hbw hb
  go_upto_region 7 with (first | (go_at_call 11; refine (hHh.out _ hb3.out).mono ?_; rintro e w4 ⟨rfl, hq, hj⟩) | fail)
  have hg4 := Lib.hid (keep_grown hb3.out hq)
  have hj4 := Lib.hid hj
  have hne : ∀ i, some (w.heap.size + i) ≠ r := fun i e => by have := hrh.out _ e.symm; omega
  obtain ⟨c1, c2, c3⟩ := sel_cells (hy2.out.grown hq (hne 1))
  obtain ⟨d1, d2, d3⟩ := sel_cells (hy3.out.grown hq (hne 2))
  clear hq hj hne hHh hy2 hy3 a1 a2 a3 b1 b2 b3 hb3
  cases s
  · go_wp2_with (first | go_region | fail)
    all_goals (go_ret3; exact ⟨rfl, by first | exact hg4.out | exact grown_drew hg4.out, by first | exact hj4.out | exact hJh.out _ _ hj4.out (Below.refl _ _).drew⟩)
  · go_wp2_with (first | (go_at_call 19; refine (hG.out _).mono ?_; rintro e w5 ⟨rfl, hq⟩; have hq5 := Lib.hid hq; clear hq) | go_region | fail)
    all_goals (go_ret3; exact ⟨rfl, grown_keep hg4.out hq5.out, hJh.out _ _ hj4.out hq5.out⟩)
set_option maxHeartbeats 4000000 in
theorem select_on {v : Value} {one two : Ad} {line : Int} {last : Bool} {w : World} {s : Bool} {r : Option Nat} {J : World → Prop} (h1 : 0 ≤ one.k ∧ one.k ≤ 3) (h2 : 0 ≤ two.k ∧ two.k ≤ 3) (h0 : two.k ≠ 0) (hr : ∀ k, r = some k → k < w.heap.size)
    (hH : ∀ w1, Below w.heap.size w w1 → Calls Try.prog 18 #[adV two, .agg #[.int .i64 line, .bool last, v]] w1 fun e w2 => e = .returned (.tuple #[.bool s, .int .i64 0]) ∧ w1.grownBy w2 r ∧ J w2)
    (hJ : ∀ w1 w2, J w1 → Below w1.heap.size w1 w2 → J w2) :
    Calls Try.prog 14 #[adV one, adV two, .bool true, .agg #[.int .i64 line, .bool last, v]] w fun e w' =>
      e = .returned (.tuple #[.bool true, .bool (!s), .int .i64 0]) ∧ w.grownBy w' r ∧ J w' := by
  have hb := Lib.hid (belowSel w)
  have hK1 := Lib.hid (yes_kind h1)
  have hK2 := Lib.hid (yes_kind h2)
  obtain ⟨k1, m1, r1⟩ := one
  obtain ⟨k2, m2, r2⟩ := two
  have hHh := Lib.hid hH
  have hJh := Lib.hid hJ
  unfold adV at *
  dsimp only at *
  have hrh := Lib.hid hr
  have h0b : (k2 != 0) = true := by simpa using h0
  have h0h := Lib.hid h0
  clear hH hJ h1 h2 hr h0
  have hx1 := ((held_new w 23 #[.int .i64 k1, .int .i64 m1, .int .i64 r1]).alloc (.cells #[.int .i64 k2, .int .i64 m2, .int .i64 r2] 23)).alloc (.cells #[.int .i64 line, .bool last, v] 37)
  have hx2 := (held_new2 w (.cells #[.int .i64 k1, .int .i64 m1, .int .i64 r1] 23) 23 #[.int .i64 k2, .int .i64 m2, .int .i64 r2]).alloc (.cells #[.int .i64 line, .bool last, v] 37)
  have hx3 := held_new ((w.alloc (.cells #[.int .i64 k1, .int .i64 m1, .int .i64 r1] 23)).alloc (.cells #[.int .i64 k2, .int .i64 m2, .int .i64 r2] 23)) 37 #[.int .i64 line, .bool last, v]
  rw [sizeA', sizeA'] at hx3
  have hbw := Lib.hid (hb.out (.int .i64 k1) (.int .i64 m1) (.int .i64 r1) (.int .i64 k2) (.int .i64 m2) (.int .i64 r2) (.int .i64 line) (.bool last) v)
  go_enter Try.func14, Try.ntmps14
  go_upto_region 1 with fail
  generalize ((w.alloc (.cells #[.int .i64 k1, .int .i64 m1, .int .i64 r1] 23)).alloc (.cells #[.int .i64 k2, .int .i64 m2, .int .i64 r2] 23)).alloc (.cells #[.int .i64 line, .bool last, v] 37) = w1 at *
  obtain ⟨c1, c2, c3⟩ := sel_cells hx1
  obtain ⟨d1, d2, d3⟩ := sel_cells hx2
  obtain ⟨e1, e2, e3⟩ := sel_cells hx3
  have hx2h := Lib.hid hx2
  have hx3h := Lib.hid hx3
  clear hx1 hx2 hx3
  go_upto_region 3 with (first | (go_at_call 17; refine (hK1.out _).mono ?_; rintro e w2 ⟨rfl, n1, rfl⟩) | (go_at_call 17; refine (hK2.out _).mono ?_; rintro e w2 ⟨rfl, n2, rfl⟩))
  have hb3 := Lib.hid (below_drewN hbw.out (n1 + n2))
  obtain ⟨a1, a2, a3⟩ := sel_cells (hx2h.out.drewN (n1 + n2))
  obtain ⟨b1, b2, b3⟩ := sel_cells (hx3h.out.drewN (n1 + n2))
  generalize w1.drewN (n1 + n2) = w3 at *
  clear c1 c2 c3 d1 d2 d3 e1 e2 e3 hx2h hx3h hbw hb
  cases s
  all_goals (
    go_wp2_with (first | (go_at_call 18; refine (hHh.out _ hb3.out).mono ?_; rintro e w4 ⟨rfl, hq, hj⟩; have hg4 := Lib.hid (keep_grown hb3.out hq); have hj4 := Lib.hid hj; clear hq hj) | go_region | fail)
    all_goals (go_ret3; exact ⟨rfl, by first | exact hg4.out | exact grown_drew hg4.out, by first | exact hj4.out | exact hJh.out _ _ hj4.out (Below.refl _ _).drew⟩))
end Go.Proofs.Ytailhicemogphaa
