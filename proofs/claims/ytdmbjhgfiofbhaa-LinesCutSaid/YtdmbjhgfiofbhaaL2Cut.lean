/- LinesCut. -/
import Derived.Test.YtdmbjhgfiofbhaaFrame
import Derived.Test.YtdmbjhgfiofbhaaLinC
import Derived.Test.YtdmbjhgfiofbhaaLinG
import Derived.Test.YtdmbjhgfiofbhaaLinK
import Derived.BigRegion
import Derived.BigGuard
import Derived.Deep.RegionWith
set_option linter.unusedVariables false
namespace Go.Proofs.Ytdmbjhgfiofbhaa.Cut
open Go.ChangeShapes Go.WideShapes Go.ChangeAt Go.RowKit

set_option maxHeartbeats 2000000 in
set_option maxRecDepth 100000 in
theorem core_no (W : World) (A : Option Addr) (n c : Nat) (hnc : n ≤ c) (hm : c ≤ maxLen) (z : Int) (hbig : n ≤ 300) (hz : z < 0 ∨ (n : Int) ≤ z) :
    Calls Try.prog 5 #[.slice A n c, .int .i64 z] W fun e W' => e = .returned (.bool true) ∧ Below W.heap.size W W' := by
  have hW := Lib.hid awake_any
  have hC := Lib.hid (fun w => cut_no A n c z w hnc hm hz)
  unfold maxLen at hm
  rcases hz with hz | hz
  · go_enter Try.func5, Try.ntmps5
    go_wp2_with (first
      | (go_at_call 15; refine (hC.out _).mono ?_; rintro e w1 ⟨rfl, hb1⟩)
      | (go_at_call 7; refine (hW.out _).mono ?_; rintro e w5 ⟨rfl, hb5⟩))
    go_ret
    have hb6 := hb1.alloc hb1.size (.cells #[.slice none 0 0, .bool false] 27)
    exact ⟨rfl, hb6.trans (hb5.mono hb6.size)⟩
  · have hz0 : ¬ z < 0 := by omega
    go_enter Try.func5, Try.ntmps5
    go_wp2_with (first
      | (go_at_call 15; refine (hC.out _).mono ?_; rintro e w1 ⟨rfl, hb1⟩)
      | (go_at_call 7; refine (hW.out _).mono ?_; rintro e w5 ⟨rfl, hb5⟩))
    go_ret
    have hb6 := hb1.alloc hb1.size (.cells #[.slice none 0 0, .bool false] 27)
    exact ⟨rfl, hb6.trans (hb5.mono hb6.size)⟩

set_option maxHeartbeats 4000000 in
set_option maxRecDepth 100000 in
theorem core_yes (W : World) (A : Option Addr) (n c : Nat) (l : List UInt8) (hn : n = l.length) (hnc : n ≤ c) (hm : c ≤ maxLen) (h : Byt W W.heap.size A l) (k : Nat) (hbig : n ≤ 300) (hk : k < n) :
    Calls Try.prog 5 #[.slice A n c, .int .i64 (k : Int)] W fun e W' => e = .returned (.bool true) ∧ Below W.heap.size W W' := by
  have hW := Lib.hid awake_any
  have hC := Lib.hid (cut_yes A n c k l W hn hnc hm (by omega) h hk)
  have hq0 := adv_pos (d := l.drop k) (by intro e; have := congrArg List.length e; simp at this; omega)
  have hq1 := adv_le (l.drop k)
  rw [List.length_drop] at hq1
  have hkq : k + adv (l.drop k) ≤ n := by omega
  have hend0 : hasNL (l.drop k) = false → k + adv (l.drop k) = n := fun e => by
    unfold adv; rw [e, List.length_drop]; simp; omega
  have hend := Lib.hid hend0
  clear hend0
  have hno := Lib.hid (lnOf_no (l.drop k))
  have hcut : Byt W W.heap.size (if c = k then A else A.map (·.add k)) (lineB (lnOf (l.drop k), hasNL (l.drop k))) := by
    have := h.cut (i := k) (j := k + adv (l.drop k)) (cap := c) (by omega) (by omega)
    rwa [List.drop_take, Nat.add_sub_cancel_left, line_take] at this
  have hql : (lineB (lnOf (l.drop k), hasNL (l.drop k))).length = adv (l.drop k) := by
    rw [← line_take, List.length_take, List.length_drop]; omega
  obtain ⟨ad, hA, -, -⟩ := h.at_ (k := k) (by omega)
  subst hA
  rw [if_neg (by omega)] at hcut
  have hcut := Lib.hid hcut
  have hql := Lib.hid hql
  have hlq : (lnOf (l.drop k)).length ≤ adv (l.drop k) := by rw [← hql.out, lineB_len]; exact Nat.le_add_right _ _
  have hlx : (lnOf (l.drop k)).length ≤ 300 := by omega
  clear h hn hq1
  generalize adv (l.drop k) = q at *
  generalize lnOf (l.drop k) = x1 at *
  generalize hasNL (l.drop k) = x2 at *
  unfold maxLen at hm
  have hkc : c ≠ k := by omega
  have hn1 : ((k : Int) + (q : Int) ≤ (k : Int)) = False := by simp; omega
  go_enter Try.func5, Try.ntmps5
  go_wp2_with (first
    | (go_at_call 15; refine (hC.out).mono ?_; rintro e w2 ⟨v2, rfl, ho2, hb2⟩; obtain ⟨A2, c2, rfl, -, q1, q2, q3⟩ := own_byt ho2))
  go_loop [8] (fun i => ∃ j : Nat, j ≤ x1.length ∧ i = .int .i64 (j : Nat)) (fun i => x1.length - (intOf i).toNat)
  case atStart => exact ⟨0, by omega, rfl⟩
  case round =>
    obtain ⟨j, hj, rfl⟩ := hrel
    by_cases hlt : j < x1.length
    · obtain ⟨ad2, rfl, hbk2, hd2⟩ := q3.at_ hlt
      have hx := hno.out _ (List.getElem_mem hlt)
      have hx2 : ((((x1[j]'hlt).toNat : Nat) : Int) == 10) = false := by
        rw [beq_eq_false_iff_ne]; intro e; exact hx (UInt8.toNat_inj.1 (by show (x1[j]'hlt).toNat = 10; omega))
      clear hx
      generalize (((x1[j]'hlt).toNat : Nat) : Int) = y at *
      have hd3 : (w2.alloc (.cells #[.slice (some ad2) x1.length c2, .bool x2] 27)).cell? (ad2.add j) = some (.int .u8 y) := (World.cell?_alloc_lt w2 _ _ (by rw [block_add]; exact hbk2)).trans hd2
      go_wp2
      go_round
      case rel => exact ⟨j + 1, by omega, by go_num⟩
      case measure => simp [intOf]; omega
    · have hszA : ∀ (w : World) (o : Obj), (w.alloc o).heap.size = w.heap.size + 1 := fun w o => by simp
      have g1 : (0 : Int) ≤ (k : Int) := by omega
      have g2 : (k : Int) ≤ (k : Int) + (q : Int) := by omega
      have g3 : (k : Int) + (q : Int) ≤ (c : Int) := by omega
      have g4 : (0 : Int) ≤ (k : Int) + (q : Int) := by omega
      have g5 : ((k : Int) + (q : Int)).toNat = k + q := by omega
      cases x2 with
      | true =>
        have hb2Y : Below w2.heap.size w2 ((w2.alloc (.cells #[.slice A2 x1.length c2, .bool true] 27)).alloc (.cells #[.slice A2 x1.length c2, .bool true] 27)) := ((Below.refl _ _).alloc (Nat.le_refl _) _).alloc (by rw [hszA]; omega) _
        have hsz : (((w2.alloc (.cells #[.slice A2 x1.length c2, .bool true] 27)).alloc (.cells #[.slice A2 x1.length c2, .bool true] 27)).drew).heap.size = w2.heap.size + 2 := by show ((w2.alloc _).alloc _).heap.size = _; rw [hszA, hszA]
        have hbWJ : Below W.heap.size W (((w2.alloc (.cells #[.slice A2 x1.length c2, .bool true] 27)).alloc (.cells #[.slice A2 x1.length c2, .bool true] 27)).drew) := (hb2.trans (hb2Y.mono hb2.size)).drew
        have hXL : Lins (((w2.alloc (.cells #[.slice A2 x1.length c2, .bool true] 27)).alloc (.cells #[.slice A2 x1.length c2, .bool true] 27)).drew) (((w2.alloc (.cells #[.slice A2 x1.length c2, .bool true] 27)).alloc (.cells #[.slice A2 x1.length c2, .bool true] 27)).drew).heap.size (some ⟨w2.heap.size + 1, 0, none⟩) [(x1, true)] := by
          intro m hm
          obtain rfl : m = 0 := by simpa using hm
          have hn := new_cells (w2.alloc (.cells #[.slice A2 x1.length c2, .bool true] 27)) [.slice A2 x1.length c2, .bool true] 27
          rw [hszA] at hn
          exact ⟨⟨w2.heap.size + 1, 0, none⟩, .slice A2 x1.length c2, rfl, by rw [hsz]; show w2.heap.size + 1 < _; omega, hn 0 _ rfl, hn 1 _ rfl, A2, x1.length, c2, rfl, rfl, q1, q2, (q3.below hb2Y.drew).more (by rw [hsz]; omega)⟩
        have hj1 : joinS [(x1, true)] = lineB (x1, true) := by simp [joinS]
        have hJ0 := join_any (some ⟨w2.heap.size + 1, 0, none⟩) 1 1 [(x1, true)] (((w2.alloc (.cells #[.slice A2 x1.length c2, .bool true] 27)).alloc (.cells #[.slice A2 x1.length c2, .bool true] 27)).drew) rfl (Nat.le_refl _) (by simp [maxLen]) (by rw [hj1, hql.out]; omega) hXL
        rw [hj1, hql.out] at hJ0
        have hJ := Lib.hid hJ0
        have hkc0 : w2.heap.size < (((w2.alloc (.cells #[.slice A2 x1.length c2, .bool true] 27)).alloc (.cells #[.slice A2 x1.length c2, .bool true] 27)).drew).heap.size := by rw [hsz]; omega
        have h0 : (((w2.alloc (.cells #[.slice A2 x1.length c2, .bool true] 27)).alloc (.cells #[.slice A2 x1.length c2, .bool true] 27)).drew).cell? ⟨w2.heap.size, 0, none⟩ = some (.slice A2 x1.length c2) := by
          have := new_cells w2 [.slice A2 x1.length c2, .bool true] 27 0 _ rfl
          rw [add_zero_off] at this
          exact (World.cell?_alloc_lt _ _ _ (by rw [hszA]; show w2.heap.size < _; omega)).trans this
        have h1 : (((w2.alloc (.cells #[.slice A2 x1.length c2, .bool true] 27)).alloc (.cells #[.slice A2 x1.length c2, .bool true] 27)).drew).cell? ⟨w2.heap.size, 1, none⟩ = some (.bool true) := by
          have := new_cells w2 [.slice A2 x1.length c2, .bool true] 27 1 _ rfl
          rw [add_zero_off] at this
          exact (World.cell?_alloc_lt _ _ _ (by rw [hszA]; show w2.heap.size < _; omega)).trans this
        have h0 := Lib.hid h0
        have h1 := Lib.hid h1
        have hQ := Lib.hid (fun (A3 : Option Addr) (c3 : Nat) (w4 : World) (r1 : q ≤ c3) (r2 : c3 ≤ maxLen) (r3 : Byt w4 w4.heap.size A3 (lineB (x1, true))) (hb : Below W.heap.size W w4) => sameB_any A3 (some (ad.add k)) q c3 q (c - k) (lineB (x1, true)) (lineB (x1, true)) _ w4 hql.out.symm hql.out.symm r1 (by omega) r2 r3 ((hcut.out.below hb).more hb.size))
        simp only [beq_self_eq_true] at hQ
        clear hJ0 hXL hszA hsz hj1
        go_wp2
        first | (go_region_with (first
          | (go_at_call 14; refine (hJ.out).mono ?_; rintro e w4 ⟨v4, rfl, ho4, hb4⟩
             have ho4b : w4.ownsRow (((w2.alloc (.cells #[.slice A2 x1.length c2, .bool true] 27)).alloc (.cells #[.slice A2 x1.length c2, .bool true] 27)).drew).heap.size 5 1 v4 (lineB (x1, true)).length (bv (lineB (x1, true))) := (by rw [hql.out]; exact ho4)
             obtain ⟨A3, c3, rfl, -, r1, r2, r3⟩ := own_byt ho4
             have k0 := (hb4.cell (p := ⟨w2.heap.size, 0, none⟩) hkc0).trans h0.out
             have k1 := (hb4.cell (p := ⟨w2.heap.size, 1, none⟩) hkc0).trans h1.out
             have hbW4 := hbWJ.trans (hb4.mono hbWJ.size))
          | (go_at_call 13; refine (hQ.out _ _ _ r1 r2 r3 hbW4).mono ?_; rintro e w5 ⟨rfl, q5, rfl⟩)
          | (go_at_call 7; refine (hW.out _).mono ?_; rintro e w6 ⟨rfl, hb6⟩
             have k2 := (hb6.cell (p := ⟨w2.heap.size, 0, none⟩) (Nat.lt_of_lt_of_le hkc0 hb4.size)).trans k0
             have k3 := (hb6.cell (p := ⟨w2.heap.size, 1, none⟩) (Nat.lt_of_lt_of_le hkc0 hb4.size)).trans k1))) | fail
        all_goals go_wp2
        all_goals go_ret
        all_goals exact ⟨rfl, (below_drewN hbW4 q5).trans (hb6.mono (below_drewN hbW4 q5).size)⟩
      | false =>
        have hke : ((k : Int) + (q : Int) == (n : Int)) = true := by rw [beq_iff_eq]; have := hend.out rfl; omega
        have hb2Y : Below w2.heap.size w2 ((w2.alloc (.cells #[.slice A2 x1.length c2, .bool false] 27)).alloc (.cells #[.slice A2 x1.length c2, .bool false] 27)) := ((Below.refl _ _).alloc (Nat.le_refl _) _).alloc (by rw [hszA]; omega) _
        have hsz : (((w2.alloc (.cells #[.slice A2 x1.length c2, .bool false] 27)).alloc (.cells #[.slice A2 x1.length c2, .bool false] 27)).drew).heap.size = w2.heap.size + 2 := by show ((w2.alloc _).alloc _).heap.size = _; rw [hszA, hszA]
        have hbWJ : Below W.heap.size W (((w2.alloc (.cells #[.slice A2 x1.length c2, .bool false] 27)).alloc (.cells #[.slice A2 x1.length c2, .bool false] 27)).drew) := (hb2.trans (hb2Y.mono hb2.size)).drew
        have hXL : Lins (((w2.alloc (.cells #[.slice A2 x1.length c2, .bool false] 27)).alloc (.cells #[.slice A2 x1.length c2, .bool false] 27)).drew) (((w2.alloc (.cells #[.slice A2 x1.length c2, .bool false] 27)).alloc (.cells #[.slice A2 x1.length c2, .bool false] 27)).drew).heap.size (some ⟨w2.heap.size + 1, 0, none⟩) [(x1, false)] := by
          intro m hm
          obtain rfl : m = 0 := by simpa using hm
          have hn := new_cells (w2.alloc (.cells #[.slice A2 x1.length c2, .bool false] 27)) [.slice A2 x1.length c2, .bool false] 27
          rw [hszA] at hn
          exact ⟨⟨w2.heap.size + 1, 0, none⟩, .slice A2 x1.length c2, rfl, by rw [hsz]; show w2.heap.size + 1 < _; omega, hn 0 _ rfl, hn 1 _ rfl, A2, x1.length, c2, rfl, rfl, q1, q2, (q3.below hb2Y.drew).more (by rw [hsz]; omega)⟩
        have hj1 : joinS [(x1, false)] = lineB (x1, false) := by simp [joinS]
        have hJ0 := join_any (some ⟨w2.heap.size + 1, 0, none⟩) 1 1 [(x1, false)] (((w2.alloc (.cells #[.slice A2 x1.length c2, .bool false] 27)).alloc (.cells #[.slice A2 x1.length c2, .bool false] 27)).drew) rfl (Nat.le_refl _) (by simp [maxLen]) (by rw [hj1, hql.out]; omega) hXL
        rw [hj1, hql.out] at hJ0
        have hJ := Lib.hid hJ0
        have hkc0 : w2.heap.size < (((w2.alloc (.cells #[.slice A2 x1.length c2, .bool false] 27)).alloc (.cells #[.slice A2 x1.length c2, .bool false] 27)).drew).heap.size := by rw [hsz]; omega
        have h0 : (((w2.alloc (.cells #[.slice A2 x1.length c2, .bool false] 27)).alloc (.cells #[.slice A2 x1.length c2, .bool false] 27)).drew).cell? ⟨w2.heap.size, 0, none⟩ = some (.slice A2 x1.length c2) := by
          have := new_cells w2 [.slice A2 x1.length c2, .bool false] 27 0 _ rfl
          rw [add_zero_off] at this
          exact (World.cell?_alloc_lt _ _ _ (by rw [hszA]; show w2.heap.size < _; omega)).trans this
        have h1 : (((w2.alloc (.cells #[.slice A2 x1.length c2, .bool false] 27)).alloc (.cells #[.slice A2 x1.length c2, .bool false] 27)).drew).cell? ⟨w2.heap.size, 1, none⟩ = some (.bool false) := by
          have := new_cells w2 [.slice A2 x1.length c2, .bool false] 27 1 _ rfl
          rw [add_zero_off] at this
          exact (World.cell?_alloc_lt _ _ _ (by rw [hszA]; show w2.heap.size < _; omega)).trans this
        have h0 := Lib.hid h0
        have h1 := Lib.hid h1
        have hQ := Lib.hid (fun (A3 : Option Addr) (c3 : Nat) (w4 : World) (r1 : q ≤ c3) (r2 : c3 ≤ maxLen) (r3 : Byt w4 w4.heap.size A3 (lineB (x1, false))) (hb : Below W.heap.size W w4) => sameB_any A3 (some (ad.add k)) q c3 q (c - k) (lineB (x1, false)) (lineB (x1, false)) _ w4 hql.out.symm hql.out.symm r1 (by omega) r2 r3 ((hcut.out.below hb).more hb.size))
        simp only [beq_self_eq_true] at hQ
        clear hJ0 hXL hszA hsz hj1
        go_wp2
        go_region_held3 (fun w' => w'.cell? ⟨w2.heap.size, 0, none⟩ = some (.slice A2 x1.length c2) ∧ w'.cell? ⟨w2.heap.size, 1, none⟩ = some (.bool false)) (go_keep) (first
          | (go_at_call 14; refine (hJ.out).mono ?_; rintro e w4 ⟨v4, rfl, ho4, hb4⟩
             have ho4b : w4.ownsRow (((w2.alloc (.cells #[.slice A2 x1.length c2, .bool false] 27)).alloc (.cells #[.slice A2 x1.length c2, .bool false] 27)).drew).heap.size 5 1 v4 (lineB (x1, false)).length (bv (lineB (x1, false))) := (by rw [hql.out]; exact ho4)
             obtain ⟨A3, c3, rfl, -, r1, r2, r3⟩ := own_byt ho4
             have k0 := (hb4.cell (p := ⟨w2.heap.size, 0, none⟩) hkc0).trans h0.out
             have k1 := (hb4.cell (p := ⟨w2.heap.size, 1, none⟩) hkc0).trans h1.out
             have hbW4 := hbWJ.trans (hb4.mono hbWJ.size))
          | (go_at_call 13; refine (hQ.out _ _ _ r1 r2 r3 hbW4).mono ?_; rintro e w5 ⟨rfl, q5, rfl⟩)
          | (go_at_call 7; refine (hW.out _).mono ?_; rintro e w6 ⟨rfl, hb6⟩
             have k2 := (hb6.cell (p := ⟨w2.heap.size, 0, none⟩) (Nat.lt_of_lt_of_le hkc0 hb4.size)).trans k0
             have k3 := (hb6.cell (p := ⟨w2.heap.size, 1, none⟩) (Nat.lt_of_lt_of_le hkc0 hb4.size)).trans k1))
        all_goals go_wp2
        all_goals go_ret
        all_goals exact ⟨rfl, (below_drewN hbW4 q5).trans (hb6.mono (below_drewN hbW4 q5).size)⟩
theorem core (W : World) (A : Option Addr) (n c : Nat) (l : List UInt8) (hn : n = l.length) (hnc : n ≤ c) (hm : c ≤ maxLen) (h : Byt W W.heap.size A l) (z : Int) (hz : (Lit.int .i64 z).wf = true) :
    Calls Try.prog 5 #[.slice A n c, .int .i64 z] W fun e W' => e = .returned (.bool true) ∧ Below W.heap.size W W' := by
  by_cases hbig : n ≤ 300
  · by_cases hz : z < 0 ∨ (n : Int) ≤ z
    · exact core_no W A n c hnc hm z hbig hz
    · obtain ⟨k, rfl⟩ : ∃ k : Nat, z = (k : Int) := ⟨z.toNat, by omega⟩
      exact core_yes W A n c l hn hnc hm h k hbig (by omega)
  · have hbig : 300 < n := by omega
    have hW := Lib.hid awake_any
    unfold maxLen at hm
    clear hn h
    go_enter Try.func5, Try.ntmps5
    go_wp2_with (first
      | (go_at_call 7; refine (hW.out _).mono ?_; rintro e w5 ⟨rfl, hb5⟩))
    go_ret
    exact ⟨rfl, hb5⟩
theorem contract (H : Type) (enc : TypeId × Value → H) (W : World) (base : Nat) (args : Array Value) (ds gs : List (DataW H)) (before : List MemPlace)
    (hval : ∀ (j : Nat) t v, Try.f5.params[j]? = some t → args[j]? = some v → Value.okWide Try.prog W .any base t v)
    (hW : DataW.Whole enc Try.prog Try.f5.params.toList Rows.linesCutSpec.vars false W args.toList ds gs before) :
    Calls Try.prog 5 args W fun e W' => ∃ v, e = .returned v ∧ Rows.linesCutSpec.post enc Try.prog Try.f5 false true false false W args v W' := by
  have hW' := hW
  obtain ⟨p, q, hA, hV, rfl, hfz, hnd⟩ := hW
  rw [Try.params5] at hA hval
  obtain ⟨v0, vs0, d0, ds0, p0, q0, hargs, rfl, rfl, h0, r0⟩ := trodAll_cons hA
  obtain ⟨v1, vs1, d1, ds1, p1, q1, rfl, rfl, rfl, h1, r1⟩ := trodAll_cons r0
  obtain ⟨rfl, rfl, rfl⟩ := trodAll_nil r1
  obtain rfl : args = #[v0, v1] := by cases args; simp_all
  obtain ⟨rfl, rfl⟩ := trodVars_none hV
  obtain ⟨A0, n0, c0, l0, rfl, e0, k0, m0, x0⟩ := open_byt Try.underlying22 Try.underlying5 (by kernel_rfl) (hval 0 22 v0 rfl rfl) h0
  obtain ⟨a1, rfl, rfl, rfl, w1⟩ := open_int Try.underlying3 (hval 1 3 v1 rfl rfl) h1
  exact (core W A0 n0 c0 l0 e0 k0 m0 x0 a1 w1).mono fun e W' ⟨he, hb⟩ => ⟨_, he, law_post hW' rfl (by kernel_rfl) (by kernel_rfl) rfl hb⟩

theorem laid_met (os : Os) : laidMetH Try.prog Rows.linesCutRow.laid ((World.doorLaid Try.prog 4000 os).forCall (fun _ _ => 0) ⟨#[], #[.slice none 0 0, .int .i64 0], []⟩).memory :=
  laidMetH_of_parts3 (fuel := 8) (laidMet_of_run' 8 (by kernel_rfl) (by kernel_rfl)) (by kernel_rfl) (by kernel_rfl)
theorem reads (os : Os) {H : Type} (enc : TypeId × Value → H) : ∃ places, DataW.whole enc Try.prog ((World.doorLaid Try.prog 4000 os).forCall (fun _ _ => 0) ⟨#[], #[.slice none 0 0, .int .i64 0], []⟩).memory Try.f5.params.toList Rows.linesCutSpec.vars false #[Value.slice none 0 0, .int .i64 0].toList 8 = some ([.nil, .lit (.int .i64 0)], [], places) :=
  ⟨[], by kernel_rfl⟩

set_option maxRecDepth 100000 in
theorem lifted (os : Os) (started : os.Started) (H : Type) (enc : TypeId × Value → H) (F : Stop.Interp) :
    ReturnsInHanded {} Try.checked os 5 .any ((OpenSpec.ofChange Rows.linesCutSpec).preRow enc Try.prog Try.f5 Rows.linesCutRow.domain false Rows.linesCutRow.laid) (((OpenSpec.ofChange Rows.linesCutSpec).at F).post enc Try.prog Try.f5 false true false false) := by
  obtain ⟨places, hx⟩ := reads os enc
  refine returnsInHanded_of_row (C := Try.checked) (s := (OpenSpec.ofChange Rows.linesCutSpec)) own started (by kernel_rfl) Try.func5
    (witness_row_at (enc := enc) (C := Try.checked) false (World.doorLaid Try.prog 4000 os) #[.slice none 0 0, .int .i64 0] rfl (by kernel_rfl) (by kernel_rfl) (by kernel_rfl)
      (OpenSpec.preRow_of_cond 8 hx (by kernel_rfl) (fun k hk => by cases hk) (by kernel_rfl) (laid_met os))) ?_
  intro W base args ds gs before hval hW _ _ _ _ _ _
  exact contract H enc W base args ds gs before hval hW

theorem said : Rows.LinesCutSaid :=
  OpenClaim.holds_of_cond 5 Try.f5 rfl rfl rfl rfl rfl rfl rfl ⟨rfl, rfl, rfl, rfl, rfl⟩ rfl rfl rfl rfl rfl (by kernel_rfl) Try.func5 (by kernel_rfl)
    (of_decide_eq_true (by kernel_rfl)) (by unfold Func.isWrapper; first | (rw [if_pos (by decide +kernel)]; kernel_rfl) | (rw [if_neg (by decide +kernel)]; exact ⟨rfl, rfl⟩))
    (fun os started H enc _ F => by rw [OpenClaim.pre_eq_preRow]; exact lifted os started H enc F)

end Go.Proofs.Ytdmbjhgfiofbhaa.Cut
