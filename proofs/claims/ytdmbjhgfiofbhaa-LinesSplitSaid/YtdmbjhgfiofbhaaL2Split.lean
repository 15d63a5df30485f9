/- LinesSplit. -/
import Derived.Test.YtdmbjhgfiofbhaaFrame
import Derived.Test.YtdmbjhgfiofbhaaLinC
import Derived.Test.YtdmbjhgfiofbhaaLinH
import Derived.Test.YtdmbjhgfiofbhaaLinI
import Derived.Test.YtdmbjhgfiofbhaaLinK
import Derived.Deep.RegionWith
import Derived.BigRegion
import Derived.BigGuard
set_option linter.unusedVariables false
namespace Go.Proofs.Ytdmbjhgfiofbhaa.Split
open Go.ChangeShapes Go.WideShapes Go.ChangeAt Go.RowKit

theorem lins_some {w : World} {B : Nat} {A : Option Addr} {ls : List Lin} (h : Lins w B A ls) {j : Nat} {x : Lin} (hx : ls[j]? = some x) :
    ∃ ad, A = some ad ∧ Lins w B (some (ad.add (j * 2))) [x] := by
  obtain ⟨hj, rfl⟩ := List.getElem?_eq_some_iff.1 hx
  obtain ⟨ad, v, hA, hb, hc, hd, hl⟩ := h j hj
  refine ⟨ad, hA, fun k hk => ?_⟩
  obtain rfl : k = 0 := by simpa using hk
  exact ⟨ad.add (j * 2), v, rfl, by rw [block_add]; exact hb, by rw [add_two]; exact hc, by rw [add_two, show j * 2 + (0 * 2 + 1) = j * 2 + 1 by omega]; exact hd, hl⟩

/-- What the law's last line needs: from a world below which nothing has turned. -/
theorem tail (W : World) (A : Option Addr) (n c : Nat) (l : List UInt8) (hn : n = l.length) (hnc : n ≤ c) (hm : c ≤ maxLen) (hbig : n ≤ 300) (h : Byt W W.heap.size A l) :
    (∀ w, Below W.heap.size W w → Calls Try.prog 11 #[.slice A n c] w fun e w' => ∃ A5 c5, e = .returned (.slice A5 (splitS l).length c5) ∧ (splitS l).length ≤ c5 ∧ c5 ≤ maxLen ∧ Lins w' w'.heap.size A5 (splitS l) ∧ Below w.heap.size w w' ∧ Below W.heap.size W w') ∧
    (∀ w, Below W.heap.size W w → Calls Try.prog 12 #[.slice A n c] w fun e w' => e = .returned (.int .i64 ((splitS l).length : Nat)) ∧ Below W.heap.size W w') ∧
    (∀ w, Below W.heap.size W w → Calls Try.prog 7 #[] w fun e w' => e = .returned (.bool true) ∧ Below W.heap.size W w') ∧
    (∀ A1 c1 A2 c2 w, (splitS l).length ≤ c1 → c1 ≤ maxLen → (splitS l).length ≤ c2 → Lins w w.heap.size A1 (splitS l) → Lins w w.heap.size A2 (splitS l) → Below W.heap.size W w →
      Calls Try.prog 10 #[.slice A1 (splitS l).length c1, .slice A2 (splitS l).length c2] w fun e w' => e = .returned (.bool true) ∧ ∃ q, w' = w.drewN q ∧ Below W.heap.size W w') := by
  refine ⟨fun w hb => ?_, fun w hb => ?_, fun w hb => ?_, fun A1 c1 A2 c2 w h1 h2 h3 h4 h5 hb => ?_⟩
  · refine (split_any A n c l w hn hnc hm (by omega) ((h.below hb).more hb.size)).mono fun e w' ⟨v, he, hO, hb2⟩ => ?_
    obtain ⟨A5, c5, rfl, p1, p2, p3⟩ := hO.lins
    exact ⟨A5, c5, he, p1, p2, p3, hb2, hb.trans (hb2.mono hb.size)⟩
  · exact (count_any A n c l w hn hnc hm ((h.below hb).more hb.size)).mono fun e w' ⟨he, hb2⟩ => ⟨he, hb.trans (hb2.mono hb.size)⟩
  · exact (awake_any w).mono fun e w' ⟨he, hb2⟩ => ⟨he, hb.trans (hb2.mono hb.size)⟩
  · refine (sameL_any A1 A2 _ c1 _ c2 (splitS l) (splitS l) w.heap.size w rfl rfl h1 h3 h2 h4 h5).mono fun e w' ⟨he, q, hq⟩ => ⟨?_, q, hq, ?_⟩
    · rw [he]; simp
    · rw [hq]; exact below_drewN hb q

set_option maxHeartbeats 1000000 in
set_option maxRecDepth 100000 in
theorem core (W : World) (A : Option Addr) (n c : Nat) (l : List UInt8) (hn : n = l.length) (hnc : n ≤ c) (hm : c ≤ maxLen) (h : Byt W W.heap.size A l) (z : Int) (hz : (Lit.int .i64 z).wf = true) :
    Calls Try.prog 3 #[.slice A n c, .int .i64 z] W fun e W' => e = .returned (.bool true) ∧ Below W.heap.size W W' := by
  by_cases hbig : n ≤ 300
  · have hz1 : z ≤ 9223372036854775807 := (bounds_i64 hz).2
    obtain ⟨t1, t2, t3, t4⟩ := tail W A n c l hn hnc hm hbig h
    have hS := Lib.hid t1
    have hC := Lib.hid t2
    have hW := Lib.hid t3
    have hQ := Lib.hid t4
    have hR := Lib.hid (refSplit_any A n c l W hn hnc (by omega) h)
    have hle := splitS_le l
    by_cases hz0 : z < 1
    · have hN := Lib.hid (fun w => nth_low A n c z w hz0)
      have hlen : (splitS l).length ≤ 300 := by omega
      clear t1 t2 t3 t4 hn h hle
      unfold maxLen at hm
      go_enter Try.func3, Try.ntmps3
      go_wp2_with (first
        | (go_at_call 8; refine (hR.out).mono ?_; rintro e w1 ⟨v, rfl, hO, hb1⟩; obtain ⟨A1, c1, rfl, k1, k2, k3⟩ := hO.lins)
        | (go_at_call 9; refine (hN.out _).mono ?_; rintro e w2 ⟨rfl, hb2⟩; have hb3 := hb1.trans (hb2.mono hb1.size)))
      go_big_region
      have hb1X := ((hb2.alloc hb2.size (.cells #[.slice none 0 0, .bool false] 27)).drew)
      have hbW := hb1.trans (hb1X.mono hb1.size)
      go_wp2_with (first
        | (go_at_call 11; refine (hS.out _ hbW).mono ?_; rintro e w5 ⟨A5, c5, rfl, p1, p2, p3, hb5, hb6⟩; have k5 := (k3.below (hb1X.trans (hb5.mono hb1X.size))).more (Nat.le_trans hb1X.size hb5.size))
        | (go_at_call 10; refine (hQ.out _ _ _ _ _ p1 p2 k1 p3 k5 hb6).mono ?_; rintro e w6 ⟨rfl, q, rfl, hb7⟩)
        | (go_at_call 12; refine (hC.out _ hb7).mono ?_; rintro e w8 ⟨rfl, hb8⟩)
        | (go_at_call 7; refine (hW.out _ hb8).mono ?_; rintro e w9 ⟨rfl, hb9⟩))
      go_ret
      exact ⟨rfl, hb9⟩
    · by_cases hzl : z ≤ ((splitS l).length : Int)
      · obtain ⟨j, rfl⟩ : ∃ j : Nat, z = (j : Int) + 1 := ⟨(z - 1).toNat, by omega⟩
        obtain ⟨⟨x1, x2⟩, hX⟩ : ∃ x, (splitS l)[j]? = some x := ⟨_, List.getElem?_eq_getElem (by omega)⟩
        have hsome : nthS l ((j : Int) + 1) = some (x1, x2) := by
          unfold nthS; rw [if_neg (by omega), show ((j : Int) + 1 - 1).toNat = j by omega]; exact hX
        have hN := Lib.hid (fun (w : World) (hb : Below W.heap.size W w) => nth_some A n c l ((j : Int) + 1) w hn hnc hm (by omega) hz1 ((h.below hb).more hb.size) hsome)
        have hlen : (splitS l).length ≤ 300 := by omega
        have hX := Lib.hid hX
        have hzd : decide ((j : Int) + 1 ≤ ((splitS l).length : Int)) = true := decide_eq_true hzl
        clear t1 t2 t3 t4 hn h hle hsome
        have hjn : j < (splitS l).length := by omega
        have hj3 : j ≤ 300 := by omega
        clear hz1 hz
        have g1 : (0 : Int) ≤ (j : Int) := by omega
        have g2 : (j : Int) ≤ (j : Int) + 1 := by omega
        have g4 : (0 : Int) ≤ (j : Int) + 1 := by omega
        have gw : ∀ j : Nat, j ≤ 300 → IntKind.i64.wrap ((j : Int) + 1 - 1) = (j : Int) := fun j hj => by
          rw [show (j : Int) + 1 - 1 = (j : Int) by omega]; exact IntWalk.i64_in _ (by omega)
        have g5 := gw j hj3
        have g6 : IntKind.i64.wrap (j : Int) = (j : Int) := IntWalk.i64_in _ (by omega)
        have g7 : (j : Int) + 1 - 1 = (j : Int) := by omega
        clear gw
        unfold maxLen at hm
        go_enter Try.func3, Try.ntmps3
        go_wp2_with (first
          | (go_at_call 8; refine (hR.out).mono ?_; rintro e w1 ⟨v, rfl, hO, hb1⟩; obtain ⟨A1, c1, rfl, k1, k2, k3⟩ := hO.lins
             obtain ⟨ad, rfl, k4⟩ := lins_some k3 hX.out; have hcj : c1 ≠ j := (by omega); have g3 : (j : Int) + 1 ≤ (c1 : Int) := (by omega))
          | (go_at_call 9; refine (hN.out _ hb1).mono ?_; rintro e w2 ⟨v2, rfl, ho2, hb2⟩; obtain ⟨A2, c2, rfl, -, q1, q2, q3⟩ := own_byt ho2; have hb3 := hb1.trans (hb2.mono hb1.size)))
        have hszA : ∀ (w : World) (o : Obj), (w.alloc o).heap.size = w.heap.size + 1 := fun w o => by simp
        have hb2Y : Below w2.heap.size w2 ((w2.alloc (.cells #[.slice A2 x1.length c2, .bool x2] 27)).alloc (.cells #[.slice A2 x1.length c2, .bool x2] 27)) := ((Below.refl _ _).alloc (Nat.le_refl _) _).alloc (by rw [hszA]; omega) _
        have hb2Z : Below w2.heap.size w2 (((w2.alloc (.cells #[.slice A2 x1.length c2, .bool x2] 27)).alloc (.cells #[.slice A2 x1.length c2, .bool x2] 27)).drew) := (((Below.refl _ _).alloc (Nat.le_refl _) _).alloc (by rw [hszA]; omega) _).drew
        have hsz : (((w2.alloc (.cells #[.slice A2 x1.length c2, .bool x2] 27)).alloc (.cells #[.slice A2 x1.length c2, .bool x2] 27)).drew).heap.size = w2.heap.size + 2 := by show ((w2.alloc _).alloc _).heap.size = _; rw [hszA, hszA]
        have hXL : Lins (((w2.alloc (.cells #[.slice A2 x1.length c2, .bool x2] 27)).alloc (.cells #[.slice A2 x1.length c2, .bool x2] 27)).drew) (((w2.alloc (.cells #[.slice A2 x1.length c2, .bool x2] 27)).alloc (.cells #[.slice A2 x1.length c2, .bool x2] 27)).drew).heap.size (some ⟨w2.heap.size + 1, 0, none⟩) [(x1, x2)] := by
          intro k hk
          obtain rfl : k = 0 := by simpa using hk
          have hn := new_cells (w2.alloc (.cells #[.slice A2 x1.length c2, .bool x2] 27)) [.slice A2 x1.length c2, .bool x2] 27
          rw [hszA] at hn
          exact ⟨⟨w2.heap.size + 1, 0, none⟩, .slice A2 x1.length c2, rfl, by rw [hsz]; show w2.heap.size + 1 < _; omega, hn 0 _ rfl, hn 1 _ rfl, A2, x1.length, c2, rfl, rfl, q1, q2, (q3.below hb2Z).more (by rw [hsz]; omega)⟩
        have hYL := (k4.below (hb2.trans (hb2Z.mono hb2.size))).more (Nat.le_trans hb2.size (show w2.heap.size ≤ (((w2.alloc (.cells #[.slice A2 x1.length c2, .bool x2] 27)).alloc (.cells #[.slice A2 x1.length c2, .bool x2] 27)).drew).heap.size by rw [hsz]; omega))
        have hE0 := sameL_any (some ⟨w2.heap.size + 1, 0, none⟩) (some (ad.add (j * 2))) 1 1 1 (c1 - j) [(x1, x2)] [(x1, x2)] _ (((w2.alloc (.cells #[.slice A2 x1.length c2, .bool x2] 27)).alloc (.cells #[.slice A2 x1.length c2, .bool x2] 27)).drew) rfl rfl (Nat.le_refl _) (by omega) (by simp [maxLen]) hXL hYL
        rw [show ([(x1, x2)] == [(x1, x2)]) = true by simp] at hE0
        have hE := Lib.hid hE0
        have hX1 := Lib.hid hXL
        clear hE0 hXL hYL hszA hsz
        go_region_held3 (fun w' => w'.cell? ⟨w2.heap.size, 0, none⟩ = some (.slice A2 x1.length c2) ∧ w'.cell? ⟨w2.heap.size, 1, none⟩ = some (.bool x2)) (go_keep) (first | (go_at_call 10; refine (hE.out).mono ?_; rintro e w6 ⟨rfl, q, rfl⟩))
        have hb1X := below_drewN (hb2.trans (hb2Y.mono hb2.size)) (1 + q)
        have hbW := hb1.trans (hb1X.mono hb1.size)
        go_wp2_with (first
          | (go_at_call 11; refine (hS.out _ hbW).mono ?_; rintro e w5 ⟨A5, c5, rfl, p1, p2, p3, hb5, hb6⟩; have k5 := (k3.below (hb1X.trans (hb5.mono hb1X.size))).more (Nat.le_trans hb1X.size hb5.size))
          | (go_at_call 10; refine (hQ.out _ _ _ _ _ p1 p2 k1 p3 k5 hb6).mono ?_; rintro e w6 ⟨rfl, q, rfl, hb7⟩)
          | (go_at_call 12; refine (hC.out _ hb7).mono ?_; rintro e w8 ⟨rfl, hb8⟩)
          | (go_at_call 7; refine (hW.out _ hb8).mono ?_; rintro e w9 ⟨rfl, hb9⟩))
        go_ret
        exact ⟨rfl, hb9⟩
      · have hno : nthS l z = none := by
          unfold nthS; rw [if_neg hz0]; exact List.getElem?_eq_none (by omega)
        have hN := Lib.hid (fun (w : World) (hb : Below W.heap.size W w) => nth_none A n c l z w hn hnc hm (by omega) hz1 ((h.below hb).more hb.size) hno)
        have hzd : decide (z ≤ ((splitS l).length : Int)) = false := decide_eq_false hzl
        have hlen : (splitS l).length ≤ 300 := by omega
        clear t1 t2 t3 t4 hn h hle
        unfold maxLen at hm
        go_enter Try.func3, Try.ntmps3
        go_wp2_with (first
          | (go_at_call 8; refine (hR.out).mono ?_; rintro e w1 ⟨v, rfl, hO, hb1⟩; obtain ⟨A1, c1, rfl, k1, k2, k3⟩ := hO.lins)
          | (go_at_call 9; refine (hN.out _ hb1).mono ?_; rintro e w2 ⟨rfl, hb2⟩; have hb3 := hb1.trans (hb2.mono hb1.size)))
        go_big_region
        have hb1X := ((hb2.alloc hb2.size (.cells #[.slice none 0 0, .bool false] 27)).drew)
        have hbW := hb1.trans (hb1X.mono hb1.size)
        go_wp2_with (first
          | (go_at_call 11; refine (hS.out _ hbW).mono ?_; rintro e w5 ⟨A5, c5, rfl, p1, p2, p3, hb5, hb6⟩; have k5 := (k3.below (hb1X.trans (hb5.mono hb1X.size))).more (Nat.le_trans hb1X.size hb5.size))
          | (go_at_call 10; refine (hQ.out _ _ _ _ _ p1 p2 k1 p3 k5 hb6).mono ?_; rintro e w6 ⟨rfl, q, rfl, hb7⟩)
          | (go_at_call 12; refine (hC.out _ hb7).mono ?_; rintro e w8 ⟨rfl, hb8⟩)
          | (go_at_call 7; refine (hW.out _ hb8).mono ?_; rintro e w9 ⟨rfl, hb9⟩))
        go_ret
        exact ⟨rfl, hb9⟩
  · have hbig : 300 < n := by omega
    have hW := Lib.hid awake_any
    unfold maxLen at hm
    clear hn h
    go_enter Try.func3, Try.ntmps3
    go_wp2_with (first
      | (go_at_call 7; refine (hW.out _).mono ?_; rintro e w5 ⟨rfl, hb5⟩))
    go_ret
    exact ⟨rfl, hb5⟩
theorem contract (H : Type) (enc : TypeId × Value → H) (W : World) (base : Nat) (args : Array Value) (ds gs : List (DataW H)) (before : List MemPlace)
    (hval : ∀ (j : Nat) t v, Try.f3.params[j]? = some t → args[j]? = some v → Value.okWide Try.prog W .any base t v)
    (hW : DataW.Whole enc Try.prog Try.f3.params.toList Rows.linesSplitSpec.vars false W args.toList ds gs before) :
    Calls Try.prog 3 args W fun e W' => ∃ v, e = .returned v ∧ Rows.linesSplitSpec.post enc Try.prog Try.f3 false true false false W args v W' := by
  have hW' := hW
  obtain ⟨p, q, hA, hV, rfl, hfz, hnd⟩ := hW
  rw [Try.params3] at hA hval
  obtain ⟨v0, vs0, d0, ds0, p0, q0, hargs, rfl, rfl, h0, r0⟩ := trodAll_cons hA
  obtain ⟨v1, vs1, d1, ds1, p1, q1, rfl, rfl, rfl, h1, r1⟩ := trodAll_cons r0
  obtain ⟨rfl, rfl, rfl⟩ := trodAll_nil r1
  obtain rfl : args = #[v0, v1] := by cases args; simp_all
  obtain ⟨rfl, rfl⟩ := trodVars_none hV
  obtain ⟨A0, n0, c0, l0, rfl, e0, k0, m0, x0⟩ := open_byt Try.underlying22 Try.underlying5 (by kernel_rfl) (hval 0 22 v0 rfl rfl) h0
  obtain ⟨a1, rfl, rfl, rfl, w1⟩ := open_int Try.underlying3 (hval 1 3 v1 rfl rfl) h1
  exact (core W A0 n0 c0 l0 e0 k0 m0 x0 a1 w1).mono fun e W' ⟨he, hb⟩ => ⟨_, he, law_post hW' rfl (by kernel_rfl) (by kernel_rfl) rfl hb⟩

theorem laid_met (os : Os) : laidMetH Try.prog Rows.linesSplitRow.laid ((World.doorLaid Try.prog 4000 os).forCall (fun _ _ => 0) ⟨#[], #[.slice none 0 0, .int .i64 0], []⟩).memory :=
  laidMetH_of_parts3 (fuel := 8) (laidMet_of_run' 8 (by kernel_rfl) (by kernel_rfl)) (by kernel_rfl) (by kernel_rfl)
theorem reads (os : Os) {H : Type} (enc : TypeId × Value → H) : ∃ places, DataW.whole enc Try.prog ((World.doorLaid Try.prog 4000 os).forCall (fun _ _ => 0) ⟨#[], #[.slice none 0 0, .int .i64 0], []⟩).memory Try.f3.params.toList Rows.linesSplitSpec.vars false #[Value.slice none 0 0, .int .i64 0].toList 8 = some ([.nil, .lit (.int .i64 0)], [], places) :=
  ⟨[], by kernel_rfl⟩

set_option maxRecDepth 100000 in
theorem lifted (os : Os) (started : os.Started) (H : Type) (enc : TypeId × Value → H) (F : Stop.Interp) :
    ReturnsInHanded {} Try.checked os 3 .any ((OpenSpec.ofChange Rows.linesSplitSpec).preRow enc Try.prog Try.f3 Rows.linesSplitRow.domain false Rows.linesSplitRow.laid) (((OpenSpec.ofChange Rows.linesSplitSpec).at F).post enc Try.prog Try.f3 false true false false) := by
  obtain ⟨places, hx⟩ := reads os enc
  refine returnsInHanded_of_row (C := Try.checked) (s := (OpenSpec.ofChange Rows.linesSplitSpec)) own started (by kernel_rfl) Try.func3
    (witness_row_at (enc := enc) (C := Try.checked) false (World.doorLaid Try.prog 4000 os) #[.slice none 0 0, .int .i64 0] rfl (by kernel_rfl) (by kernel_rfl) (by kernel_rfl)
      (OpenSpec.preRow_of_cond 8 hx (by kernel_rfl) (fun k hk => by cases hk) (by kernel_rfl) (laid_met os))) ?_
  intro W base args ds gs before hval hW _ _ _ _ _ _
  exact contract H enc W base args ds gs before hval hW

theorem said : Rows.LinesSplitSaid :=
  OpenClaim.holds_of_cond 3 Try.f3 rfl rfl rfl rfl rfl rfl rfl ⟨rfl, rfl, rfl, rfl, rfl⟩ rfl rfl rfl rfl rfl (by kernel_rfl) Try.func3 (by kernel_rfl)
    (of_decide_eq_true (by kernel_rfl)) (by unfold Func.isWrapper; first | (rw [if_pos (by decide +kernel)]; kernel_rfl) | (rw [if_neg (by decide +kernel)]; exact ⟨rfl, rfl⟩))
    (fun os started H enc _ F => by rw [OpenClaim.pre_eq_preRow]; exact lifted os started H enc F)

end Go.Proofs.Ytdmbjhgfiofbhaa.Split
