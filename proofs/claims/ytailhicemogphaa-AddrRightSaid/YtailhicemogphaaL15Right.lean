/- AddrRight answers true at every address and every number, and they read afterwards as they read before. Conditions: none. -/
import Derived.Test.YtailhicemogphaaFrame
import Derived.Test.YtailhicemogphaaAdrF
import Derived.Test.YtailhicemogphaaAdrO
import Derived.Deep.RegionWith
set_option linter.unusedVariables false
set_option linter.unusedSimpArgs false
set_option maxRecDepth 100000
namespace Go.Proofs.Ytailhicemogphaa.Right15
open Go.ChangeShapes Go.WideShapes Go.ChangeAt Go.RowKit

theorem stepB {w w1 w2 : World} (h : Below w.heap.size w w1) (hq : Below w1.heap.size w1 w2) : Below w.heap.size w w2 := h.trans (hq.mono h.size)
set_option maxHeartbeats 4000000 in
theorem core (W : World) (k m r res : Int) (hz : (Lit.int .i64 res).wf = true) :
    Calls Try.prog 3 #[.agg #[.int .i64 k, .int .i64 m, .int .i64 r], .int .i64 res] W fun e W' => e = .returned (.bool true) ∧ Below W.heap.size W W' := by
  have hb := Lib.hid ((Below.refl W.heap.size W).alloc (Nat.le_refl _) (.cells #[.int .i64 k, .int .i64 m, .int .i64 r] 23))
  have hP := Lib.hid (fun w => right_any ⟨k, m, r⟩ res w)
  have hR := Lib.hid (fun w => rRight_any ⟨k, m, r⟩ res w)
  have hW := Lib.hid (fun w => awake15_any w)
  generalize rightS ⟨k, m, r⟩ res = R at *
  unfold adV at hP hR
  dsimp only at hP hR
  have hh := Lib.hid (held_new W 23 #[.int .i64 k, .int .i64 m, .int .i64 r])
  go_enter Try.func3, Try.ntmps3
  go_upto_region 1 with fail
  generalize W.alloc (.cells #[.int .i64 k, .int .i64 m, .int .i64 r] 23) = w1 at *
  obtain ⟨c1, c2, c3⟩ := ad_cells hh.out
  have hRR : (R == R) = true := by cases R <;> rfl
  go_region_with (first
    | (go_at_call 8; refine (hP.out _).mono ?_; rintro e w2 ⟨rfl, hq⟩; have hk2 := Lib.hid (stepB (by first | exact hb.out | exact hb.out.drew | exact hk2.out | exact hk2.out.drew | exact hk3.out | exact hk3.out.drew) hq); obtain ⟨c4, c5, c6⟩ := ad_cells ((by first | exact hh.out.keep hq | exact hh.out.drew.keep hq)); clear hq)
    | (go_at_call 9; refine (hR.out _).mono ?_; rintro e w3 ⟨rfl, hq⟩; have hk3 := Lib.hid (stepB (by first | exact hb.out | exact hb.out.drew | exact hk2.out | exact hk2.out.drew | exact hk3.out | exact hk3.out.drew) hq); clear hq)
    | (go_at_call 10; refine (hW.out _).mono ?_; rintro e w4 ⟨rfl, hq⟩; have hk4 := Lib.hid (stepB (by first | exact hb.out | exact hb.out.drew | exact hk2.out | exact hk2.out.drew | exact hk3.out | exact hk3.out.drew) hq); clear hq))
  all_goals (
    go_wp2
    go_ret
    exact ⟨rfl, by first | exact hk4.out | exact hk4.out.drew⟩)
theorem contract (H : Type) (enc : TypeId × Value → H) (W : World) (base : Nat) (args : Array Value) (ds gs : List (DataW H)) (before : List MemPlace)
    (hval : ∀ (j : Nat) t v, Try.f3.params[j]? = some t → args[j]? = some v → Value.okWide Try.prog W .any base t v)
    (hW : DataW.Whole enc Try.prog Try.f3.params.toList Rows.addrRightSpec.vars false W args.toList ds gs before) :
    Calls Try.prog 3 args W fun e W' => ∃ v, e = .returned v ∧ Rows.addrRightSpec.post enc Try.prog Try.f3 false true false false W args v W' := by
  have hW' := hW
  obtain ⟨p, q, hA, hV, rfl, hfz, hnd⟩ := hW
  rw [Try.params3] at hA hval
  obtain ⟨v0, vs0, d0, ds0, p0, q0, hargs, rfl, rfl, h0, r0⟩ := trodAll_cons hA
  obtain ⟨v1, vs1, d1, ds1, p1, q1, rfl, rfl, rfl, h1, r1⟩ := trodAll_cons r0
  obtain ⟨rfl, rfl, rfl⟩ := trodAll_nil r1
  obtain rfl : args = #[v0, v1] := by cases args; simp_all
  obtain ⟨rfl, rfl⟩ := trodVars_none hV
  obtain ⟨ak0, an0, ar0, rfl⟩ := open_addr (hval 0 23 v0 rfl rfl) h0
  obtain ⟨a1, rfl, rfl, rfl, w1⟩ := open_int Try.underlying3 (hval 1 3 v1 rfl rfl) h1
  exact (core W ak0 an0 ar0 a1 w1).mono fun e W' ⟨he, hb⟩ => ⟨_, he, law_post hW' rfl (by kernel_rfl) (by kernel_rfl) rfl hb⟩

theorem laid_met (os : Os) : laidMetH Try.prog Rows.addrRightRow.laid ((World.doorLaid Try.prog 4000 os).forCall (fun _ _ => 0) ⟨#[], #[.agg #[.int .i64 0, .int .i64 0, .int .i64 0], .int .i64 0], []⟩).memory :=
  laidMetH_of_parts3 (fuel := 8) (laidMet_of_run' 8 (by kernel_rfl) (by kernel_rfl)) (by kernel_rfl) (by kernel_rfl)
theorem reads (os : Os) {H : Type} (enc : TypeId × Value → H) : ∃ places, DataW.whole enc Try.prog ((World.doorLaid Try.prog 4000 os).forCall (fun _ _ => 0) ⟨#[], #[.agg #[.int .i64 0, .int .i64 0, .int .i64 0], .int .i64 0], []⟩).memory Try.f3.params.toList Rows.addrRightSpec.vars false #[Value.agg #[.int .i64 0, .int .i64 0, .int .i64 0], .int .i64 0].toList 8 = some ([.agg [.lit (.int .i64 0), .lit (.int .i64 0), .lit (.int .i64 0)], .lit (.int .i64 0)], [], places) :=
  ⟨[], by kernel_rfl⟩

set_option maxRecDepth 100000 in
theorem lifted (os : Os) (started : os.Started) (H : Type) (enc : TypeId × Value → H) (F : Stop.Interp) :
    ReturnsInHanded {} Try.checked os 3 .any ((OpenSpec.ofChange Rows.addrRightSpec).preRow enc Try.prog Try.f3 Rows.addrRightRow.domain false Rows.addrRightRow.laid) (((OpenSpec.ofChange Rows.addrRightSpec).at F).post enc Try.prog Try.f3 false true false false) := by
  obtain ⟨places, hx⟩ := reads os enc
  refine returnsInHanded_of_row (C := Try.checked) (s := (OpenSpec.ofChange Rows.addrRightSpec)) own started (by kernel_rfl) Try.func3
    (witness_row_at (enc := enc) (C := Try.checked) false (World.doorLaid Try.prog 4000 os) #[.agg #[.int .i64 0, .int .i64 0, .int .i64 0], .int .i64 0] rfl (by kernel_rfl) (by kernel_rfl) (by kernel_rfl)
      (OpenSpec.preRow_of_cond 8 hx (by kernel_rfl) (fun k hk => by cases hk) (by kernel_rfl) (laid_met os))) ?_
  intro W base args ds gs before hval hW _ _ _ _ _ _
  exact contract H enc W base args ds gs before hval hW

theorem said : Rows.AddrRightSaid :=
  OpenClaim.holds_of_cond 3 Try.f3 rfl rfl rfl rfl rfl rfl rfl ⟨rfl, rfl, rfl, rfl, rfl⟩ rfl rfl rfl rfl rfl (by kernel_rfl) Try.func3 (by kernel_rfl)
    (of_decide_eq_true (by kernel_rfl)) (by unfold Func.isWrapper; first | (rw [if_pos (by decide +kernel)]; kernel_rfl) | (rw [if_neg (by decide +kernel)]; exact ⟨rfl, rfl⟩))
    (fun os started H enc _ F => by rw [OpenClaim.pre_eq_preRow]; exact lifted os started H enc F)

end Go.Proofs.Ytailhicemogphaa.Right15
