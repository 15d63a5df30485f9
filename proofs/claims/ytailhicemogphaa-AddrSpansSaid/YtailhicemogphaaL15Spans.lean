/- AddrSpans answers true at every three numbers. Conditions: none. -/
import Derived.Test.YtailhicemogphaaFrame
import Derived.Test.YtailhicemogphaaAdrF
set_option linter.unusedVariables false
set_option linter.unusedSimpArgs false
set_option maxRecDepth 100000
namespace Go.Proofs.Ytailhicemogphaa.Spans15
open Go.ChangeShapes Go.WideShapes Go.ChangeAt Go.RowKit

def onAt (f t i : Nat) : Bool := decide (1 ≤ f ∧ f < i ∧ i ≤ t)
def RelS (W : World) (f t n : Nat) (on i : Value) (wr : World) : Prop :=
  ∃ j : Nat, i = .int .i64 (j : Int) ∧ 1 ≤ j ∧ j ≤ n + 1 ∧ on = .bool (onAt f t j) ∧ Held wr W.heap.size 23 #[.int .i64 1, .int .i64 f, .int .i64 0] ∧ Held wr (W.heap.size + 1) 23 #[.int .i64 1, .int .i64 t, .int .i64 0] ∧ Below W.heap.size W wr
theorem RelS.mk {W : World} {f t n : Nat} {on i : Value} {wr : World} (h : ∃ j : Nat, i = .int .i64 (j : Int) ∧ 1 ≤ j ∧ j ≤ n + 1 ∧ on = .bool (onAt f t j) ∧ Held wr W.heap.size 23 #[.int .i64 1, .int .i64 f, .int .i64 0] ∧ Held wr (W.heap.size + 1) 23 #[.int .i64 1, .int .i64 t, .int .i64 0] ∧ Below W.heap.size W wr) : RelS W f t n on i wr := h
theorem stepB {w w1 w2 : World} (h : Below w.heap.size w w1) (hq : Below w1.heap.size w1 w2) : Below w.heap.size w w2 := h.trans (hq.mono h.size)
theorem rem_nat {x m : Int} (h : (Lit.int .u8 x).wf = true) (hm : 0 < m) : ∃ j : Nat, x.tmod m = (j : Int) ∧ x % m = (j : Int) ∧ (j : Int) < m ∧ IntKind.i64.wrap x = x := by
  have b := bounds_u8 h
  obtain ⟨j, hj⟩ : ∃ j : Nat, x.tmod m = (j : Int) := ⟨(x.tmod m).toNat, by have := Int.tmod_nonneg m b.1; omega⟩
  refine ⟨j, hj, ?_, ?_, IntWalk.i64_in _ (by omega)⟩
  · rw [← hj, Int.tmod_eq_emod_of_nonneg b.1]
  · have := Int.tmod_lt_of_pos x hm; omega
set_option maxHeartbeats 4000000 in
theorem core (W : World) (a0 : Int) (ha0 : (Lit.int .u8 a0).wf = true) (a1 : Int) (ha1 : (Lit.int .u8 a1).wf = true) (a2 : Int) (ha2 : (Lit.int .u8 a2).wf = true) :
    Calls Try.prog 5 #[.int .u8 a0, .int .u8 a1, .int .u8 a2] W fun e w' => e = .returned (.bool true) ∧ Below W.heap.size W w' := by
  have hAw := Lib.hid (fun (w : World) => awake15_any w)
  obtain ⟨f, hf1, hf2, hf3, hf4⟩ := rem_nat ha0 (show (0 : Int) < 70 by decide)
  obtain ⟨t, ht1, ht2, ht3, ht4⟩ := rem_nat ha1 (show (0 : Int) < 70 by decide)
  obtain ⟨n, hn1, hn2, hn3, hn4⟩ := rem_nat ha2 (show (0 : Int) < 60 by decide)
  clear ha0 ha1 ha2
  have hf3h := Lib.hid hf3
  have ht3h := Lib.hid ht3
  have hn3h := Lib.hid hn3
  clear hf3 ht3 hn3
  have hA := Lib.hid ((held_new W 23 #[.int .i64 1, .int .i64 (f : Int), .int .i64 0]).alloc (.cells #[.int .i64 1, .int .i64 (t : Int), .int .i64 0] 23))
  have hB := Lib.hid (held_new2 W (.cells #[.int .i64 1, .int .i64 (f : Int), .int .i64 0] 23) 23 #[.int .i64 1, .int .i64 (t : Int), .int .i64 0])
  have hb := Lib.hid (((Below.refl W.heap.size W).alloc (Nat.le_refl _) (.cells #[.int .i64 1, .int .i64 (f : Int), .int .i64 0] 23)).alloc (by rw [sizeA']; exact Nat.le_succ _) (.cells #[.int .i64 1, .int .i64 (t : Int), .int .i64 0] 23))
  go_enter Try.func5, Try.ntmps5
  go_upto_region 3 with fail
  generalize (W.alloc (.cells #[.int .i64 1, .int .i64 (f : Int), .int .i64 0] 23)).alloc (.cells #[.int .i64 1, .int .i64 (t : Int), .int .i64 0] 23) = w1 at *
  go_wp2
  go_loopw [10, 11] (fun on i wr => RelS W f t n on i wr) (fun _ i _ => n + 1 - (intOf i).toNat)
  case atStart => exact RelS.mk ⟨1, rfl, by omega, by omega, by rw [onAt, decide_eq_false (by omega)], hA.out, hB.out, hb.out⟩
  case round =>
    clear hA hB hb
    obtain ⟨i, rfl, hi1, hin, rfl, hA, hB, hb⟩ := hrel
    obtain ⟨c1, c2, c3⟩ := ad_cells hA
    obtain ⟨d1, d2, d3⟩ := ad_cells hB
    have hAh := Lib.hid hA
    have hBh := Lib.hid hB
    have hbh := Lib.hid hb
    clear hA hB hb
    have hsel := Lib.hid (fun (v : Value) (last : Bool) (w : World) => select_11 (v := v) (f : Int) (t : Int) (i : Int) (onAt f t i) last w)
    unfold adV at hsel
    dsimp only at hsel
    have hi1h := Lib.hid hi1
    have hinh := Lib.hid hin
    clear hi1 hin
    by_cases hlt : i ≤ n
    · have hin' : (i : Int) ≤ (n : Int) := by omega
      have hlth := Lib.hid hlt
      clear hlt
      obtain ⟨S, hS⟩ : ∃ S, Hid (S = decide (0 < f ∧ f ≤ i ∧ (i ≤ f ∨ i ≤ t))) := ⟨_, Lib.hid rfl⟩
      obtain ⟨N, hN⟩ : ∃ N, Hid (N = onAt f t (i + 1)) := ⟨_, Lib.hid rfl⟩
      have hon := Lib.hid (show ((onAt f t i || decide ((f : Int) = (i : Int))) && decide ((i : Int) < (t : Int))) = N by
        have := hi1h.out
        rw [hN.out, Bool.eq_iff_iff]; simp only [onAt, Bool.and_eq_true, Bool.or_eq_true, decide_eq_true_eq]; omega)
      have hse := Lib.hid (show (onAt f t i || decide ((f : Int) = (i : Int))) = S by
        have := hi1h.out
        rw [hS.out, Bool.eq_iff_iff]; simp only [onAt, Bool.or_eq_true, decide_eq_true_eq]; omega)
      rw [hon.out, hse.out] at hsel
      go_upto_region 8 with (go_at_call 14; refine (hsel.out _ _ _).mono ?_; rintro e w2 ⟨rfl, hq⟩; have hk2 := Lib.hid (stepB hbh.out hq); have hA2 := Lib.hid (hAh.out.keep hq); have hB2 := Lib.hid (hBh.out.keep hq); clear hq)
      clear c1 c2 c3 d1 d2 d3 hAh hBh hbh hsel hse hon
      obtain ⟨c1, c2, c3⟩ := ad_cells hA2.out
      obtain ⟨d1, d2, d3⟩ := ad_cells hB2.out
      have hin1 : i + 1 ≤ n + 1 := by have := hlth.out; omega
      have hend := Lib.hid (show RelS W f t n (.bool N) (.int .i64 ((i + 1 : Nat) : Int)) w2 from RelS.mk ⟨i + 1, rfl, Nat.le_add_left 1 i, hin1, by rw [hN.out], hA2.out, hB2.out, hk2.out⟩)
      clear hin1
      have hS2 := Lib.hid (show S = true ↔ (0 < f ∧ f ≤ i ∧ (i ≤ f ∨ i ≤ t)) by rw [hS.out, decide_eq_true_eq])
      have hN2 := Lib.hid (show N = true ↔ (1 ≤ f ∧ f < i + 1 ∧ i + 1 ≤ t) by rw [hN.out, onAt, decide_eq_true_eq])
      have hfacts := Lib.hid hlth.out
      clear hS hN hlth
      cases S <;> cases N
      all_goals (
        go_wp2_with (first | go_region | fail)
        all_goals first
          | (exfalso; have h1 := hS2.out; have h2 := hN2.out; simp only [Bool.false_eq_true, false_iff, true_iff] at h1 h2; omega)
          | (go_roundw
             case rel => exact hend.out
             case measure => simp [intOf]; have := hfacts.out; omega))
    · have hin' : ¬ (i : Int) ≤ (n : Int) := by omega
      clear hsel
      go_wp2_with (go_at_call 10; refine (hAw.out _).mono ?_; rintro e w3 ⟨rfl, hb3⟩)
      go_ret
      exact ⟨rfl, stepB hbh.out hb3⟩
theorem contract (H : Type) (enc : TypeId × Value → H) (W : World) (base : Nat) (args : Array Value) (ds gs : List (DataW H)) (before : List MemPlace)
    (hval : ∀ (j : Nat) t v, Try.f5.params[j]? = some t → args[j]? = some v → Value.okWide Try.prog W .any base t v)
    (hW : DataW.Whole enc Try.prog Try.f5.params.toList Rows.addrSpansSpec.vars false W args.toList ds gs before) :
    Calls Try.prog 5 args W fun e W' => ∃ v, e = .returned v ∧ Rows.addrSpansSpec.post enc Try.prog Try.f5 false true false false W args v W' := by
  have hW' := hW
  obtain ⟨p, q, hA, hV, rfl, hfz, hnd⟩ := hW
  rw [Try.params5] at hA hval
  obtain ⟨v0, vs0, d0, ds0, p0, q0, hargs, rfl, rfl, h0, r0⟩ := trodAll_cons hA
  obtain ⟨v1, vs1, d1, ds1, p1, q1, rfl, rfl, rfl, h1, r1⟩ := trodAll_cons r0
  obtain ⟨v2, vs2, d2, ds2, p2, q2, rfl, rfl, rfl, h2, r2⟩ := trodAll_cons r1
  obtain ⟨rfl, rfl, rfl⟩ := trodAll_nil r2
  obtain rfl : args = #[v0, v1, v2] := by cases args; simp_all
  obtain ⟨rfl, rfl⟩ := trodVars_none hV
  obtain ⟨a0, rfl, rfl, rfl, w0⟩ := open_int Try.underlying5 (hval 0 5 v0 rfl rfl) h0
  obtain ⟨a1, rfl, rfl, rfl, w1⟩ := open_int Try.underlying5 (hval 1 5 v1 rfl rfl) h1
  obtain ⟨a2, rfl, rfl, rfl, w2⟩ := open_int Try.underlying5 (hval 2 5 v2 rfl rfl) h2
  exact (core W a0 w0 a1 w1 a2 w2).mono fun e W' ⟨he, hb⟩ => ⟨_, he, law_post hW' rfl (by kernel_rfl) (by kernel_rfl) rfl hb⟩

theorem laid_met (os : Os) : laidMetH Try.prog Rows.addrSpansRow.laid ((World.doorLaid Try.prog 4000 os).forCall (fun _ _ => 0) ⟨#[], #[.int .u8 0, .int .u8 0, .int .u8 0], []⟩).memory :=
  laidMetH_of_parts3 (fuel := 8) (laidMet_of_run' 8 (by kernel_rfl) (by kernel_rfl)) (by kernel_rfl) (by kernel_rfl)
theorem reads (os : Os) {H : Type} (enc : TypeId × Value → H) : ∃ places, DataW.whole enc Try.prog ((World.doorLaid Try.prog 4000 os).forCall (fun _ _ => 0) ⟨#[], #[.int .u8 0, .int .u8 0, .int .u8 0], []⟩).memory Try.f5.params.toList Rows.addrSpansSpec.vars false #[Value.int .u8 0, .int .u8 0, .int .u8 0].toList 8 = some ([.lit (.int .u8 0), .lit (.int .u8 0), .lit (.int .u8 0)], [], places) :=
  ⟨[], by kernel_rfl⟩

set_option maxRecDepth 100000 in
theorem lifted (os : Os) (started : os.Started) (H : Type) (enc : TypeId × Value → H) (F : Stop.Interp) :
    ReturnsInHanded {} Try.checked os 5 .any ((OpenSpec.ofChange Rows.addrSpansSpec).preRow enc Try.prog Try.f5 Rows.addrSpansRow.domain false Rows.addrSpansRow.laid) (((OpenSpec.ofChange Rows.addrSpansSpec).at F).post enc Try.prog Try.f5 false true false false) := by
  obtain ⟨places, hx⟩ := reads os enc
  refine returnsInHanded_of_row (C := Try.checked) (s := (OpenSpec.ofChange Rows.addrSpansSpec)) own started (by kernel_rfl) Try.func5
    (witness_row_at (enc := enc) (C := Try.checked) false (World.doorLaid Try.prog 4000 os) #[.int .u8 0, .int .u8 0, .int .u8 0] rfl (by kernel_rfl) (by kernel_rfl) (by kernel_rfl)
      (OpenSpec.preRow_of_cond 8 hx (by kernel_rfl) (fun k hk => by cases hk) (by kernel_rfl) (laid_met os))) ?_
  intro W base args ds gs before hval hW _ _ _ _ _ _
  exact contract H enc W base args ds gs before hval hW

theorem said : Rows.AddrSpansSaid :=
  OpenClaim.holds_of_cond 5 Try.f5 rfl rfl rfl rfl rfl rfl rfl ⟨rfl, rfl, rfl, rfl, rfl⟩ rfl rfl rfl rfl rfl (by kernel_rfl) Try.func5 (by kernel_rfl)
    (of_decide_eq_true (by kernel_rfl)) (by unfold Func.isWrapper; first | (rw [if_pos (by decide +kernel)]; kernel_rfl) | (rw [if_neg (by decide +kernel)]; exact ⟨rfl, rfl⟩))
    (fun os started H enc _ F => by rw [OpenClaim.pre_eq_preRow]; exact lifted os started H enc F)

end Go.Proofs.Ytailhicemogphaa.Spans15
