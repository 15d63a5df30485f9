/- AddrLast answers true at every two numbers. Conditions: none. -/
import Derived.Test.YtailhicemogphaaFrame
import Derived.Test.YtailhicemogphaaAdrF
set_option linter.unusedVariables false
set_option linter.unusedSimpArgs false
set_option maxRecDepth 100000
namespace Go.Proofs.Ytailhicemogphaa.Last15
open Go.ChangeShapes Go.WideShapes Go.ChangeAt Go.RowKit

def onAt (k n i : Nat) : Bool := decide (k < i ∧ i ≤ n)
def RelL (W : World) (k n : Nat) (on i : Value) (wr : World) : Prop :=
  ∃ j : Nat, i = .int .i64 (j : Int) ∧ 1 ≤ j ∧ j ≤ n + 1 ∧ on = .bool (onAt k n j) ∧ Held wr W.heap.size 23 #[.int .i64 1, .int .i64 k, .int .i64 0] ∧ Held wr (W.heap.size + 1) 23 #[.int .i64 2, .int .i64 0, .int .i64 0] ∧ Below W.heap.size W wr
theorem RelL.mk {W : World} {k n : Nat} {on i : Value} {wr : World} (h : ∃ j : Nat, i = .int .i64 (j : Int) ∧ 1 ≤ j ∧ j ≤ n + 1 ∧ on = .bool (onAt k n j) ∧ Held wr W.heap.size 23 #[.int .i64 1, .int .i64 k, .int .i64 0] ∧ Held wr (W.heap.size + 1) 23 #[.int .i64 2, .int .i64 0, .int .i64 0] ∧ Below W.heap.size W wr) : RelL W k n on i wr := h
theorem stepB {w w1 w2 : World} (h : Below w.heap.size w w1) (hq : Below w1.heap.size w1 w2) : Below w.heap.size w w2 := h.trans (hq.mono h.size)
theorem rem_nat {x m : Int} (h : (Lit.int .u8 x).wf = true) (hm : 0 < m) : ∃ j : Nat, x.tmod m = (j : Int) ∧ x % m = (j : Int) ∧ (j : Int) < m ∧ IntKind.i64.wrap x = x := by
  have b := bounds_u8 h
  obtain ⟨j, hj⟩ : ∃ j : Nat, x.tmod m = (j : Int) := ⟨(x.tmod m).toNat, by have := Int.tmod_nonneg m b.1; omega⟩
  refine ⟨j, hj, ?_, ?_, IntWalk.i64_in _ (by omega)⟩
  · rw [← hj, Int.tmod_eq_emod_of_nonneg b.1]
  · have := Int.tmod_lt_of_pos x hm; omega
set_option maxHeartbeats 4000000 in
theorem core (W : World) (a0 : Int) (ha0 : (Lit.int .u8 a0).wf = true) (a1 : Int) (ha1 : (Lit.int .u8 a1).wf = true) :
    Calls Try.prog 7 #[.int .u8 a0, .int .u8 a1] W fun e w' => e = .returned (.bool true) ∧ Below W.heap.size W w' := by
  have hAw := Lib.hid (fun (w : World) => awake15_any w)
  obtain ⟨m, hn1, hn2, hn3, hn4⟩ := rem_nat ha1 (show (0 : Int) < 60 by decide)
  obtain ⟨n, hn⟩ : ∃ n : Nat, n = m + 1 := ⟨_, rfl⟩
  have hn0 : 1 ≤ n := by omega
  have hnm : IntKind.i64.wrap (1 + (m : Int)) = (n : Int) := by rw [IntWalk.i64_in _ (by omega)]; omega
  obtain ⟨q, hk1, hk2, hk3, hk4⟩ := rem_nat ha0 (show (0 : Int) < (n : Int) by omega)
  obtain ⟨k, hk⟩ : ∃ k : Nat, k = q + 1 := ⟨_, rfl⟩
  have hkq : IntKind.i64.wrap (1 + (q : Int)) = (k : Int) := by rw [IntWalk.i64_in _ (by omega)]; omega
  have hkn := Lib.hid (show 1 ≤ k ∧ k ≤ n by omega)
  have hnz : ((n : Int) == 0) = false := by rw [beq_eq_false_iff_ne]; omega
  have hn60 := Lib.hid (show n ≤ 60 by omega)
  have hnz2 : (n : Int) ≠ 0 := by omega
  clear ha0 ha1 hn hk hn3 hk3
  have hn0h := Lib.hid hn0
  clear hn0
  have hA := Lib.hid ((held_new W 23 #[.int .i64 1, .int .i64 (k : Int), .int .i64 0]).alloc (.cells #[.int .i64 2, .int .i64 0, .int .i64 0] 23))
  have hB := Lib.hid (held_new2 W (.cells #[.int .i64 1, .int .i64 (k : Int), .int .i64 0] 23) 23 #[.int .i64 2, .int .i64 0, .int .i64 0])
  have hb := Lib.hid (((Below.refl W.heap.size W).alloc (Nat.le_refl _) (.cells #[.int .i64 1, .int .i64 (k : Int), .int .i64 0] 23)).alloc (by rw [sizeA']; exact Nat.le_succ _) (.cells #[.int .i64 2, .int .i64 0, .int .i64 0] 23))
  go_enter Try.func7, Try.ntmps7
  go_upto_region 4 with fail
  generalize (W.alloc (.cells #[.int .i64 1, .int .i64 (k : Int), .int .i64 0] 23)).alloc (.cells #[.int .i64 2, .int .i64 0, .int .i64 0] 23) = w1 at *
  go_wp2
  go_loopw [9, 10] (fun on i wr => RelL W k n on i wr) (fun _ i _ => n + 1 - (intOf i).toNat)
  case atStart => exact RelL.mk ⟨1, rfl, by omega, by omega, by rw [onAt, decide_eq_false (by have := hkn.out; omega)], hA.out, hB.out, hb.out⟩
  case round =>
    clear hA hB hb hnz hnz2
    obtain ⟨i, rfl, hi1, hin, rfl, hA, hB, hb⟩ := hrel
    obtain ⟨c1, c2, c3⟩ := ad_cells hA
    obtain ⟨d1, d2, d3⟩ := ad_cells hB
    have hAh := Lib.hid hA
    have hBh := Lib.hid hB
    have hbh := Lib.hid hb
    clear hA hB hb
    have hi1h := Lib.hid hi1
    have hinh := Lib.hid hin
    clear hi1 hin
    by_cases hlt : i ≤ n
    · have hin' : (i : Int) ≤ (n : Int) := by omega
      have hi60 : (i : Int) ≤ 60 := by have := hn60.out; omega
      have hlth := Lib.hid hlt
      clear hlt
      obtain ⟨L, hL⟩ : ∃ L : Bool, Hid (L = decide (i = n)) := ⟨_, Lib.hid rfl⟩
      have hLi : ((i : Int) == (n : Int)) = L := by rw [hL.out, Bool.eq_iff_iff, beq_iff_eq, decide_eq_true_eq]; omega
      have hsel := Lib.hid (fun (v : Value) (w : World) => select_12 (v := v) (k : Int) (i : Int) (onAt k n i) L w)
      have hhol := Lib.hid (fun (v : Value) (w : World) => holds_2 (v := v) (i : Int) L w)
      unfold adV at hsel hhol
      dsimp only at hsel hhol
      obtain ⟨S, hS⟩ : ∃ S, Hid (S = decide (k ≤ i)) := ⟨_, Lib.hid rfl⟩
      obtain ⟨N, hN⟩ : ∃ N, Hid (N = onAt k n (i + 1)) := ⟨_, Lib.hid rfl⟩
      have hse := Lib.hid (show (onAt k n i || decide ((k : Int) = (i : Int))) = S by
        have := hi1h.out
        have := hlth.out
        rw [hS.out, Bool.eq_iff_iff]; simp only [onAt, Bool.or_eq_true, decide_eq_true_eq]; omega)
      have hon := Lib.hid (show (S && !L) = N by
        have := hi1h.out
        have := hlth.out
        rw [hN.out, hS.out, hL.out, Bool.eq_iff_iff]; simp only [onAt, Bool.and_eq_true, Bool.not_eq_true', decide_eq_true_eq, decide_eq_false_iff_not]; omega)
      rw [hse.out, hon.out] at hsel
      have hS2 := Lib.hid (show S = true ↔ k ≤ i by rw [hS.out, decide_eq_true_eq])
      have hN2 := Lib.hid (show N = true ↔ (k < i + 1 ∧ i + 1 ≤ n) by rw [hN.out, onAt, decide_eq_true_eq])
      have hL2 := Lib.hid (show L = true ↔ i = n by rw [hL.out, decide_eq_true_eq])
      have hRl := Lib.hid (fun (w2 : World) hA2 hB2 hk2 => show RelL W k n (.bool N) (.int .i64 ((i + 1 : Nat) : Int)) w2 from RelL.mk ⟨i + 1, rfl, Nat.le_add_left 1 i, by have := hlth.out; omega, by rw [hN.out], hA2, hB2, hk2⟩)
      clear hse hon hS hN hL
      cases L
      all_goals (
        go_upto_region 9 with (go_at_call 14; refine (hsel.out _ _).mono ?_; rintro e w2 ⟨rfl, hq⟩; have hk2 := Lib.hid (stepB hbh.out hq); have hA2 := Lib.hid (hAh.out.keep hq); have hB2 := Lib.hid (hBh.out.keep hq); clear hq)
        clear c1 c2 c3 d1 d2 d3 hAh hBh hbh hsel
        obtain ⟨d1, d2, d3⟩ := ad_cells hB2.out
        go_upto_region 10 with (go_at_call 11; refine (hhol.out _ _).mono ?_; rintro e w3 ⟨rfl, hq⟩; have hk3 := Lib.hid (stepB hk2.out hq); have hA3 := Lib.hid (hA2.out.keep hq); have hB3 := Lib.hid (hB2.out.keep hq); clear hq)
        clear d1 d2 d3 hhol
        have hend := Lib.hid (hRl.out w3 hA3.out hB3.out hk3.out)
        clear hRl hA2 hB2 hk2 hA3 hB3
        cases S <;> cases N
        all_goals (
          go_wp2_with (first | go_region | fail)
          all_goals first
            | (exfalso; have h1 := hS2.out; have h2 := hN2.out; have h3 := hL2.out; have h4 := hlth.out; simp only [Bool.false_eq_true, false_iff, true_iff] at h1 h2 h3; omega)
            | (go_roundw
               case rel => exact hend.out
               case measure => simp [intOf]; have := hlth.out; omega)))
    · have hin' : ¬ (i : Int) ≤ (n : Int) := by omega
      have hof : onAt k n i = false := decide_eq_false (by omega)
      rw [hof]
      clear hof hlt
      go_wp2_with (first | (go_at_call 10; refine (hAw.out _).mono ?_; rintro e w3 ⟨rfl, hb3⟩) | go_region | fail)
      go_ret
      exact ⟨rfl, stepB hbh.out hb3⟩
theorem contract (H : Type) (enc : TypeId × Value → H) (W : World) (base : Nat) (args : Array Value) (ds gs : List (DataW H)) (before : List MemPlace)
    (hval : ∀ (j : Nat) t v, Try.f7.params[j]? = some t → args[j]? = some v → Value.okWide Try.prog W .any base t v)
    (hW : DataW.Whole enc Try.prog Try.f7.params.toList Rows.addrLastSpec.vars false W args.toList ds gs before) :
    Calls Try.prog 7 args W fun e W' => ∃ v, e = .returned v ∧ Rows.addrLastSpec.post enc Try.prog Try.f7 false true false false W args v W' := by
  have hW' := hW
  obtain ⟨p, q, hA, hV, rfl, hfz, hnd⟩ := hW
  rw [Try.params7] at hA hval
  obtain ⟨v0, vs0, d0, ds0, p0, q0, hargs, rfl, rfl, h0, r0⟩ := trodAll_cons hA
  obtain ⟨v1, vs1, d1, ds1, p1, q1, rfl, rfl, rfl, h1, r1⟩ := trodAll_cons r0
  obtain ⟨rfl, rfl, rfl⟩ := trodAll_nil r1
  obtain rfl : args = #[v0, v1] := by cases args; simp_all
  obtain ⟨rfl, rfl⟩ := trodVars_none hV
  obtain ⟨a0, rfl, rfl, rfl, w0⟩ := open_int Try.underlying5 (hval 0 5 v0 rfl rfl) h0
  obtain ⟨a1, rfl, rfl, rfl, w1⟩ := open_int Try.underlying5 (hval 1 5 v1 rfl rfl) h1
  exact (core W a0 w0 a1 w1).mono fun e W' ⟨he, hb⟩ => ⟨_, he, law_post hW' rfl (by kernel_rfl) (by kernel_rfl) rfl hb⟩

theorem laid_met (os : Os) : laidMetH Try.prog Rows.addrLastRow.laid ((World.doorLaid Try.prog 4000 os).forCall (fun _ _ => 0) ⟨#[], #[.int .u8 0, .int .u8 0], []⟩).memory :=
  laidMetH_of_parts3 (fuel := 8) (laidMet_of_run' 8 (by kernel_rfl) (by kernel_rfl)) (by kernel_rfl) (by kernel_rfl)
theorem reads (os : Os) {H : Type} (enc : TypeId × Value → H) : ∃ places, DataW.whole enc Try.prog ((World.doorLaid Try.prog 4000 os).forCall (fun _ _ => 0) ⟨#[], #[.int .u8 0, .int .u8 0], []⟩).memory Try.f7.params.toList Rows.addrLastSpec.vars false #[Value.int .u8 0, .int .u8 0].toList 8 = some ([.lit (.int .u8 0), .lit (.int .u8 0)], [], places) :=
  ⟨[], by kernel_rfl⟩

set_option maxRecDepth 100000 in
theorem lifted (os : Os) (started : os.Started) (H : Type) (enc : TypeId × Value → H) (F : Stop.Interp) :
    ReturnsInHanded {} Try.checked os 7 .any ((OpenSpec.ofChange Rows.addrLastSpec).preRow enc Try.prog Try.f7 Rows.addrLastRow.domain false Rows.addrLastRow.laid) (((OpenSpec.ofChange Rows.addrLastSpec).at F).post enc Try.prog Try.f7 false true false false) := by
  obtain ⟨places, hx⟩ := reads os enc
  refine returnsInHanded_of_row (C := Try.checked) (s := (OpenSpec.ofChange Rows.addrLastSpec)) own started (by kernel_rfl) Try.func7
    (witness_row_at (enc := enc) (C := Try.checked) false (World.doorLaid Try.prog 4000 os) #[.int .u8 0, .int .u8 0] rfl (by kernel_rfl) (by kernel_rfl) (by kernel_rfl)
      (OpenSpec.preRow_of_cond 8 hx (by kernel_rfl) (fun k hk => by cases hk) (by kernel_rfl) (laid_met os))) ?_
  intro W base args ds gs before hval hW _ _ _ _ _ _
  exact contract H enc W base args ds gs before hval hW

theorem said : Rows.AddrLastSaid :=
  OpenClaim.holds_of_cond 7 Try.f7 rfl rfl rfl rfl rfl rfl rfl ⟨rfl, rfl, rfl, rfl, rfl⟩ rfl rfl rfl rfl rfl (by kernel_rfl) Try.func7 (by kernel_rfl)
    (of_decide_eq_true (by kernel_rfl)) (by unfold Func.isWrapper; first | (rw [if_pos (by decide +kernel)]; kernel_rfl) | (rw [if_neg (by decide +kernel)]; exact ⟨rfl, rfl⟩))
    (fun os started H enc _ F => by rw [OpenClaim.pre_eq_preRow]; exact lifted os started H enc F)

end Go.Proofs.Ytailhicemogphaa.Last15
