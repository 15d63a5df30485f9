/- SwapBack answers true at every list of parts, and they read afterwards as they read before. Conditions: none. -/
import Derived.Test.YtkfdehkembcaoaaFrame
import Derived.Test.YtkfdehkembcaoaaSwpH
import Derived.Test.YtkfdehkembcaoaaSwpW
import Derived.Test.YtkfdehkembcaoaaSwpO
import Derived.Test.YtkfdehkembcaoaaSwpL
import Derived.Test.YtkfdehkembcaoaaSwpX
import Derived.Test.YtkfdehkembcaoaaSwpM
import Derived.Test.YtkfdehkembcaoaaSwpN
set_option linter.unusedVariables false
set_option linter.unusedSimpArgs false
set_option maxRecDepth 100000
namespace Go.Proofs.Ytkfdehkembcaoaa.Back13
open Go.ChangeShapes Go.WideShapes Go.ChangeAt Go.RowKit

theorem tok_at {T : List UInt8} {k : Nat} (h : Tok (T.drop k)) (hk : k < T.length) : (((T[k]'hk).toNat ≠ 92 ∧ (T[k]'hk).toNat ≠ 10) ∧ Tok (T.drop (k + 1))) ∨ ((T[k]'hk).toNat = 92 ∧ k + 2 ≤ T.length ∧ Tok (T.drop (k + 2))) := by
  rw [List.drop_eq_getElem_cons hk] at h
  generalize he : T.drop (k + 1) = R at h
  cases h with
  | one h92 h10 hr => exact .inl ⟨⟨h92, h10⟩, hr⟩
  | two h92 hr =>
    refine .inr ⟨h92, ?_, ?_⟩
    · have := congrArg List.length he
      rw [List.length_drop, List.length_cons] at this
      omega
    · have e2 : T.drop (k + 2) = (T.drop (k + 1)).drop 1 := by rw [List.drop_drop]
      rw [e2, he]
      exact hr
/-- What is told of parts, parsed by the reference. -/
theorem rParse_own {w : World} {B : Nat} {v : Value} {l : List Prt} (hr : RightL l) (hv : BytV w B v (wrL l)) (hB : B ≤ w.heap.size) (hM : (wrL l).length ≤ 900000) :
    Calls Try.prog 12 #[v, .int .i64 9] w fun e w' => (∃ A c, e = .returned (.tuple #[.slice A l.length c, .int .i64 0, .int .i64 0]) ∧ l.length ≤ c ∧ c ≤ maxLen ∧ Prts w' w'.heap.size A l) ∧ Below w.heap.size w w' := by
  obtain ⟨A, n, c, rfl, hn, hnc, hcm, hb⟩ := hv
  refine (rParse_any A n c (wrL l) B l w hn hnc hcm hB hb (by omega) (parse_back hr)).mono ?_
  rintro e w' ⟨⟨v, rfl, hO⟩, h2⟩
  obtain ⟨A2, c2, rfl, k1, k2, k3⟩ := hO.prts
  exact ⟨⟨A2, c2, rfl, k1, k2, k3⟩, h2⟩
set_option maxHeartbeats 8000000 in
theorem core (W : World) (A1 : Option Addr) (n1 c1 : Nat) (l1 : List Prt) (hn1 : n1 = l1.length) (hc1 : n1 ≤ c1) (hm1 : c1 ≤ maxLen) (h1 : Prts W W.heap.size A1 l1) :
    Calls Try.prog 3 #[.slice A1 n1 c1] W fun e W' => e = .returned (.bool true) ∧ Below W.heap.size W W' := by
  have hW := Lib.hid (fun w => awake13_any w)
  have hG := Lib.hid (great_any hn1 hc1 hm1 (Nat.le_refl 0) (by simp [maxLen]) h1 (At := none))
  have hR := Lib.hid (rRight13_any hn1 hc1 hm1 (Nat.le_refl _) h1)
  have hT := Lib.hid (fun (w' : World) (hb : Below W.heap.size W w') hr hM hl => text_any hn1 hc1 hm1 hb.size (h1.below hb) hr hM hl)
  have hS := Lib.hid (fun (w' : World) (hb : Below W.heap.size W w') (A2 : Option Addr) (c2 : Nat) (k1 : n1 ≤ c2) (k2 : c2 ≤ maxLen) (k3 : Prts w' w'.heap.size A2 l1) => rSame_self hn1 k1 k2 hc1 hm1 (Nat.le_refl _) k3 ((h1.below hb).more hb.size))
  have hn1h := Lib.hid hn1.symm
  clear h1 hn1
  go_enter Try.func3, Try.ntmps3
  go_upto_region 3 with (first
    | (go_at_call 7; refine (hG.out).mono ?_; rintro e w2 ⟨⟨b, rfl, hbf⟩, rfl⟩; have hbfh := Lib.hid hbf; clear hbf; cases b)
    | (go_at_call 8; refine (hR.out).mono ?_; rintro e w2 ⟨⟨b, rfl, hrt⟩, hb2⟩; have hrth := Lib.hid hrt; have hb2h := Lib.hid hb2; clear hrt hb2; cases b)
    | (go_at_call 9; refine (hW.out _).mono ?_; rintro e w3 ⟨rfl, hb3⟩))
  · go_ret
    exact ⟨rfl, hb2h.out.trans (hb3.mono hb2h.out.size)⟩
  rotate_left
  · go_ret
    exact ⟨rfl, hb3⟩
  · have hrt := Lib.hid (hrth.out trivial)
    have hk := hbfh.out trivial
    have hM := Lib.hid (show (wrL l1).length ≤ 900000 from by
      have := wrL_len l1 30 hk.2.2
      have h12 : l1.length * (2 * 30 + 2) ≤ 12 * (2 * 30 + 2) := Nat.mul_le_mul_right _ (by rw [hn1h.out]; exact hk.1)
      omega)
    have hTx := Lib.hid (hT.out w2 hb2h.out hrt.out hM.out (fun p hp => by have := hk.2.2 p hp; omega))
    have hTok := Lib.hid (tok_L l1)
    have hPs := Lib.hid (fun (w' : World) (v : Value) (hv : BytV w' w'.heap.size v (wrL l1)) => parse_right hrt.out hv (Nat.le_refl _) hM.out)
    have hRp := Lib.hid (fun (w' : World) (v : Value) (hv : BytV w' w'.heap.size v (wrL l1)) => rParse_own hrt.out hv (Nat.le_refl _) hM.out)
    clear hk hbfh hG hR hT hrth
    generalize wrL l1 = T at *
    go_upto_region 4 with (go_at_call 10; refine (hTx.out).mono ?_; rintro e w3 ⟨⟨v, rfl, hv⟩, hb3⟩; obtain ⟨A5, d5, rfl, hn5, hc5, hm5, hby⟩ := own_byt hv; have hv5 := Lib.hid hv; have hby5 := Lib.hid hby; have hb3h := Lib.hid (hb2h.out.trans (hb3.mono hb2h.out.size)); clear hv hn5 hby hb3)
    have hM2 := hM.out
    obtain ⟨nT, hnT⟩ : ∃ nT, T.length = nT := ⟨_, rfl⟩
    rw [hnT] at hM2 hv5 hc5 ⊢
    have hnTh := Lib.hid hnT
    clear hnT
    unfold maxLen at hm5
    go_wp2
    go_loop [4] (fun i => ∃ k : Nat, k ≤ nT ∧ i = .int .i64 (k : Nat) ∧ Tok (T.drop k)) (fun i => nT - (intOf i).toNat)
    case atStart => exact ⟨0, Nat.zero_le _, rfl, by rw [List.drop_zero]; exact hTok.out⟩
    case round =>
      obtain ⟨k, hkT, rfl, htk⟩ := hrel
      have htkh := Lib.hid htk
      clear htk
      by_cases hlt : k < nT
      · have hkx : k < T.length := by rw [hnTh.out]; exact hlt
        obtain ⟨ad, rfl, -, hcell⟩ := hby5.out.at_ (k := k) hkx
        have hta := Lib.hid (tok_at htkh.out hkx)
        obtain ⟨z, hz⟩ : ∃ z : Int, ((T[k]'hkx).toNat : Int) = z := ⟨_, rfl⟩
        rw [hz] at hcell
        have hkI : (k : Int) < (nT : Int) := by omega
        obtain ⟨k1, hk1⟩ : ∃ k1, k + 1 = k1 := ⟨_, rfl⟩
        obtain ⟨k2, hk2⟩ : ∃ k2, k + 2 = k2 := ⟨_, rfl⟩
        have hw1 : IntKind.i64.wrap ((k : Int) + 1) = (k1 : Int) := by rw [show (k : Int) + 1 = (k1 : Int) by omega]; exact IntWalk.i64_in _ (by omega)
        have hw2 : IntKind.i64.wrap ((k1 : Int) + 1) = (k2 : Int) := by rw [show (k1 : Int) + 1 = (k2 : Int) by omega]; exact IntWalk.i64_in _ (by omega)
        by_cases h92 : z = 92
        · have e92 : (z == 92) = true := by rw [beq_iff_eq]; exact h92
          have hnx := Lib.hid (show k2 ≤ nT ∧ Tok (T.drop k2) from by
            rcases hta.out with ⟨⟨q1, q2⟩, q3⟩ | ⟨q1, q2, q3⟩
            · exact absurd h92 (by omega)
            · rw [← hk2]; exact ⟨by have := hnTh.out; omega, q3⟩)
          have hms := Lib.hid (show nT - k2 < nT - k from by omega)
          replace hk1 := Lib.hid hk1
          replace hk2 := Lib.hid hk2
          replace hz := Lib.hid hz
          replace h92 := Lib.hid h92
          go_wp2
          go_round
          case rel => exact ⟨k2, hnx.out.1, rfl, hnx.out.2⟩
          case measure => have := hms.out; simp [intOf]; omega
        · have e92 : (z == 92) = false := by rw [beq_eq_false_iff_ne]; exact h92
          have e10 : (z == 10) = false := by
            rw [beq_eq_false_iff_ne]
            rcases hta.out with ⟨⟨q1, q2⟩, q3⟩ | ⟨q1, q2, q3⟩
            · omega
            · omega
          have hnx := Lib.hid (show k1 ≤ nT ∧ Tok (T.drop k1) from by
            rcases hta.out with ⟨⟨q1, q2⟩, q3⟩ | ⟨q1, q2, q3⟩
            · rw [← hk1]; exact ⟨by omega, q3⟩
            · exact absurd q1 (by omega))
          have hms := Lib.hid (show nT - k1 < nT - k from by omega)
          replace hk1 := Lib.hid hk1
          replace hk2 := Lib.hid hk2
          replace hz := Lib.hid hz
          replace h92 := Lib.hid h92
          go_wp2
          go_round
          case rel => exact ⟨k1, hnx.out.1, rfl, hnx.out.2⟩
          case measure => have := hms.out; simp [intOf]; omega
      · obtain rfl : k = nT := by omega
        have hbv := Lib.hid (fun (w' : World) (hb : Below w3.heap.size w3 w') => show BytV w' w'.heap.size (.slice A5 k d5) T from ⟨A5, k, d5, rfl, hnTh.out.symm, hc5, by unfold maxLen; omega, (hby5.out.below hb).more hb.size⟩)
        clear htkh hTok hTx
        go_wp2_with (first
          | (have _h := hb7; go_at_call 9; refine (hW.out _).mono ?_; rintro e w8 ⟨rfl, hb8⟩)
          | (have _h := hb6; go_at_call 13; refine (hS.out w6 hb6.out A7 c7 hq7.out.1 hq7.out.2.1 ((hq7.out.2.2.below hb6'.out).more hb6'.out.size)).mono ?_; rintro e w7 ⟨rfl, hb7'⟩; have hb7 := Lib.hid (hb6.out.trans (hb7'.mono hb6.out.size)))
          | (have _h := hb5; go_at_call 13; refine (hS.out w5 hb5.out A6 c6 hq6.out.1 hq6.out.2.1 hq6b.out).mono ?_; rintro e w6 ⟨rfl, hb6''⟩; have hb6' := Lib.hid hb6''; have hb6 := Lib.hid (hb5.out.trans (hb6''.mono hb5.out.size)); clear hb6'')
          | (have _h := hb4; go_at_call 12; refine (hRp.out w4 _ (hbv.out w4 hb4b.out)).mono ?_; rintro e w5 ⟨⟨A7, c7, rfl, j1, j2, j3⟩, hb5'⟩; rw [hn1h.out] at j1 ⊢; have hq7 := Lib.hid (And.intro j1 (And.intro j2 j3)); have hq6b := Lib.hid ((hq6.out.2.2.below hb5').more hb5'.size); have hb5 := Lib.hid (hb4.out.trans (hb5'.mono hb4.out.size)); clear j1 j2 j3 hb5')
          | (go_at_call 11; refine (hPs.out w3 _ (hbv.out w3 (Below.refl _ _))).mono ?_; rintro e w4 ⟨⟨A6, c6, rfl, i1, i2, i3⟩, hb4'⟩; rw [hn1h.out] at i1 ⊢; have hq6 := Lib.hid (And.intro i1 (And.intro i2 i3)); have hb4b := Lib.hid hb4'; have hb4 := Lib.hid (hb3h.out.trans (hb4'.mono hb3h.out.size)); clear i1 i2 i3 hb4'))
        go_ret
        exact ⟨rfl, hb7.out.trans (hb8.mono hb7.out.size)⟩
theorem contract (H : Type) (enc : TypeId × Value → H) (W : World) (base : Nat) (args : Array Value) (ds gs : List (DataW H)) (before : List MemPlace)
    (hval : ∀ (j : Nat) t v, Try.f3.params[j]? = some t → args[j]? = some v → Value.okWide Try.prog W .any base t v)
    (hW : DataW.Whole enc Try.prog Try.f3.params.toList Rows.swapBackSpec.vars false W args.toList ds gs before) :
    Calls Try.prog 3 args W fun e W' => ∃ v, e = .returned v ∧ Rows.swapBackSpec.post enc Try.prog Try.f3 false true false false W args v W' := by
  have hW' := hW
  obtain ⟨p, q, hA, hV, rfl, hfz, hnd⟩ := hW
  rw [Try.params3] at hA hval
  obtain ⟨v0, vs0, d0, ds0, p0, q0, hargs, rfl, rfl, h0, r0⟩ := trodAll_cons hA
  obtain ⟨rfl, rfl, rfl⟩ := trodAll_nil r0
  obtain rfl : args = #[v0] := by cases args; simp_all
  obtain ⟨rfl, rfl⟩ := trodVars_none hV
  obtain ⟨A0, n0, c0, l0, rfl, e0, k0, m0, x0⟩ := open_parts (hval 0 22 v0 rfl rfl) h0
  exact (core W A0 n0 c0 l0 e0 k0 m0 x0).mono fun e W' ⟨he, hb⟩ => ⟨_, he, law_post hW' rfl (by kernel_rfl) (by kernel_rfl) rfl hb⟩

theorem laid_met (os : Os) : laidMetH Try.prog Rows.swapBackRow.laid ((World.doorLaid Try.prog 4000 os).forCall (fun _ _ => 0) ⟨#[], #[.slice none 0 0], []⟩).memory :=
  laidMetH_of_parts3 (fuel := 8) (laidMet_of_run' 8 (by kernel_rfl) (by kernel_rfl)) (by kernel_rfl) (by kernel_rfl)
theorem reads (os : Os) {H : Type} (enc : TypeId × Value → H) : ∃ places, DataW.whole enc Try.prog ((World.doorLaid Try.prog 4000 os).forCall (fun _ _ => 0) ⟨#[], #[.slice none 0 0], []⟩).memory Try.f3.params.toList Rows.swapBackSpec.vars false #[Value.slice none 0 0].toList 8 = some ([.nil], [], places) :=
  ⟨[], by kernel_rfl⟩

set_option maxRecDepth 100000 in
theorem lifted (os : Os) (started : os.Started) (H : Type) (enc : TypeId × Value → H) (F : Stop.Interp) :
    ReturnsInHanded {} Try.checked os 3 .any ((OpenSpec.ofChange Rows.swapBackSpec).preRow enc Try.prog Try.f3 Rows.swapBackRow.domain false Rows.swapBackRow.laid) (((OpenSpec.ofChange Rows.swapBackSpec).at F).post enc Try.prog Try.f3 false true false false) := by
  obtain ⟨places, hx⟩ := reads os enc
  refine returnsInHanded_of_row (C := Try.checked) (s := (OpenSpec.ofChange Rows.swapBackSpec)) own started (by kernel_rfl) Try.func3
    (witness_row_at (enc := enc) (C := Try.checked) false (World.doorLaid Try.prog 4000 os) #[.slice none 0 0] rfl (by kernel_rfl) (by kernel_rfl) (by kernel_rfl)
      (OpenSpec.preRow_of_cond 8 hx (by kernel_rfl) (fun k hk => by cases hk) (by kernel_rfl) (laid_met os))) ?_
  intro W base args ds gs before hval hW _ _ _ _ _ _
  exact contract H enc W base args ds gs before hval hW

theorem said : Rows.SwapBackSaid :=
  OpenClaim.holds_of_cond 3 Try.f3 rfl rfl rfl rfl rfl rfl rfl ⟨rfl, rfl, rfl, rfl, rfl⟩ rfl rfl rfl rfl rfl (by kernel_rfl) Try.func3 (by kernel_rfl)
    (of_decide_eq_true (by kernel_rfl)) (by unfold Func.isWrapper; first | (rw [if_pos (by decide +kernel)]; kernel_rfl) | (rw [if_neg (by decide +kernel)]; exact ⟨rfl, rfl⟩))
    (fun os started H enc _ F => by rw [OpenClaim.pre_eq_preRow]; exact lifted os started H enc F)

end Go.Proofs.Ytkfdehkembcaoaa.Back13
