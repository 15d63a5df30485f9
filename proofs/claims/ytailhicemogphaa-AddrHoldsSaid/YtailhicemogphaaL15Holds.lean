/- AddrHolds answers true at every address and every look, and they read afterwards as they read before. Conditions: none. -/
import Derived.Test.YtailhicemogphaaFrame
import Derived.Test.YtailhicemogphaaAdrF
import Derived.Test.YtailhicemogphaaAdrO
import Derived.Deep.RegionWith
set_option linter.unusedVariables false
set_option linter.unusedSimpArgs false
set_option maxRecDepth 100000
namespace Go.Proofs.Ytailhicemogphaa.Holds15
open Go.ChangeShapes Go.WideShapes Go.ChangeAt Go.RowKit

theorem stepB {w w1 w2 : World} (h : Below w.heap.size w w1) (hq : Below w1.heap.size w1 w2) : Below w.heap.size w w2 := h.trans (hq.mono h.size)
set_option maxHeartbeats 2000000 in
theorem core (W : World) (k m r line : Int) (last : Bool) (A : Option Addr) (n c : Nat) (l : List Bool) (hn : n = l.length) (hc : n ≤ c) (hm : c ≤ maxLen) (hv : Vals W W.heap.size A (l.map Value.bool)) :
    Calls Try.prog 4 #[.agg #[.int .i64 k, .int .i64 m, .int .i64 r], .agg #[.int .i64 line, .bool last, .slice A n c]] W fun e W' => e = .returned (.bool true) ∧ Below W.heap.size W W' := by
  have hW := Lib.hid (fun w => awake15_any w)
  have hb0 := Lib.hid (((Below.refl W.heap.size W).alloc (Nat.le_refl _) (.cells #[.int .i64 k, .int .i64 m, .int .i64 r] 23)).alloc (by rw [sizeA']; exact Nat.le_succ _) (.cells #[.int .i64 line, .bool last, .slice A n c] 28))
  have h1 := Lib.hid ((held_new W 23 #[.int .i64 k, .int .i64 m, .int .i64 r]).alloc (.cells #[.int .i64 line, .bool last, .slice A n c] 28))
  have h2 := Lib.hid (held_new2 W (.cells #[.int .i64 k, .int .i64 m, .int .i64 r] 23) 28 #[.int .i64 line, .bool last, .slice A n c])
  have hs0 : ((W.alloc (.cells #[.int .i64 k, .int .i64 m, .int .i64 r] 23)).alloc (.cells #[.int .i64 line, .bool last, .slice A n c] 28)).heap.size = W.heap.size + 1 + 1 := by rw [sizeA', sizeA']
  have hs0h := Lib.hid hs0
  clear hs0
  subst hn
  by_cases hl : 40 < l.length
  · go_enter Try.func4, Try.ntmps4
    go_wp2_with (go_at_call 10; refine (hW.out _).mono ?_; rintro e w2 ⟨rfl, hq⟩; have hk2 := Lib.hid (stepB hb0.out hq); clear hq)
    go_ret
    exact ⟨rfl, hk2.out⟩
  · go_enter Try.func4, Try.ntmps4
    go_upto_region 4 with fail
    have hb1 := hb0.out.alloc (by rw [hs0h.out]; omega) (.cells (askC line last A l.length c 0 0) 31)
    have hK := held_new ((W.alloc (.cells #[.int .i64 k, .int .i64 m, .int .i64 r] 23)).alloc (.cells #[.int .i64 line, .bool last, .slice A l.length c] 28)) 31 (askC line last A l.length c 0 0)
    rw [hs0h.out] at hK
    have H1 := h1.out.alloc (.cells (askC line last A l.length c 0 0) 31)
    have H2 := h2.out.alloc (.cells (askC line last A l.length c 0 0) 31)
    unfold askC at hb1 hK H1 H2
    generalize (((W.alloc (.cells #[.int .i64 k, .int .i64 m, .int .i64 r] 23)).alloc (.cells #[.int .i64 line, .bool last, .slice A l.length c] 28)).alloc (.cells #[.int .i64 line, .bool last, .slice A l.length c, .int .i64 0, .int .i64 0] 31)) = w1 at *
    have hlk := Lib.hid (fun (w2 : World) (h : Held w2 (W.heap.size + 1 + 1) 31 #[.int .i64 line, .bool last, .slice A l.length c, .int .i64 0, .int .i64 0]) => look_any (w := w2) (K := W.heap.size + 1 + 1) (line := line) (last := last) (A := A) (n := l.length) (c := c) (k := 0) (m := 0) h)
    have hho := Lib.hid (fun (w2 : World) (h : Held w2 (W.heap.size + 1 + 1) 31 #[.int .i64 line, .bool last, .slice A l.length c, .int .i64 0, .int .i64 0]) (hb : Below W.heap.size W w2) => holds_ask (K := W.heap.size + 1 + 1) (B := W.heap.size) (k := 0) (m := 0) ⟨k, m, r⟩ h rfl hc hm (hv.below hb) (by omega) (by omega))
    have hrh := Lib.hid (fun (w2 : World) (hb : Below W.heap.size W w2) => rHolds_any ⟨k, m, r⟩ line last rfl hc hm ((hv.below hb).more hb.size))
    have hnl := Lib.hid (fun (w2 : World) => holds_nil ⟨k, m, r⟩ line last w2)
    have hSN := Lib.hid (holdsS_n (a := ⟨k, m, r⟩) (line := line) (last := last) (bs := l))
    unfold lookV at hlk hho
    unfold adV lkV at *
    dsimp only at hho hrh hnl hSN
    generalize holdsS ⟨k, m, r⟩ line last l = R at *
    obtain ⟨R1, R2⟩ := R
    have H1h := Lib.hid H1
    have H2h := Lib.hid H2
    have hKh := Lib.hid hK
    have hb1h := Lib.hid hb1
    clear hb1 H1 H2 hK hc hm hv
    obtain ⟨c1, c2, c3⟩ := ad_cells H1h.out
    go_region_with (first
      | (go_at_call 12; refine (hlk.out _ (by first | exact hKh.out | exact hKh.out.drew)).mono ?_; rintro e w2 ⟨rfl, hq⟩; have hb2h := Lib.hid (stepB (by first | exact hb1h.out | exact hb1h.out.drew) hq); obtain ⟨c4, c5, c6⟩ := ad_cells (show Held w2 _ _ _ by first | exact H1h.out.keep hq | exact H1h.out.drew.keep hq); have hK2 := Lib.hid (show Held w2 _ _ _ by first | exact hKh.out.keep hq | exact hKh.out.drew.keep hq); have H12 := Lib.hid (show Held w2 _ _ _ by first | exact H1h.out.keep hq | exact H1h.out.drew.keep hq); have H22 := Lib.hid (show Held w2 _ _ _ by first | exact H2h.out.keep hq | exact H2h.out.drew.keep hq); clear hq)
      | (go_at_call 11; refine (hho.out _ (by first | exact hK2.out | exact hK2.out.drew) (by first | exact hb2h.out | exact hb2h.out.drew)).mono ?_; rintro e w3 ⟨rfl, hK3, hq⟩; have hK3h := Lib.hid hK3; have hq3h := Lib.hid hq; clear hK3 hq))
    all_goals (
      have H13 := Lib.hid (show Held w3 _ _ _ by first | exact H12.out.below hq3h.out (by omega) | exact H12.out.drew.below hq3h.out (by omega))
      have H23 := Lib.hid (show Held w3 _ _ _ by first | exact H22.out.below hq3h.out (by omega) | exact H22.out.drew.below hq3h.out (by omega))
      have hb3 := Lib.hid (show Below W.heap.size W w3 by first | exact hb2h.out.trans (hq3h.out.mono (by omega)) | exact hb2h.out.drew.trans (hq3h.out.mono (by omega)))
      obtain ⟨d1, d2, d3⟩ := ad_cells H13.out
      obtain ⟨e1, e2, e3⟩ := ad_cells H23.out
      clear c1 c2 c3 c4 c5 c6 H1h H2h hKh hb1h hb2h hK2 H12 H22 hq3h hlk hho h1 h2 hb0 hs0h
      have hRR : (R1 == R1) = true := by cases R1 <;> rfl
      have hRN : (R1 != R1) = false := by cases R1 <;> rfl
      go_upto_region 6 with (go_at_call 13; refine (hrh.out _ (by first | exact hb3.out | exact hb3.out.drew)).mono ?_; rintro e w4 ⟨rfl, hq⟩)
      have H14 := Lib.hid (show Held w4 _ _ _ by first | exact H13.out.keep hq | exact H13.out.drew.keep hq)
      have H24 := Lib.hid (show Held w4 _ _ _ by first | exact H23.out.keep hq | exact H23.out.drew.keep hq)
      have HK4 := Lib.hid (show Held w4 _ _ _ by first | exact hK3h.out.keep hq | exact hK3h.out.drew.keep hq)
      have hb4 := Lib.hid (stepB (by first | exact hb3.out | exact hb3.out.drew) hq)
      clear hq d1 d2 d3 e1 e2 e3 H13 H23 hK3h hb3 hrh
      obtain ⟨d1, d2, d3⟩ := ad_cells H14.out
      obtain ⟨e1, e2, e3⟩ := ad_cells H24.out
      by_cases h3 : k = 3
      · subst h3
        have HK5 := HK4.out
        rw [if_pos rfl, if_pos rfl] at HK5
        have k3 := HK5.at_ (i := 3) (v := .int .i64 1) rfl
        have k4 := HK5.at_ (i := 4) (v := .int .i64 r) rfl
        clear HK5 HK4
        rw [holdsN_3] at hnl
        dsimp only at hnl
        go_wp2_with (first
          | (go_at_call 11; refine (hnl.out _).mono ?_; rintro e w5 ⟨rfl, hq⟩; have hb5 := Lib.hid (stepB (by first | exact hb4.out | exact hb4.out.drew) hq); obtain ⟨f1, f2, f3⟩ := ad_cells (show Held w5 _ _ _ by first | exact H14.out.keep hq | exact H14.out.drew.keep hq); clear hq)
          | (go_at_call 10; refine (hW.out _).mono ?_; rintro e w6 ⟨rfl, hq⟩; have hb6 := Lib.hid (stepB (by first | exact hb5.out | exact hb5.out.drew) hq); clear hq)
          | go_region
          | fail)
        go_ret
        exact ⟨rfl, hb6.out⟩
      · have HK5 := HK4.out
        rw [if_neg h3, if_neg h3] at HK5
        have k3 := HK5.at_ (i := 3) (v := .int .i64 0) rfl
        have k4 := HK5.at_ (i := 4) (v := .int .i64 0) rfl
        clear HK5 HK4
        rw [← hSN.out h3] at hnl
        dsimp only at hnl
        have h3n : (k == 3) = false := by simpa using h3
        have h3m : (k != 3) = true := by simpa using h3
        have h3h := Lib.hid h3
        clear h3 hSN k4
        go_wp2_with (first
          | (go_at_call 11; refine (hnl.out _).mono ?_; rintro e w5 ⟨rfl, hq⟩; have hb5 := Lib.hid (stepB (by first | exact hb4.out | exact hb4.out.drew) hq); obtain ⟨f1, f2, f3⟩ := ad_cells (show Held w5 _ _ _ by first | exact H14.out.keep hq | exact H14.out.drew.keep hq); clear hq)
          | (go_at_call 10; refine (hW.out _).mono ?_; rintro e w6 ⟨rfl, hq⟩; have hb6 := Lib.hid (stepB (by first | exact hb5.out | exact hb5.out.drew) hq); clear hq)
          | go_region
          | fail)
        go_ret
        exact ⟨rfl, hb6.out⟩)
theorem contract (H : Type) (enc : TypeId × Value → H) (W : World) (base : Nat) (args : Array Value) (ds gs : List (DataW H)) (before : List MemPlace)
    (hval : ∀ (j : Nat) t v, Try.f4.params[j]? = some t → args[j]? = some v → Value.okWide Try.prog W .any base t v)
    (hW : DataW.Whole enc Try.prog Try.f4.params.toList Rows.addrHoldsSpec.vars false W args.toList ds gs before) :
    Calls Try.prog 4 args W fun e W' => ∃ v, e = .returned v ∧ Rows.addrHoldsSpec.post enc Try.prog Try.f4 false true false false W args v W' := by
  have hW' := hW
  obtain ⟨p, q, hA, hV, rfl, hfz, hnd⟩ := hW
  rw [Try.params4] at hA hval
  obtain ⟨v0, vs0, d0, ds0, p0, q0, hargs, rfl, rfl, h0, r0⟩ := trodAll_cons hA
  obtain ⟨v1, vs1, d1, ds1, p1, q1, rfl, rfl, rfl, h1, r1⟩ := trodAll_cons r0
  obtain ⟨rfl, rfl, rfl⟩ := trodAll_nil r1
  obtain rfl : args = #[v0, v1] := by cases args; simp_all
  obtain ⟨rfl, rfl⟩ := trodVars_none hV
  obtain ⟨ak0, an0, ar0, rfl⟩ := open_addr (hval 0 23 v0 rfl rfl) h0
  obtain ⟨li1, la1, A1, n1, c1, l1, rfl, e1, k1, m1, x1⟩ := open_look (hval 1 28 v1 rfl rfl) h1
  exact (core W ak0 an0 ar0 li1 la1 A1 n1 c1 l1 e1 k1 m1 x1).mono fun e W' ⟨he, hb⟩ => ⟨_, he, law_post hW' rfl (by kernel_rfl) (by kernel_rfl) rfl hb⟩

theorem laid_met (os : Os) : laidMetH Try.prog Rows.addrHoldsRow.laid ((World.doorLaid Try.prog 4000 os).forCall (fun _ _ => 0) ⟨#[], #[.agg #[.int .i64 0, .int .i64 0, .int .i64 0], .agg #[.int .i64 0, .bool false, .slice none 0 0]], []⟩).memory :=
  laidMetH_of_parts3 (fuel := 8) (laidMet_of_run' 8 (by kernel_rfl) (by kernel_rfl)) (by kernel_rfl) (by kernel_rfl)
theorem reads (os : Os) {H : Type} (enc : TypeId × Value → H) : ∃ places, DataW.whole enc Try.prog ((World.doorLaid Try.prog 4000 os).forCall (fun _ _ => 0) ⟨#[], #[.agg #[.int .i64 0, .int .i64 0, .int .i64 0], .agg #[.int .i64 0, .bool false, .slice none 0 0]], []⟩).memory Try.f4.params.toList Rows.addrHoldsSpec.vars false #[Value.agg #[.int .i64 0, .int .i64 0, .int .i64 0], .agg #[.int .i64 0, .bool false, .slice none 0 0]].toList 8 = some ([.agg [.lit (.int .i64 0), .lit (.int .i64 0), .lit (.int .i64 0)], .agg [.lit (.int .i64 0), .lit (.bool false), .nil]], [], places) :=
  ⟨[], by kernel_rfl⟩

set_option maxRecDepth 100000 in
theorem lifted (os : Os) (started : os.Started) (H : Type) (enc : TypeId × Value → H) (F : Stop.Interp) :
    ReturnsInHanded {} Try.checked os 4 .any ((OpenSpec.ofChange Rows.addrHoldsSpec).preRow enc Try.prog Try.f4 Rows.addrHoldsRow.domain false Rows.addrHoldsRow.laid) (((OpenSpec.ofChange Rows.addrHoldsSpec).at F).post enc Try.prog Try.f4 false true false false) := by
  obtain ⟨places, hx⟩ := reads os enc
  refine returnsInHanded_of_row (C := Try.checked) (s := (OpenSpec.ofChange Rows.addrHoldsSpec)) own started (by kernel_rfl) Try.func4
    (witness_row_at (enc := enc) (C := Try.checked) false (World.doorLaid Try.prog 4000 os) #[.agg #[.int .i64 0, .int .i64 0, .int .i64 0], .agg #[.int .i64 0, .bool false, .slice none 0 0]] rfl (by kernel_rfl) (by kernel_rfl) (by kernel_rfl)
      (OpenSpec.preRow_of_cond 8 hx (by kernel_rfl) (fun k hk => by cases hk) (by kernel_rfl) (laid_met os))) ?_
  intro W base args ds gs before hval hW _ _ _ _ _ _
  exact contract H enc W base args ds gs before hval hW

theorem said : Rows.AddrHoldsSaid :=
  OpenClaim.holds_of_cond 4 Try.f4 rfl rfl rfl rfl rfl rfl rfl ⟨rfl, rfl, rfl, rfl, rfl⟩ rfl rfl rfl rfl rfl (by kernel_rfl) Try.func4 (by kernel_rfl)
    (of_decide_eq_true (by kernel_rfl)) (by unfold Func.isWrapper; first | (rw [if_pos (by decide +kernel)]; kernel_rfl) | (rw [if_neg (by decide +kernel)]; exact ⟨rfl, rfl⟩))
    (fun os started H enc _ F => by rw [OpenClaim.pre_eq_preRow]; exact lifted os started H enc F)

end Go.Proofs.Ytailhicemogphaa.Holds15
