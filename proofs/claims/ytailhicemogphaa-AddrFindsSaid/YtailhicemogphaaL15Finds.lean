/- AddrFinds answers true at every two rows of bools, and they read afterwards as they read before. Conditions: none. -/
import Derived.Test.YtailhicemogphaaFrame
import Derived.Test.YtailhicemogphaaAdrF
import Derived.Test.YtailhicemogphaaAdrO
import Derived.Deep.RegionWith
set_option linter.unusedVariables false
set_option linter.unusedSimpArgs false
set_option maxRecDepth 100000
namespace Go.Proofs.Ytailhicemogphaa.Finds15
open Go.ChangeShapes Go.WideShapes Go.ChangeAt Go.RowKit

def RelF (W : World) (n : Nat) (on ins i : Value) (wr : World) : Prop :=
  ∃ (j : Nat) (y : Bool), i = .int .i64 (j : Int) ∧ j ≤ n ∧ on = .bool y ∧ ins = .bool y ∧ Held wr W.heap.size 23 #[.int .i64 3, .int .i64 0, .int .i64 0] ∧ Held wr (W.heap.size + 1) 23 #[.int .i64 3, .int .i64 0, .int .i64 1] ∧ Below W.heap.size W wr
theorem RelF.mk {W : World} {n : Nat} {on ins i : Value} {wr : World} (h : ∃ (j : Nat) (y : Bool), i = .int .i64 (j : Int) ∧ j ≤ n ∧ on = .bool y ∧ ins = .bool y ∧ Held wr W.heap.size 23 #[.int .i64 3, .int .i64 0, .int .i64 0] ∧ Held wr (W.heap.size + 1) 23 #[.int .i64 3, .int .i64 0, .int .i64 1] ∧ Below W.heap.size W wr) : RelF W n on ins i wr := h
theorem stepB {w w1 w2 : World} (h : Below w.heap.size w w1) (hq : Below w1.heap.size w1 w2) : Below w.heap.size w w2 := h.trans (hq.mono h.size)
set_option maxHeartbeats 8000000 in
theorem core (W : World) (A : Option Addr) (n c : Nat) (l : List Bool) (hn : n = l.length) (hc : n ≤ c) (hm : c ≤ maxLen) (hv : Vals W W.heap.size A (l.map Value.bool))
    (A' : Option Addr) (n' c' : Nat) (l' : List Bool) (hn' : n' = l'.length) (hc' : n' ≤ c') (hm' : c' ≤ maxLen) (hv' : Vals W W.heap.size A' (l'.map Value.bool)) :
    Calls Try.prog 6 #[.slice A n c, .slice A' n' c'] W fun e W' => e = .returned (.bool true) ∧ Below W.heap.size W W' := by
  have hW := Lib.hid (fun w => awake15_any w)
  by_cases hbad : 60 < n ∨ n' ≠ n
  · have hb3 := Lib.hid (Below.refl W.heap.size W)
    clear hn hn'
    by_cases h60 : 60 < n
    · have e60 : decide (60 < (n : Int)) = true := decide_eq_true (by omega)
      have e60' : (60 : Int) < (n : Int) := by omega
      clear hbad h60
      go_enter Try.func6, Try.ntmps6
      go_wp2_with (first | (go_at_call 10; refine (hW.out _).mono ?_; rintro e w2 ⟨rfl, hq⟩; have hk2 := Lib.hid (stepB hb3.out hq); clear hq) | fail)
      go_ret
      exact ⟨rfl, hk2.out⟩
    · have e60 : decide (60 < (n : Int)) = false := decide_eq_false (by omega)
      have e60' : ¬ (60 : Int) < (n : Int) := by omega
      have ene : ((n' : Int) != (n : Int)) = true := by rw [bne_iff_ne]; omega
      have ene' : ((n' : Int) == (n : Int)) = false := by rw [beq_eq_false_iff_ne]; omega
      clear hbad h60
      go_enter Try.func6, Try.ntmps6
      go_wp2_with (first | (go_at_call 10; refine (hW.out _).mono ?_; rintro e w2 ⟨rfl, hq⟩; have hk2 := Lib.hid (stepB hb3.out hq); clear hq) | fail)
      go_ret
      exact ⟨rfl, hk2.out⟩
  · obtain rfl : n' = n := by omega
    have h60 : (n' : Int) ≤ 60 := by omega
    have hA := Lib.hid ((held_new W 23 #[.int .i64 3, .int .i64 0, .int .i64 0]).alloc (.cells #[.int .i64 3, .int .i64 0, .int .i64 1] 23))
    have hB := Lib.hid (held_new2 W (.cells #[.int .i64 3, .int .i64 0, .int .i64 0] 23) 23 #[.int .i64 3, .int .i64 0, .int .i64 1])
    have hb := Lib.hid (((Below.refl W.heap.size W).alloc (Nat.le_refl _) (.cells #[.int .i64 3, .int .i64 0, .int .i64 0] 23)).alloc (by rw [sizeA']; exact Nat.le_succ _) (.cells #[.int .i64 3, .int .i64 0, .int .i64 1] 23))
    have hnh := Lib.hid hn
    have hnh' := Lib.hid hn'
    have hvh := Lib.hid hv
    have hvh' := Lib.hid hv'
    clear hbad hn hn' hc hm hc' hm' hv hv'
    go_enter Try.func6, Try.ntmps6
    go_upto_region 4 with fail
    generalize (W.alloc (.cells #[.int .i64 3, .int .i64 0, .int .i64 0] 23)).alloc (.cells #[.int .i64 3, .int .i64 0, .int .i64 1] 23) = w1 at *
    go_wp2
    go_loopw [7, 8, 9] (fun on ins i wr => RelF W n' on ins i wr) (fun _ _ i _ => n' + 1 - (intOf i).toNat)
    case atStart => exact RelF.mk ⟨0, false, rfl, by omega, rfl, rfl, hA.out, hB.out, hb.out⟩
    case round =>
      clear hA hB hb
      obtain ⟨i, y, rfl, hin, rfl, rfl, hA, hB, hb⟩ := hrel
      obtain ⟨c1, c2, c3⟩ := ad_cells hA
      obtain ⟨d1, d2, d3⟩ := ad_cells hB
      have hAh := Lib.hid hA
      have hBh := Lib.hid hB
      have hbh := Lib.hid hb
      clear hA hB hb
      have hinh := Lib.hid hin
      clear hin
      by_cases hlt : i < n'
      · have hin' : (i : Int) < (n' : Int) := by omega
        have hi0 : 0 ≤ (i : Int) := by omega
        obtain ⟨ad, rfl, hlt1, hcell⟩ := (hvh.out.below hbh.out).bool (show i < l.length by rw [← hnh.out]; exact hlt)
        obtain ⟨ad', rfl, hlt1', hcell'⟩ := (hvh'.out.below hbh.out).bool (show i < l'.length by rw [← hnh'.out]; exact hlt)
        generalize l.getD i false = a at *
        generalize l'.getD i false = b at *
        have hlth := Lib.hid hlt
        have hAs := Lib.hid (show W.heap.size + 1 < wr.heap.size from hBh.out.lt)
        clear hlt
        go_upto_region 8 with fail
        have hKs := held_new (wr.alloc (.cells #[.bool a, .bool b] 4)) 31 (askC ((i : Int) + 1) false (some ⟨wr.heap.size, 0, none⟩) 2 2 0 0)
        have hSl := (held_new wr 4 #[.bool a, .bool b]).alloc (.cells (askC ((i : Int) + 1) false (some ⟨wr.heap.size, 0, none⟩) 2 2 0 0) 31)
        have hA1 := (hAh.out.alloc (.cells #[.bool a, .bool b] 4)).alloc (.cells (askC ((i : Int) + 1) false (some ⟨wr.heap.size, 0, none⟩) 2 2 0 0) 31)
        have hB1 := (hBh.out.alloc (.cells #[.bool a, .bool b] 4)).alloc (.cells (askC ((i : Int) + 1) false (some ⟨wr.heap.size, 0, none⟩) 2 2 0 0) 31)
        have hb1 := (hbh.out.alloc hbh.out.size (.cells #[.bool a, .bool b] 4)).alloc (by rw [sizeA']; exact Nat.le_succ_of_le hbh.out.size) (.cells (askC ((i : Int) + 1) false (some ⟨wr.heap.size, 0, none⟩) 2 2 0 0) 31)
        have hWs := hbh.out.size
        rw [sizeA'] at hKs
        unfold askC at hKs hSl hA1 hB1 hb1
        replace hKs := hKs.drew
        replace hSl := hSl.drew
        replace hA1 := hA1.drew
        replace hB1 := hB1.drew
        replace hb1 := hb1.drew
        have hWsh := Lib.hid hWs
        clear hWs
        go_region
        generalize ((wr.alloc (.cells #[.bool a, .bool b] 4)).alloc (.cells #[.int .i64 ((i : Int) + 1), .bool false, .slice (some ⟨wr.heap.size, 0, none⟩) 2 2, .int .i64 0, .int .i64 0] 31)).drew = w2 at *
        have hvals : Vals w2 (wr.heap.size + 1) (some ⟨wr.heap.size, 0, none⟩) [.bool a, .bool b] := by
          intro j hj
          have hj2 : j < 2 := hj
          refine ⟨_, rfl, Nat.lt_succ_self _, ?_⟩
          rcases (show j = 0 ∨ j = 1 by omega) with rfl | rfl
          · exact hSl.at_ (i := 0) rfl
          · exact hSl.at_ (i := 1) rfl
        have hlk := Lib.hid (fun (w3 : World) (h : Held w3 (wr.heap.size + 1) 31 #[.int .i64 ((i : Int) + 1), .bool false, .slice (some ⟨wr.heap.size, 0, none⟩) 2 2, .int .i64 0, .int .i64 0]) => look_any (w := w3) (K := wr.heap.size + 1) (line := (i : Int) + 1) (last := false) (A := some ⟨wr.heap.size, 0, none⟩) (n := 2) (c := 2) (k := 0) (m := 0) h)
        have hse := Lib.hid (fun (w3 : World) (h : Held w3 (wr.heap.size + 1) 31 #[.int .i64 ((i : Int) + 1), .bool false, .slice (some ⟨wr.heap.size, 0, none⟩) 2 2, .int .i64 0, .int .i64 0]) (hb : Below w2.heap.size w2 w3) =>
          select_33 (K := wr.heap.size + 1) (B := wr.heap.size + 1) (k := 0) (m := 0) (a := a) (b := b) y h rfl (Nat.le_refl 2) (by decide) (hvals.below (hb.mono (Nat.le_of_lt hKs.lt))) (Nat.le_refl _) (by decide))
        obtain ⟨S, hS⟩ : ∃ S, Hid ((y || a) = S) := ⟨_, Lib.hid rfl⟩
        obtain ⟨N, hN⟩ : ∃ N, Hid ((if y = true then !b else a) = N) := ⟨_, Lib.hid rfl⟩
        rw [hS.out, hN.out] at hse
        unfold adV lookV at *
        dsimp only at hse hlk
        have hKh := Lib.hid hKs
        have hA2 := Lib.hid hA1
        have hB2 := Lib.hid hB1
        have hb2 := Lib.hid hb1
        have hw2s := Lib.hid (show wr.heap.size + 1 < w2.heap.size from hKs.lt)
        clear hKs hSl hA1 hB1 hb1 hvals c1 c2 c3 d1 d2 d3
        obtain ⟨c1, c2, c3⟩ := ad_cells hA2.out
        obtain ⟨d1, d2, d3⟩ := ad_cells hB2.out
        have hcA := Lib.hid (hAh.out)
        have hv1 := Lib.hid (fun (w' : World) (h : Below W.heap.size W w') => show w'.cell? (ad.add i) = some (.bool a) ∧ w'.cell? (ad'.add i) = some (.bool b) from ⟨by rw [← hcell]; exact (h.cell (by rw [block_add]; exact hlt1)).trans (hbh.out.cell (by rw [block_add]; exact hlt1)).symm, by rw [← hcell']; exact (h.cell (by rw [block_add]; exact hlt1')).trans (hbh.out.cell (by rw [block_add]; exact hlt1')).symm⟩)
        clear hcell hcell' hcA hAh hBh
        go_upto_region 9 with fail
        have hRl := Lib.hid (fun (w4 : World) hA4 hB4 hk4 => show RelF W n' (.bool N) (.bool N) (.int .i64 ((i + 1 : Nat) : Int)) w4 from RelF.mk ⟨i + 1, N, rfl, by have := hlth.out; omega, rfl, rfl, hA4, hB4, hk4⟩)
        go_region_with (first
          | (go_at_call 12; refine (hlk.out _ (by first | exact hKh.out | exact hKh.out.drew)).mono ?_; rintro e w3 ⟨rfl, hq⟩; have hq3 := Lib.hid (show Below w2.heap.size w2 w3 from ⟨hq.os, hq.tape, hq.output, hq.size, hq.block⟩); have hK3 := Lib.hid (show Held w3 _ _ _ by first | exact hKh.out.keep hq | exact hKh.out.drew.keep hq); obtain ⟨e1, e2, e3⟩ := ad_cells (show Held w3 _ _ _ by first | exact hA2.out.keep hq | exact hA2.out.drew.keep hq); obtain ⟨f1, f2, f3⟩ := ad_cells (show Held w3 _ _ _ by first | exact hB2.out.keep hq | exact hB2.out.drew.keep hq); clear hq)
          | (go_at_call 14; refine (hse.out _ (by first | exact hK3.out | exact hK3.out.drew) (by first | exact hq3.out | exact hq3.out.drew)).mono ?_; rintro e w4 ⟨rfl, hq⟩; have hq4 := Lib.hid hq; clear hq))
        all_goals (
          have hg4 := Lib.hid (show w2.grownBy w4 (some (wr.heap.size + 1)) from ⟨hq4.out.os.trans hq3.out.os, hq4.out.tape.trans hq3.out.tape, hq4.out.output.trans hq3.out.output, Nat.le_trans hq3.out.size hq4.out.size, fun k hk hne => (hq4.out.block k (Nat.lt_of_lt_of_le hk hq3.out.size) hne).trans (hq3.out.block k hk)⟩)
          have hWs := hWsh.out
          have hk4 := hb2.out.grown hg4.out (Nat.le_trans hWs (Nat.le_of_lt (Nat.lt_of_succ_lt hw2s.out))) (fun k e => by have := Option.some.inj e; omega)
          have hA4 := Lib.hid (hA2.out.grown hg4.out (fun e => by have := Option.some.inj e; have := hAs.out; omega))
          have hB4 := Lib.hid (hB2.out.grown hg4.out (fun e => by have := Option.some.inj e; have := hAs.out; omega))
          have hv4 := hv1.out w4 hk4
          obtain ⟨g1, g2⟩ := hv4
          have hend := Lib.hid (hRl.out w4 hA4.out hB4.out hk4)
          clear hk4 hWs hRl hv1 hse hlk c1 c2 c3 d1 d2 d3 hA2 hB2 hb2 hKh hg4 hq3 hq4 hK3
          cases y
          · obtain rfl : a = S := hS.out
            obtain rfl : a = N := hN.out
            clear hS hN
            go_wp2_with (first | go_region | fail)
            go_roundw
            case rel => exact hend.out
            case measure => simp [intOf]; have := hlth.out; omega
          · obtain rfl : true = S := hS.out
            obtain rfl : (!b) = N := hN.out
            clear hS hN
            go_wp2_with (first | go_region | fail)
            go_roundw
            case rel => exact hend.out
            case measure => simp [intOf]; have := hlth.out; omega)
      · have hin' : ¬ (i : Int) < (n' : Int) := by omega
        clear hlt
        go_wp2_with (first | (go_at_call 10; refine (hW.out _).mono ?_; rintro e w3 ⟨rfl, hb3⟩) | fail)
        go_ret
        exact ⟨rfl, stepB hbh.out hb3⟩
theorem contract (H : Type) (enc : TypeId × Value → H) (W : World) (base : Nat) (args : Array Value) (ds gs : List (DataW H)) (before : List MemPlace)
    (hval : ∀ (j : Nat) t v, Try.f6.params[j]? = some t → args[j]? = some v → Value.okWide Try.prog W .any base t v)
    (hW : DataW.Whole enc Try.prog Try.f6.params.toList Rows.addrFindsSpec.vars false W args.toList ds gs before) :
    Calls Try.prog 6 args W fun e W' => ∃ v, e = .returned v ∧ Rows.addrFindsSpec.post enc Try.prog Try.f6 false true false false W args v W' := by
  have hW' := hW
  obtain ⟨p, q, hA, hV, rfl, hfz, hnd⟩ := hW
  rw [Try.params6] at hA hval
  obtain ⟨v0, vs0, d0, ds0, p0, q0, hargs, rfl, rfl, h0, r0⟩ := trodAll_cons hA
  obtain ⟨v1, vs1, d1, ds1, p1, q1, rfl, rfl, rfl, h1, r1⟩ := trodAll_cons r0
  obtain ⟨rfl, rfl, rfl⟩ := trodAll_nil r1
  obtain rfl : args = #[v0, v1] := by cases args; simp_all
  obtain ⟨rfl, rfl⟩ := trodVars_none hV
  obtain ⟨A0, n0, c0, l0, rfl, e0, k0, m0, x0⟩ := open_bools_arg (hval 0 26 v0 rfl rfl) h0
  obtain ⟨A1, n1, c1, l1, rfl, e1, k1, m1, x1⟩ := open_bools_arg (hval 1 26 v1 rfl rfl) h1
  exact (core W A0 n0 c0 l0 e0 k0 m0 x0 A1 n1 c1 l1 e1 k1 m1 x1).mono fun e W' ⟨he, hb⟩ => ⟨_, he, law_post hW' rfl (by kernel_rfl) (by kernel_rfl) rfl hb⟩

theorem laid_met (os : Os) : laidMetH Try.prog Rows.addrFindsRow.laid ((World.doorLaid Try.prog 4000 os).forCall (fun _ _ => 0) ⟨#[], #[.slice none 0 0, .slice none 0 0], []⟩).memory :=
  laidMetH_of_parts3 (fuel := 8) (laidMet_of_run' 8 (by kernel_rfl) (by kernel_rfl)) (by kernel_rfl) (by kernel_rfl)
theorem reads (os : Os) {H : Type} (enc : TypeId × Value → H) : ∃ places, DataW.whole enc Try.prog ((World.doorLaid Try.prog 4000 os).forCall (fun _ _ => 0) ⟨#[], #[.slice none 0 0, .slice none 0 0], []⟩).memory Try.f6.params.toList Rows.addrFindsSpec.vars false #[Value.slice none 0 0, .slice none 0 0].toList 8 = some ([.nil, .nil], [], places) :=
  ⟨[], by kernel_rfl⟩

set_option maxRecDepth 100000 in
theorem lifted (os : Os) (started : os.Started) (H : Type) (enc : TypeId × Value → H) (F : Stop.Interp) :
    ReturnsInHanded {} Try.checked os 6 .any ((OpenSpec.ofChange Rows.addrFindsSpec).preRow enc Try.prog Try.f6 Rows.addrFindsRow.domain false Rows.addrFindsRow.laid) (((OpenSpec.ofChange Rows.addrFindsSpec).at F).post enc Try.prog Try.f6 false true false false) := by
  obtain ⟨places, hx⟩ := reads os enc
  refine returnsInHanded_of_row (C := Try.checked) (s := (OpenSpec.ofChange Rows.addrFindsSpec)) own started (by kernel_rfl) Try.func6
    (witness_row_at (enc := enc) (C := Try.checked) false (World.doorLaid Try.prog 4000 os) #[.slice none 0 0, .slice none 0 0] rfl (by kernel_rfl) (by kernel_rfl) (by kernel_rfl)
      (OpenSpec.preRow_of_cond 8 hx (by kernel_rfl) (fun k hk => by cases hk) (by kernel_rfl) (laid_met os))) ?_
  intro W base args ds gs before hval hW _ _ _ _ _ _
  exact contract H enc W base args ds gs before hval hW

theorem said : Rows.AddrFindsSaid :=
  OpenClaim.holds_of_cond 6 Try.f6 rfl rfl rfl rfl rfl rfl rfl ⟨rfl, rfl, rfl, rfl, rfl⟩ rfl rfl rfl rfl rfl (by kernel_rfl) Try.func6 (by kernel_rfl)
    (of_decide_eq_true (by kernel_rfl)) (by unfold Func.isWrapper; first | (rw [if_pos (by decide +kernel)]; kernel_rfl) | (rw [if_neg (by decide +kernel)]; exact ⟨rfl, rfl⟩))
    (fun os started H enc _ F => by rw [OpenClaim.pre_eq_preRow]; exact lifted os started H enc F)

end Go.Proofs.Ytailhicemogphaa.Finds15
