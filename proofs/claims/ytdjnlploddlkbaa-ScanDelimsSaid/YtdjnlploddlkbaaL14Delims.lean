/- ScanDelims answers true of every byte, and it reads afterwards as it read before. Conditions: none. -/
import Derived.Test.YtdjnlploddlkbaaFrame
import Derived.Test.YtdjnlploddlkbaaScnK
import Derived.Test.YtdjnlploddlkbaaScnD
set_option linter.unusedVariables false
set_option linter.unusedSimpArgs false
set_option maxRecDepth 100000
namespace Go.Proofs.Ytdjnlploddlkbaa.Delims14
open Go.ChangeShapes Go.WideShapes Go.ChangeAt Go.RowKit

theorem unt_three {d : UInt8} (hd : dlm d = true) : untS d [97, d, 98] = some 1 := by
  have h97 : anyOf [d, 10] 97 = false := by
    rw [anyOf_at]
    cases h : decide (0 ≤ Lib.indexByte [d, 10] 97) with
    | false => rfl
    | true =>
      rw [← anyOf_at] at h
      unfold anyOf at h
      rw [List.contains_eq_mem, decide_eq_true_iff] at h
      simp only [List.mem_cons, List.not_mem_nil, or_false] at h
      rcases h with h | h
      · exact absurd h.symm (dlm_no97 hd)
      · exact absurd h (by decide)
  have hdd : anyOf [d, 10] d = true := by unfold anyOf; simp
  have : plS (anyOf [d, 10]) [97, d, 98] = 1 := by
    rw [plS_go h97 (by decide), plS_stop hdd]
  exact untS_some this rfl
theorem open_three (d : UInt8) (w : World) : Calls Try.prog 7 #[.slice (some ⟨w.heap.size, 0, none⟩) 3 3] (w.alloc (.cells #[.int .u8 97, .int .u8 (d.toNat : Int), .int .u8 98] 5)) fun e w' =>
    (∃ C v, e = .returned (.pointer (some ⟨C, 0, none⟩)) ∧ Cur w' w.heap.size C v [97, d, 98] 0) ∧ Below w.heap.size w w' := by
  have hb := (Below.refl w.heap.size w).alloc (Nat.le_refl _) (.cells #[.int .u8 97, .int .u8 (d.toNat : Int), .int .u8 98] 5)
  refine (open_any (A := some ⟨w.heap.size, 0, none⟩) (n := 3) (c := 3) (l := [97, d, 98]) (B := w.heap.size + 1) rfl (byt_new w [97, d, 98] 5 (0, 0)) (by rw [sizeA']; exact Nat.le_refl _) (by simp)).mono ?_
  rintro e w' ⟨⟨C, v, rfl, h1, h2⟩, h3⟩
  exact ⟨⟨C, v, rfl, h2.lower (by rw [sizeA']; exact Nat.le_succ _)⟩, hb.trans (h3.mono (by rw [sizeA']; exact Nat.le_succ _))⟩
set_option maxHeartbeats 8000000 in
theorem core (W : World) (z : Int) (hz : (Lit.int .u8 z).wf = true) :
    Calls Try.prog 3 #[.int .u8 z] W fun e W' => e = .returned (.bool true) ∧ Below W.heap.size W W' := by
  obtain ⟨d, rfl⟩ := byte_arg hz
  clear hz
  have hW := Lib.hid (fun w => awake14_any w)
  have hO := Lib.hid (open_three d W)
  have hR := Lib.hid (fun w => rIsDelim_any d w)
  have hD := Lib.hid (fun w => isDelim_any d w)
  cases hd : dlm d with
  | true =>
    rw [hd] at hR hD
    have hU := Lib.hid (fun w C v (h : Cur w W.heap.size C v [97, d, 98] 0) => until_yes h d hd (k := 1) (t := [97]) (unt_three hd) rfl)
    replace hd := Lib.hid hd
    generalize (d.toNat : Int) = z at *
    go_enter Try.func3, Try.ntmps3
    go_upto_region 2 with (go_at_call 7; refine (hO.out).mono ?_; rintro e w1 ⟨⟨C, v, rfl, hc1⟩, hb1⟩)
    have hU1 := Lib.hid (hU.out w1 C v hc1)
    have hb1h := Lib.hid hb1
    have hc1h := Lib.hid hc1
    clear hO hU hb1 hc1
    go_upto_region 3 with (go_at_call 8; refine (hU1.out).mono ?_; rintro e w2 ⟨⟨A, c, rfl, ho⟩, hq⟩)
    have hAt := Lib.hid (at_any hq.cur)
    have hb2 := Lib.hid (hb1h.out.trans (hq.below hc1h.out))
    clear hU1 ho hq
    go_wp2_with (first
      | (go_at_call 9; refine (hR.out _).mono ?_; rintro e w3 ⟨rfl, rfl⟩)
      | (go_at_call 10; refine (hD.out _).mono ?_; rintro e w3 ⟨rfl, rfl⟩)
      | (go_at_call 11; refine (hAt.out).mono ?_; rintro e w3 ⟨rfl, rfl⟩)
      | (go_at_call 12; refine (hW.out _).mono ?_; rintro e w3 ⟨rfl, hb3⟩))
    go_ret
    exact ⟨rfl, hb2.out.trans (hb3.mono hb2.out.size)⟩
  | false =>
    rw [hd] at hR hD
    have hU := Lib.hid (fun w C v (h : Cur w W.heap.size C v [97, d, 98] 0) => until_not h d hd)
    replace hd := Lib.hid hd
    generalize (d.toNat : Int) = z at *
    go_enter Try.func3, Try.ntmps3
    go_upto_region 2 with (go_at_call 7; refine (hO.out).mono ?_; rintro e w1 ⟨⟨C, v, rfl, hc1⟩, hb1⟩)
    have hU1 := Lib.hid (hU.out w1 C v hc1)
    have hAt := Lib.hid (at_any hc1)
    have hb1h := Lib.hid hb1
    clear hO hU hb1 hc1
    go_wp2_with (first
      | (go_at_call 8; refine (hU1.out).mono ?_; rintro e w2 ⟨rfl, rfl⟩)
      | (go_at_call 9; refine (hR.out _).mono ?_; rintro e w3 ⟨rfl, rfl⟩)
      | (go_at_call 10; refine (hD.out _).mono ?_; rintro e w3 ⟨rfl, rfl⟩)
      | (go_at_call 11; refine (hAt.out).mono ?_; rintro e w3 ⟨rfl, rfl⟩)
      | (go_at_call 12; refine (hW.out _).mono ?_; rintro e w3 ⟨rfl, hb3⟩))
    go_ret
    exact ⟨rfl, hb1h.out.trans (hb3.mono hb1h.out.size)⟩
theorem contract (H : Type) (enc : TypeId × Value → H) (W : World) (base : Nat) (args : Array Value) (ds gs : List (DataW H)) (before : List MemPlace)
    (hval : ∀ (j : Nat) t v, Try.f3.params[j]? = some t → args[j]? = some v → Value.okWide Try.prog W .any base t v)
    (hW : DataW.Whole enc Try.prog Try.f3.params.toList Rows.scanDelimsSpec.vars false W args.toList ds gs before) :
    Calls Try.prog 3 args W fun e W' => ∃ v, e = .returned v ∧ Rows.scanDelimsSpec.post enc Try.prog Try.f3 false true false false W args v W' := by
  have hW' := hW
  obtain ⟨p, q, hA, hV, rfl, hfz, hnd⟩ := hW
  rw [Try.params3] at hA hval
  obtain ⟨v0, vs0, d0, ds0, p0, q0, hargs, rfl, rfl, h0, r0⟩ := trodAll_cons hA
  obtain ⟨rfl, rfl, rfl⟩ := trodAll_nil r0
  obtain rfl : args = #[v0] := by cases args; simp_all
  obtain ⟨rfl, rfl⟩ := trodVars_none hV
  obtain ⟨a0, rfl, rfl, rfl, w0⟩ := open_int Try.underlying5 (hval 0 5 v0 rfl rfl) h0
  exact (core W a0 w0).mono fun e W' ⟨he, hb⟩ => ⟨_, he, law_post hW' rfl (by kernel_rfl) (by kernel_rfl) rfl hb⟩

theorem laid_met (os : Os) : laidMetH Try.prog Rows.scanDelimsRow.laid ((World.doorLaid Try.prog 4000 os).forCall (fun _ _ => 0) ⟨#[], #[.int .u8 0], []⟩).memory :=
  laidMetH_of_parts3 (fuel := 8) (laidMet_of_run' 8 (by kernel_rfl) (by kernel_rfl)) (by kernel_rfl) (by kernel_rfl)
theorem reads (os : Os) {H : Type} (enc : TypeId × Value → H) : ∃ places, DataW.whole enc Try.prog ((World.doorLaid Try.prog 4000 os).forCall (fun _ _ => 0) ⟨#[], #[.int .u8 0], []⟩).memory Try.f3.params.toList Rows.scanDelimsSpec.vars false #[Value.int .u8 0].toList 8 = some ([.lit (.int .u8 0)], [], places) :=
  ⟨[], by kernel_rfl⟩

set_option maxRecDepth 100000 in
theorem lifted (os : Os) (started : os.Started) (H : Type) (enc : TypeId × Value → H) (F : Stop.Interp) :
    ReturnsInHanded {} Try.checked os 3 .any ((OpenSpec.ofChange Rows.scanDelimsSpec).preRow enc Try.prog Try.f3 Rows.scanDelimsRow.domain false Rows.scanDelimsRow.laid) (((OpenSpec.ofChange Rows.scanDelimsSpec).at F).post enc Try.prog Try.f3 false true false false) := by
  obtain ⟨places, hx⟩ := reads os enc
  refine returnsInHanded_of_row (C := Try.checked) (s := (OpenSpec.ofChange Rows.scanDelimsSpec)) own started (by kernel_rfl) Try.func3
    (witness_row_at (enc := enc) (C := Try.checked) false (World.doorLaid Try.prog 4000 os) #[.int .u8 0] rfl (by kernel_rfl) (by kernel_rfl) (by kernel_rfl)
      (OpenSpec.preRow_of_cond 8 hx (by kernel_rfl) (fun k hk => by cases hk) (by kernel_rfl) (laid_met os))) ?_
  intro W base args ds gs before hval hW _ _ _ _ _ _
  exact contract H enc W base args ds gs before hval hW

theorem said : Rows.ScanDelimsSaid :=
  OpenClaim.holds_of_cond 3 Try.f3 rfl rfl rfl rfl rfl rfl rfl ⟨rfl, rfl, rfl, rfl, rfl⟩ rfl rfl rfl rfl rfl (by kernel_rfl) Try.func3 (by kernel_rfl)
    (of_decide_eq_true (by kernel_rfl)) (by unfold Func.isWrapper; first | (rw [if_pos (by decide +kernel)]; kernel_rfl) | (rw [if_neg (by decide +kernel)]; exact ⟨rfl, rfl⟩))
    (fun os started H enc _ F => by rw [OpenClaim.pre_eq_preRow]; exact lifted os started H enc F)

end Go.Proofs.Ytdjnlploddlkbaa.Delims14
