/- DigitKinds: the kinds of bytes go together as the document's words say. For every byte. -/
import Derived.Test.YtcflagjannphoaaDoorFrame
import Derived.Test.YtcflagjannphoaaDoorCards
import Derived.Test.YtcflagjannphoaaDoorTie
import Derived.Test.YtcflagjannphoaaDoorDigE
import Derived.Test.YtcflagjannphoaaDoorKindsA
import Derived.Test.YtcflagjannphoaaDoorKindsB
import Derived.Test.YtcflagjannphoaaDoorKindsC
import Derived.Test.YtcflagjannphoaaDoorKindsD
import Derived.Deep.RegionWith
namespace Go.Proofs.YtcflagjannphoaaDoor.digitKinds
open Go.ChangeShapes Go.WideShapes Go.ChangeAt Go.RowKit
open Go.ChangeMaps (open_string shut_string)

theorem core (W : World) (c : Int) (hc : (Lit.int .u8 c).wf = true) (ht : Tab W) (hg : 0 < W.heap.size) :
    Calls Tryd.prog 7 #[.int .u8 c] W fun e w' => e = .returned (.bool true) ∧ Below W.heap.size W w' := by
  have HA := Lib.hid (awake_any W ht hg)
  have hb := bounds_u8 hc
  have hr : (0 ≤ c ∧ c ≤ 8) ∨ (9 ≤ c ∧ c ≤ 9) ∨ (10 ≤ c ∧ c ≤ 13) ∨ (14 ≤ c ∧ c ≤ 31) ∨ (32 ≤ c ∧ c ≤ 32) ∨ (33 ≤ c ∧ c ≤ 47) ∨ (48 ≤ c ∧ c ≤ 57) ∨ (58 ≤ c ∧ c ≤ 64) ∨ (65 ≤ c ∧ c ≤ 70) ∨ (71 ≤ c ∧ c ≤ 90) ∨ (91 ≤ c ∧ c ≤ 96) ∨ (97 ≤ c ∧ c ≤ 102) ∨ (103 ≤ c ∧ c ≤ 122) ∨ (123 ≤ c ∧ c ≤ 126) ∨ (127 ≤ c ∧ c ≤ 127) ∨ (128 ≤ c ∧ c ≤ 255) := by omega
  rcases hr with h | h | h | h | h | h | h | h | h | h | h | h | h | h | h | h
  · refine kinds_0 c W HA ?_ ?_ ?_ ?_ ?_ ?_ ?_ ?_ ?_ ?_ ?_ ?_ <;> refine isAt_of ?_ <;> simp [clsOf, cUpper, cLower, cDigit, cAlpha, cAlnum, cBlank, cGraph, isW] <;> omega
  · refine kinds_1 c W HA ?_ ?_ ?_ ?_ ?_ ?_ ?_ ?_ ?_ ?_ ?_ ?_ <;> refine isAt_of ?_ <;> simp [clsOf, cUpper, cLower, cDigit, cAlpha, cAlnum, cBlank, cGraph, isW] <;> omega
  · refine kinds_2 c W HA ?_ ?_ ?_ ?_ ?_ ?_ ?_ ?_ ?_ ?_ ?_ ?_ <;> refine isAt_of ?_ <;> simp [clsOf, cUpper, cLower, cDigit, cAlpha, cAlnum, cBlank, cGraph, isW] <;> omega
  · refine kinds_0 c W HA ?_ ?_ ?_ ?_ ?_ ?_ ?_ ?_ ?_ ?_ ?_ ?_ <;> refine isAt_of ?_ <;> simp [clsOf, cUpper, cLower, cDigit, cAlpha, cAlnum, cBlank, cGraph, isW] <;> omega
  · refine kinds_3 c W HA ?_ ?_ ?_ ?_ ?_ ?_ ?_ ?_ ?_ ?_ ?_ ?_ <;> refine isAt_of ?_ <;> simp [clsOf, cUpper, cLower, cDigit, cAlpha, cAlnum, cBlank, cGraph, isW] <;> omega
  · refine kinds_4 c W HA ?_ ?_ ?_ ?_ ?_ ?_ ?_ ?_ ?_ ?_ ?_ ?_ <;> refine isAt_of ?_ <;> simp [clsOf, cUpper, cLower, cDigit, cAlpha, cAlnum, cBlank, cGraph, isW] <;> omega
  · refine kinds_5 c W HA ?_ ?_ ?_ ?_ ?_ ?_ ?_ ?_ ?_ ?_ ?_ ?_ <;> refine isAt_of ?_ <;> simp [clsOf, cUpper, cLower, cDigit, cAlpha, cAlnum, cBlank, cGraph, isW] <;> omega
  · refine kinds_4 c W HA ?_ ?_ ?_ ?_ ?_ ?_ ?_ ?_ ?_ ?_ ?_ ?_ <;> refine isAt_of ?_ <;> simp [clsOf, cUpper, cLower, cDigit, cAlpha, cAlnum, cBlank, cGraph, isW] <;> omega
  · refine kinds_6 c W HA ?_ ?_ ?_ ?_ ?_ ?_ ?_ ?_ ?_ ?_ ?_ ?_ <;> refine isAt_of ?_ <;> simp [clsOf, cUpper, cLower, cDigit, cAlpha, cAlnum, cBlank, cGraph, isW] <;> omega
  · refine kinds_7 c W HA ?_ ?_ ?_ ?_ ?_ ?_ ?_ ?_ ?_ ?_ ?_ ?_ <;> refine isAt_of ?_ <;> simp [clsOf, cUpper, cLower, cDigit, cAlpha, cAlnum, cBlank, cGraph, isW] <;> omega
  · refine kinds_4 c W HA ?_ ?_ ?_ ?_ ?_ ?_ ?_ ?_ ?_ ?_ ?_ ?_ <;> refine isAt_of ?_ <;> simp [clsOf, cUpper, cLower, cDigit, cAlpha, cAlnum, cBlank, cGraph, isW] <;> omega
  · refine kinds_8 c W HA ?_ ?_ ?_ ?_ ?_ ?_ ?_ ?_ ?_ ?_ ?_ ?_ <;> refine isAt_of ?_ <;> simp [clsOf, cUpper, cLower, cDigit, cAlpha, cAlnum, cBlank, cGraph, isW] <;> omega
  · refine kinds_9 c W HA ?_ ?_ ?_ ?_ ?_ ?_ ?_ ?_ ?_ ?_ ?_ ?_ <;> refine isAt_of ?_ <;> simp [clsOf, cUpper, cLower, cDigit, cAlpha, cAlnum, cBlank, cGraph, isW] <;> omega
  · refine kinds_4 c W HA ?_ ?_ ?_ ?_ ?_ ?_ ?_ ?_ ?_ ?_ ?_ ?_ <;> refine isAt_of ?_ <;> simp [clsOf, cUpper, cLower, cDigit, cAlpha, cAlnum, cBlank, cGraph, isW] <;> omega
  · refine kinds_0 c W HA ?_ ?_ ?_ ?_ ?_ ?_ ?_ ?_ ?_ ?_ ?_ ?_ <;> refine isAt_of ?_ <;> simp [clsOf, cUpper, cLower, cDigit, cAlpha, cAlnum, cBlank, cGraph, isW] <;> omega
  · refine kinds_10 c W HA ?_ ?_ ?_ ?_ ?_ ?_ ?_ ?_ ?_ ?_ ?_ ?_ <;> refine isAt_of ?_ <;> simp [clsOf, cUpper, cLower, cDigit, cAlpha, cAlnum, cBlank, cGraph, isW] <;> omega

theorem tab_of {W : World} (h : laidMetH Tryd.prog Rows.digitKindsRow.laid W) : Tab W ∧ 0 < W.heap.size := by
  rw [MakeChecks.laidMetH_plain _ _ _ (by kernel_rfl)] at h
  have h3 := h.tail.tail
  have ht : Tab W := Lib.tabIs_of_head (rest := []) gPow0 (by kernel_rfl) Tryd.underlying68 Tryd.underlying58 (by kernel_rfl) (by kernel_rfl) h3
  exact ⟨ht, World.block_lt_of_cell? _ _ (ht.cell gPow0 0 (by decide))⟩

theorem contract (H : Type) (enc : TypeId × Value → H) (W : World) (base : Nat) (args : Array Value) (ds gs : List (DataW H)) (before : List MemPlace)
    (hval : ∀ (j : Nat) t v, Tryd.f7.params[j]? = some t → args[j]? = some v → Value.okWide Tryd.prog W .any base t v)
    (hW : DataW.Whole enc Tryd.prog Tryd.f7.params.toList Rows.digitKindsSpec.vars false W args.toList ds gs before) (hL : laidMetH Tryd.prog Rows.digitKindsRow.laid W) :
    Calls Tryd.prog 7 args W fun e W' => ∃ v, e = .returned v ∧ Rows.digitKindsSpec.post enc Tryd.prog Tryd.f7 false true false false W args v W' := by
  have hW' := hW
  obtain ⟨p, q, hA, hV, rfl, hfz, hnd⟩ := hW
  rw [Tryd.params7] at hA hval
  obtain ⟨v0, vs0, d0, ds0, p0, q0, hargs, rfl, rfl, h0, r0⟩ := trodAll_cons hA
  obtain ⟨rfl, rfl, rfl⟩ := trodAll_nil r0
  obtain rfl : args = #[v0] := by cases args; simp_all
  obtain ⟨rfl, rfl⟩ := trodVars_none hV
  obtain ⟨a0, rfl, rfl, rfl, w0⟩ := open_int Tryd.underlying5 (hval 0 5 v0 rfl rfl) h0
  obtain ⟨ht, hg⟩ := tab_of hL
  exact (core W a0 w0 ht hg).mono fun e W' ⟨he, hb⟩ => ⟨_, he, law_post hW' rfl (by kernel_rfl) (by kernel_rfl) rfl hb⟩

theorem laid_met (os : Os) : laidMetH Tryd.prog Rows.digitKindsRow.laid ((World.doorLaid Tryd.prog 4000 os).forCall (fun _ _ => 0) ⟨#[], #[.int .u8 0], []⟩).memory :=
  laidMetH_of_parts3 (fuel := 8) (laidMet_of_run' 8 (by kernel_rfl) (by kernel_rfl)) (by kernel_rfl) (by kernel_rfl)
theorem reads (os : Os) {H : Type} (enc : TypeId × Value → H) : ∃ places, DataW.whole enc Tryd.prog ((World.doorLaid Tryd.prog 4000 os).forCall (fun _ _ => 0) ⟨#[], #[.int .u8 0], []⟩).memory Tryd.f7.params.toList Rows.digitKindsSpec.vars false #[Value.int .u8 0].toList 8 = some ([.lit (.int .u8 0)], [], places) :=
  ⟨[], by kernel_rfl⟩

set_option maxRecDepth 100000 in
theorem lifted (os : Os) (started : os.Started) (H : Type) (enc : TypeId × Value → H) (F : Stop.Interp) :
    ReturnsInHanded {} Tryd.checked os 7 .any ((OpenSpec.ofChange Rows.digitKindsSpec).preRow enc Tryd.prog Tryd.f7 Rows.digitKindsRow.domain false Rows.digitKindsRow.laid) (((OpenSpec.ofChange Rows.digitKindsSpec).at F).post enc Tryd.prog Tryd.f7 false true false false) := by
  obtain ⟨places, hx⟩ := reads os enc
  refine returnsInHanded_of_row (C := Tryd.checked) (s := (OpenSpec.ofChange Rows.digitKindsSpec)) own started (by kernel_rfl) Tryd.func7
    (witness_row_at (enc := enc) (C := Tryd.checked) false (World.doorLaid Tryd.prog 4000 os) #[.int .u8 0] rfl (by kernel_rfl) (by kernel_rfl) (by kernel_rfl)
      (OpenSpec.preRow_of_cond 8 hx (by kernel_rfl) (fun k hk => by cases hk) (by kernel_rfl) (laid_met os))) ?_
  intro W base args ds gs before hval hW _ _ _ hL _ _
  exact contract H enc W base args ds gs before hval hW hL

theorem said : Rows.DigitKindsSaid :=
  OpenClaim.holds_of_cond 7 Tryd.f7 rfl rfl rfl rfl rfl rfl rfl ⟨rfl, rfl, rfl, rfl, rfl⟩ rfl rfl rfl rfl rfl (by kernel_rfl) Tryd.func7 (by kernel_rfl)
    (of_decide_eq_true (by kernel_rfl)) (by unfold Func.isWrapper; first | (rw [if_pos (by decide +kernel)]; kernel_rfl) | (rw [if_neg (by decide +kernel)]; exact ⟨rfl, rfl⟩))
    (fun os started H enc _ F => by rw [OpenClaim.pre_eq_preRow]; exact lifted os started H enc F)

theorem plain (f : FuncId) (fn : Func) (hf : Tryd.pinned.checked.prog.funcNamed "palinode/palinodelaw01.DigitKinds" = some f) (hfn : Tryd.pinned.checked.prog.funcs[f]? = some fn) :
    false = Tryd.pinned.checked.prog.looks [] ∧ ∀ (j : Nat) t, fn.params[j]? = some t → Tryd.pinned.checked.prog.wantsStandIn t = false := by
  obtain rfl : f = 7 := Option.some.inj ((show Tryd.prog.funcNamed "palinode/palinodelaw01.DigitKinds" = some 7 by kernel_rfl).symm.trans hf) |>.symm
  obtain rfl : fn = Tryd.f7 := (Option.some.inj (Tryd.func7.symm.trans hfn)).symm
  refine ⟨by kernel_rfl, fun j t ht => ?_⟩
  rw [Tryd.params7] at ht
  have hm : t ∈ [5] := by simpa using Array.mem_of_getElem? ht
  have hall : ([5].all fun u => !Tryd.prog.wantsStandIn u) = true := by kernel_rfl
  exact (show Tryd.prog.wantsStandIn t = false by simpa using List.all_eq_true.1 hall t hm)

theorem card : Rows.DigitKindsCardSaid :=
  Claim7.holds_tied_plain_at .later [] _ _ _ _ said (fun _ h => by cases h) (by kernel_rfl) (fun _ h => by cases h) digitKinds_row_tie rfl ⟨rfl, rfl⟩ (by kernel_rfl) rfl plain (by kernel_rfl)

end Go.Proofs.YtcflagjannphoaaDoor.digitKinds
