/- SwapSame answers true at any two lists of parts, and they read afterwards as they read before. Conditions: none. -/
import Derived.Test.YtkfdehkembcaoaaFrame
import Derived.Test.YtkfdehkembcaoaaSwpH
import Derived.Test.YtkfdehkembcaoaaSwpW
import Derived.Test.YtkfdehkembcaoaaSwpO
import Derived.Test.YtkfdehkembcaoaaSwpX
set_option linter.unusedVariables false
set_option linter.unusedSimpArgs false
set_option maxRecDepth 100000
namespace Go.Proofs.Ytkfdehkembcaoaa.Same13
open Go.ChangeShapes Go.WideShapes Go.ChangeAt Go.RowKit

/-- What Same tells, of lists of which it is known whether they are one. -/
theorem SmP.told {w w' : World} {l1 l2 : List Prt} {e : Ending} (s : Bool) (hs : s = true ↔ l1 = l2) (h : SmP w l1 l2 e w') : e = .returned (.bool s) ∧ Below w.heap.size w w' := by
  obtain ⟨⟨b, rfl, hb⟩, h2⟩ := h
  have : b = s := by
    cases b <;> cases s <;> simp_all
  rw [this]
  exact ⟨rfl, h2⟩
set_option maxHeartbeats 8000000 in
theorem core (W : World) (A1 : Option Addr) (n1 c1 : Nat) (l1 : List Prt) (hn1 : n1 = l1.length) (hc1 : n1 ≤ c1) (hm1 : c1 ≤ maxLen) (h1 : Prts W W.heap.size A1 l1)
    (A2 : Option Addr) (n2 c2 : Nat) (l2 : List Prt) (hn2 : n2 = l2.length) (hc2 : n2 ≤ c2) (hm2 : c2 ≤ maxLen) (h2 : Prts W W.heap.size A2 l2) :
    Calls Try.prog 6 #[.slice A1 n1 c1, .slice A2 n2 c2] W fun e W' => e = .returned (.bool true) ∧ Below W.heap.size W W' := by
  have hW := Lib.hid (fun w => awake13_any w)
  have hG1 := Lib.hid (great_any hn1 hc1 hm1 (Nat.le_refl 0) (by simp [maxLen]) h1 (At := none))
  have hG2 := Lib.hid (great_any hn2 hc2 hm2 (Nat.le_refl 0) (by simp [maxLen]) h2 (At := none))
  obtain ⟨s, hs⟩ : ∃ s : Bool, (s = true ↔ l1 = l2) := by
    by_cases h : l1 = l2
    · exact ⟨true, fun _ => h, fun _ => rfl⟩
    · exact ⟨false, fun e => (by cases e), fun e => absurd e h⟩
  have hS := Lib.hid (fun (w' : World) (hb : Below W.heap.size W w') => ((sameP_any hn1 hn2 hc1 hm1 hc2 hm2 hb.size (h1.below hb) (h2.below hb)).mono fun e w'' h => SmP.told s hs h))
  have hT := Lib.hid (fun (w' : World) (hb : Below W.heap.size W w') => ((sameP_any hn1 hn1 hc1 hm1 hc1 hm1 hb.size (h1.below hb) (h1.below hb)).mono fun e w'' h => SmP.told true ⟨fun _ => rfl, fun _ => rfl⟩ h))
  have hR := Lib.hid (fun (w' : World) (hb : Below W.heap.size W w') => ((rSameP_any hn1 hn2 hc1 hm1 hc2 hm2 hb.size (h1.below hb) (h2.below hb)).mono fun e w'' h => SmP.told s hs h))
  have hb0 := Lib.hid (Below.refl W.heap.size W)
  clear h1 h2 hn1 hn2 hs
  have hss : (s == s) = true := by cases s <;> rfl
  go_enter Try.func6, Try.ntmps6
  go_wp2_with (first
    | (go_at_call 7; (with_reducible show Calls _ _ #[.slice A1 n1 c1, _] _ _); refine (hG1.out).mono ?_; rintro e w2 ⟨⟨b, rfl, -⟩, rfl⟩; cases b)
    | (go_at_call 7; (with_reducible show Calls _ _ #[.slice A2 n2 c2, _] _ _); refine (hG2.out).mono ?_; rintro e w2 ⟨⟨b, rfl, -⟩, rfl⟩; cases b)
    | (have _h := hb5; go_at_call 9; refine (hW.out _).mono ?_; rintro e w6 ⟨rfl, hb6'⟩; have hb6 := Lib.hid (hb5.out.trans (hb6'.mono hb5.out.size)); clear hb6')
    | (have _h := hb4; go_at_call 19; (with_reducible show Calls _ _ #[.slice A1 n1 c1, .slice A1 n1 c1] _ _); refine (hT.out _ hb4.out).mono ?_; rintro e w5 ⟨rfl, hb5'⟩; have hb5 := Lib.hid (hb4.out.trans (hb5'.mono hb4.out.size)); clear hb5')
    | (have _h := hb3; go_at_call 13; refine (hR.out _ hb3.out).mono ?_; rintro e w4 ⟨rfl, hb4'⟩; have hb4 := Lib.hid (hb3.out.trans (hb4'.mono hb3.out.size)); clear hb4')
    | (go_at_call 19; (with_reducible show Calls _ _ #[.slice A1 n1 c1, .slice A2 n2 c2] _ _); refine (hS.out _ hb0.out).mono ?_; rintro e w3 ⟨rfl, hb3'⟩; have hb3 := Lib.hid hb3'; clear hb3')
    | (go_at_call 9; refine (hW.out _).mono ?_; rintro e w6 ⟨rfl, hb6'⟩; have hb6 := Lib.hid hb6'; clear hb6'))
  all_goals (go_ret; exact ⟨rfl, hb6.out⟩)
theorem contract (H : Type) (enc : TypeId × Value → H) (W : World) (base : Nat) (args : Array Value) (ds gs : List (DataW H)) (before : List MemPlace)
    (hval : ∀ (j : Nat) t v, Try.f6.params[j]? = some t → args[j]? = some v → Value.okWide Try.prog W .any base t v)
    (hW : DataW.Whole enc Try.prog Try.f6.params.toList Rows.swapSameSpec.vars false W args.toList ds gs before) :
    Calls Try.prog 6 args W fun e W' => ∃ v, e = .returned v ∧ Rows.swapSameSpec.post enc Try.prog Try.f6 false true false false W args v W' := by
  have hW' := hW
  obtain ⟨p, q, hA, hV, rfl, hfz, hnd⟩ := hW
  rw [Try.params6] at hA hval
  obtain ⟨v0, vs0, d0, ds0, p0, q0, hargs, rfl, rfl, h0, r0⟩ := trodAll_cons hA
  obtain ⟨v1, vs1, d1, ds1, p1, q1, rfl, rfl, rfl, h1, r1⟩ := trodAll_cons r0
  obtain ⟨rfl, rfl, rfl⟩ := trodAll_nil r1
  obtain rfl : args = #[v0, v1] := by cases args; simp_all
  obtain ⟨rfl, rfl⟩ := trodVars_none hV
  obtain ⟨A0, n0, c0, l0, rfl, e0, k0, m0, x0⟩ := open_parts (hval 0 22 v0 rfl rfl) h0
  obtain ⟨A1, n1, c1, l1, rfl, e1, k1, m1, x1⟩ := open_parts (hval 1 22 v1 rfl rfl) h1
  exact (core W A0 n0 c0 l0 e0 k0 m0 x0 A1 n1 c1 l1 e1 k1 m1 x1).mono fun e W' ⟨he, hb⟩ => ⟨_, he, law_post hW' rfl (by kernel_rfl) (by kernel_rfl) rfl hb⟩

theorem laid_met (os : Os) : laidMetH Try.prog Rows.swapSameRow.laid ((World.doorLaid Try.prog 4000 os).forCall (fun _ _ => 0) ⟨#[], #[.slice none 0 0, .slice none 0 0], []⟩).memory :=
  laidMetH_of_parts3 (fuel := 8) (laidMet_of_run' 8 (by kernel_rfl) (by kernel_rfl)) (by kernel_rfl) (by kernel_rfl)
theorem reads (os : Os) {H : Type} (enc : TypeId × Value → H) : ∃ places, DataW.whole enc Try.prog ((World.doorLaid Try.prog 4000 os).forCall (fun _ _ => 0) ⟨#[], #[.slice none 0 0, .slice none 0 0], []⟩).memory Try.f6.params.toList Rows.swapSameSpec.vars false #[Value.slice none 0 0, .slice none 0 0].toList 8 = some ([.nil, .nil], [], places) :=
  ⟨[], by kernel_rfl⟩

set_option maxRecDepth 100000 in
theorem lifted (os : Os) (started : os.Started) (H : Type) (enc : TypeId × Value → H) (F : Stop.Interp) :
    ReturnsInHanded {} Try.checked os 6 .any ((OpenSpec.ofChange Rows.swapSameSpec).preRow enc Try.prog Try.f6 Rows.swapSameRow.domain false Rows.swapSameRow.laid) (((OpenSpec.ofChange Rows.swapSameSpec).at F).post enc Try.prog Try.f6 false true false false) := by
  obtain ⟨places, hx⟩ := reads os enc
  refine returnsInHanded_of_row (C := Try.checked) (s := (OpenSpec.ofChange Rows.swapSameSpec)) own started (by kernel_rfl) Try.func6
    (witness_row_at (enc := enc) (C := Try.checked) false (World.doorLaid Try.prog 4000 os) #[.slice none 0 0, .slice none 0 0] rfl (by kernel_rfl) (by kernel_rfl) (by kernel_rfl)
      (OpenSpec.preRow_of_cond 8 hx (by kernel_rfl) (fun k hk => by cases hk) (by kernel_rfl) (laid_met os))) ?_
  intro W base args ds gs before hval hW _ _ _ _ _ _
  exact contract H enc W base args ds gs before hval hW

theorem said : Rows.SwapSameSaid :=
  OpenClaim.holds_of_cond 6 Try.f6 rfl rfl rfl rfl rfl rfl rfl ⟨rfl, rfl, rfl, rfl, rfl⟩ rfl rfl rfl rfl rfl (by kernel_rfl) Try.func6 (by kernel_rfl)
    (of_decide_eq_true (by kernel_rfl)) (by unfold Func.isWrapper; first | (rw [if_pos (by decide +kernel)]; kernel_rfl) | (rw [if_neg (by decide +kernel)]; exact ⟨rfl, rfl⟩))
    (fun os started H enc _ F => by rw [OpenClaim.pre_eq_preRow]; exact lifted os started H enc F)

end Go.Proofs.Ytkfdehkembcaoaa.Same13
