/- LinesBack. -/
import Derived.Test.YtdmbjhgfiofbhaaFrame
import Derived.Test.YtdmbjhgfiofbhaaLinC
import Derived.Test.YtdmbjhgfiofbhaaLinG
import Derived.Test.YtdmbjhgfiofbhaaLinK
set_option linter.unusedVariables false
namespace Go.Proofs.Ytdmbjhgfiofbhaa.Back
open Go.ChangeShapes Go.WideShapes Go.ChangeAt Go.RowKit

set_option maxHeartbeats 1000000 in
theorem core (W : World) (A : Option Addr) (n c : Nat) (l : List UInt8) (hn : n = l.length) (hnc : n ≤ c) (hm : c ≤ maxLen) (h : Byt W W.heap.size A l) :
    Calls Try.prog 4 #[.slice A n c] W fun e W' => e = .returned (.bool true) ∧ Below W.heap.size W W' := by
  have hW := Lib.hid awake_any
  by_cases hbig : n ≤ 300
  · have hS := Lib.hid (split_any A n c l W hn hnc hm (by omega) h)
    have hle := splitS_le l
    have hJ := Lib.hid (fun (A1 : Option Addr) (c1 : Nat) (w1 : World) (h1 : (splitS l).length ≤ c1) (h2 : c1 ≤ maxLen) (h3 : Lins w1 w1.heap.size A1 (splitS l)) => join_any A1 (splitS l).length c1 (splitS l) w1 rfl h1 h2 (by rw [join_split]; omega) h3)
    have hJ0 := Lib.hid (fun (w1 : World) => join_any none 0 0 [] w1 rfl (Nat.le_refl _) (by simp [maxLen]) (by simp [joinS]) (Lins.none_ _ _ _))
    have hQ := Lib.hid (fun (A1 : Option Addr) (c1 : Nat) (w1 : World) (h1 : l.length ≤ c1) (h2 : c1 ≤ maxLen) (h3 : Byt w1 w1.heap.size A1 l) (hb : Below W.heap.size W w1) => sameB_any A1 A l.length c1 n c l l w1.heap.size w1 rfl hn h1 hnc h2 h3 ((h.below hb).more hb.size))
    rw [join_split] at hJ
    simp only [beq_self_eq_true, joinS, List.flatMap_nil, List.length_nil] at hQ hJ0
    unfold maxLen at hm
    clear hn h hle
    go_enter Try.func4, Try.ntmps4
    go_wp2_with (first
      | (go_at_call 11; refine (hS.out).mono ?_; rintro e w1 ⟨v, rfl, hO, hb1⟩; obtain ⟨A1, c1, rfl, k1, k2, k3⟩ := hO.lins)
      | (go_at_call_of 14 (Value.slice none 0 0); refine (hJ0.out _).mono ?_; rintro e w4 ⟨v4, rfl, ho4, hb4⟩; obtain ⟨A4, c4, rfl, -, -, -, -⟩ := own_byt ho4)
      | (go_at_call 14; refine (hJ.out _ _ _ k1 k2 k3).mono ?_; rintro e w2 ⟨v2, rfl, ho2, hb2⟩; obtain ⟨A2, c2, rfl, -, q1, q2, q3⟩ := own_byt ho2; have hb3 := hb1.trans (hb2.mono hb1.size))
      | (go_at_call 13; refine (hQ.out _ _ _ q1 q2 q3 hb3).mono ?_; rintro e w3 ⟨rfl, q, rfl⟩)
      | (go_at_call 7; refine (hW.out _).mono ?_; rintro e w5 ⟨rfl, hb5⟩))
    go_ret
    have hb6 := (below_drewN hb3 q).trans (hb4.mono (below_drewN hb3 q).size)
    exact ⟨rfl, hb6.trans (hb5.mono hb6.size)⟩
  · have hbig : 300 < n := by omega
    unfold maxLen at hm
    clear hn h
    go_enter Try.func4, Try.ntmps4
    go_wp2_with (first
      | (go_at_call 7; refine (hW.out _).mono ?_; rintro e w5 ⟨rfl, hb5⟩))
    go_ret
    exact ⟨rfl, hb5⟩
theorem contract (H : Type) (enc : TypeId × Value → H) (W : World) (base : Nat) (args : Array Value) (ds gs : List (DataW H)) (before : List MemPlace)
    (hval : ∀ (j : Nat) t v, Try.f4.params[j]? = some t → args[j]? = some v → Value.okWide Try.prog W .any base t v)
    (hW : DataW.Whole enc Try.prog Try.f4.params.toList Rows.linesBackSpec.vars false W args.toList ds gs before) :
    Calls Try.prog 4 args W fun e W' => ∃ v, e = .returned v ∧ Rows.linesBackSpec.post enc Try.prog Try.f4 false true false false W args v W' := by
  have hW' := hW
  obtain ⟨p, q, hA, hV, rfl, hfz, hnd⟩ := hW
  rw [Try.params4] at hA hval
  obtain ⟨v0, vs0, d0, ds0, p0, q0, hargs, rfl, rfl, h0, r0⟩ := trodAll_cons hA
  obtain ⟨rfl, rfl, rfl⟩ := trodAll_nil r0
  obtain rfl : args = #[v0] := by cases args; simp_all
  obtain ⟨rfl, rfl⟩ := trodVars_none hV
  obtain ⟨A0, n0, c0, l0, rfl, e0, k0, m0, x0⟩ := open_byt Try.underlying22 Try.underlying5 (by kernel_rfl) (hval 0 22 v0 rfl rfl) h0
  exact (core W A0 n0 c0 l0 e0 k0 m0 x0).mono fun e W' ⟨he, hb⟩ => ⟨_, he, law_post hW' rfl (by kernel_rfl) (by kernel_rfl) rfl hb⟩

theorem laid_met (os : Os) : laidMetH Try.prog Rows.linesBackRow.laid ((World.doorLaid Try.prog 4000 os).forCall (fun _ _ => 0) ⟨#[], #[.slice none 0 0], []⟩).memory :=
  laidMetH_of_parts3 (fuel := 8) (laidMet_of_run' 8 (by kernel_rfl) (by kernel_rfl)) (by kernel_rfl) (by kernel_rfl)
theorem reads (os : Os) {H : Type} (enc : TypeId × Value → H) : ∃ places, DataW.whole enc Try.prog ((World.doorLaid Try.prog 4000 os).forCall (fun _ _ => 0) ⟨#[], #[.slice none 0 0], []⟩).memory Try.f4.params.toList Rows.linesBackSpec.vars false #[Value.slice none 0 0].toList 8 = some ([.nil], [], places) :=
  ⟨[], by kernel_rfl⟩

set_option maxRecDepth 100000 in
theorem lifted (os : Os) (started : os.Started) (H : Type) (enc : TypeId × Value → H) (F : Stop.Interp) :
    ReturnsInHanded {} Try.checked os 4 .any ((OpenSpec.ofChange Rows.linesBackSpec).preRow enc Try.prog Try.f4 Rows.linesBackRow.domain false Rows.linesBackRow.laid) (((OpenSpec.ofChange Rows.linesBackSpec).at F).post enc Try.prog Try.f4 false true false false) := by
  obtain ⟨places, hx⟩ := reads os enc
  refine returnsInHanded_of_row (C := Try.checked) (s := (OpenSpec.ofChange Rows.linesBackSpec)) own started (by kernel_rfl) Try.func4
    (witness_row_at (enc := enc) (C := Try.checked) false (World.doorLaid Try.prog 4000 os) #[.slice none 0 0] rfl (by kernel_rfl) (by kernel_rfl) (by kernel_rfl)
      (OpenSpec.preRow_of_cond 8 hx (by kernel_rfl) (fun k hk => by cases hk) (by kernel_rfl) (laid_met os))) ?_
  intro W base args ds gs before hval hW _ _ _ _ _ _
  exact contract H enc W base args ds gs before hval hW

theorem said : Rows.LinesBackSaid :=
  OpenClaim.holds_of_cond 4 Try.f4 rfl rfl rfl rfl rfl rfl rfl ⟨rfl, rfl, rfl, rfl, rfl⟩ rfl rfl rfl rfl rfl (by kernel_rfl) Try.func4 (by kernel_rfl)
    (of_decide_eq_true (by kernel_rfl)) (by unfold Func.isWrapper; first | (rw [if_pos (by decide +kernel)]; kernel_rfl) | (rw [if_neg (by decide +kernel)]; exact ⟨rfl, rfl⟩))
    (fun os started H enc _ F => by rw [OpenClaim.pre_eq_preRow]; exact lifted os started H enc F)

end Go.Proofs.Ytdmbjhgfiofbhaa.Back
