/- ClassTells. -/
import Derived.Test.YtlbfdnejigojhaaFrame
import Derived.Test.YtlbfdnejigojhaaClsM
import Derived.Test.YtlbfdnejigojhaaClsL
import Derived.Test.YtlbfdnejigojhaaClsO
import Derived.Test.YtlbfdnejigojhaaSmB
import Derived.Deep.RegionHeld3
set_option linter.unusedVariables false
namespace Go.Proofs.Ytlbfdnejigojhaa.Tells
open Go.ChangeShapes Go.WideShapes Go.ChangeAt Go.RowKit

def negS (f : Nat → Bool) : Nat → Bool := fun c => !f c
theorem neg_any (f : Nat → Bool) (w : World) : Calls Try.prog 10 #[setV f] w fun e w' => e = .returned (setV (negS f)) ∧ Below w.heap.size w w' := not_any f w
theorem neg_neg (f : Nat → Bool) : negS (negS f) = f := by funext x; simp [negS]
theorem neg_cnt (f : Nat → Bool) (n : Nat) : cnt (negS f) n = n - cnt f n := cnt_not f n
set_option maxRecDepth 100000 in
set_option maxHeartbeats 8000000 in
theorem core (W : World) (f : Nat → Bool) (z : Int) (hz : (Lit.int .u8 z).wf = true) :
    Calls Try.prog 3 #[setV f, .int .u8 z] W fun e W' => e = .returned (.bool true) ∧ Below W.heap.size W W' := by
  obtain ⟨z0, z1⟩ := bounds_u8 hz
  obtain ⟨c, rfl⟩ := Int.eq_ofNat_of_zero_le z0
  have hc : c < 256 := by omega
  have hW := Lib.hid awake_any
  have hH := Lib.hid (fun w => has_any f c w hc)
  have hH2 := Lib.hid (fun w => has_any (negS f) c w hc)
  have hR := Lib.hid (fun w => refHas_any f c w hc)
  have hN := Lib.hid (fun w => neg_any f w)
  have hN2 := Lib.hid (fun w => neg_any (negS f) w)
  have hB := Lib.hid (fun w => bytes_any f w)
  have hRB := Lib.hid (fun w => refBytes_any f w)
  have hC := Lib.hid (fun w => count_any f w)
  have hC2 := Lib.hid (fun w => count_any (negS f) w)
  have hS := Lib.hid sameB_any
  have hE : ∀ w, (binOp .eql 24 (setV (negS (negS f))) (.agg #[.int .u64 (wd f 0 : Nat), .int .u64 (wd f 1 : Nat), .int .u64 (wd f 2 : Nat), .int .u64 (wd f 3 : Nat)])).run Try.prog w = .ok (.bool true) w := fun w => by
    rw [neg_neg]
    have := run_equalIn_set w f f
    unfold setV at this ⊢
    rw [sameS_of (fun _ _ => rfl)] at this
    exact (run_eql_struct w _ _ _).trans (by rw [show (Value.agg #[.int .u64 (wd f 0 : Nat), .int .u64 (wd f 1 : Nat), .int .u64 (wd f 2 : Nat), .int .u64 (wd f 3 : Nat)]) = .agg (setC f) from rfl, this]; rfl)
  have hG : ∀ x y w, (eqGuard .eql 24 x y (setV (negS (negS f))) (.agg #[.int .u64 (wd f 0 : Nat), .int .u64 (wd f 1 : Nat), .int .u64 (wd f 2 : Nat), .int .u64 (wd f 3 : Nat)])).run Try.prog w = .ok () w :=
    fun x y w => run_eqGuard_agg w .eql _ x y _ _ guard_set
  have hcn := neg_cnt f 256
  have hcl := cnt_le f 256
  have hel := elems_len f 256
  generalize hM : cnt (negS f) 256 = M at hC2 hcn
  generalize hNN : cnt f 256 = N at hC hcn hcl hel
  generalize elems f 256 = L at *
  have hsub : IntKind.i64.wrap ((256 : Int) - (N : Int)) = (M : Int) := by rw [IntWalk.i64_in _ (by omega)]; omega
  have hs0 := Lib.hid (set_new W f)
  have hel' := Lib.hid hel
  clear hM hNN hcn hz z0 z1 hel
  rw [show negS f c = !(f c) from rfl] at hH2
  generalize hb0 : f c = b at hH hH2 hR
  clear hb0
  show Calls Try.prog 3 #[.agg (setC f), .int .u8 (c : Int)] W _
  go_enter Try.func3, Try.ntmps3
  go_wp2_with (first
    | (refine wpList_load_row rfl 24 (.tmp 2) rfl W.heap.size rfl 24 _ (0, 0) _ hs0.out Try.underlying24 rfl (set_size _) ?_)
    | (go_at_call 7; refine (hRB.out _).mono ?_; rintro e w1 ⟨v1, rfl, ho1, hw1⟩; rw [hel'.out] at ho1; obtain ⟨A1, c1, rfl, -, k1, m1, B1⟩ := own_byt ho1))
  replace ho1 := Lib.hid ho1
  replace B1 := Lib.hid B1
  have hw1' := Lib.hid (((Below.refl _ _).alloc (Nat.le_refl _) _).trans (hw1.mono (by simp)))
  have hsw := hs0.out.below hw1 hs0.out.lt
  have hSt := Lib.hid (show SetAt w1.drew W.heap.size f from hsw)
  have hCh := Lib.hid (Below.refl w1.heap.size w1.drew)
  clear hw1 hsw
  go_region_held3 (fun w' => w'.cell? ⟨W.heap.size, 0, none⟩ = some (.int .u64 ((wd f 0 : Nat) : Int)) ∧ w'.cell? ⟨W.heap.size, 1, none⟩ = some (.int .u64 ((wd f 1 : Nat) : Int)) ∧ w'.cell? ⟨W.heap.size, 2, none⟩ = some (.int .u64 ((wd f 2 : Nat) : Int)) ∧ w'.cell? ⟨W.heap.size, 3, none⟩ = some (.int .u64 ((wd f 3 : Nat) : Int)))
    (first | exact hSt.out.cells4 | go_keep)
    (first
    | (go_at_call_of 8 (setV (negS f)); refine (hH2.out _).mono ?_; rintro e w' ⟨rfl, hb⟩; replace hSt := Lib.hid (hSt.out.below hb hSt.out.lt); replace hCh := Lib.hid (hCh.out.trans (hb.mono hCh.out.size)))
    | (go_at_call 8; refine (hH.out _).mono ?_; rintro e w' ⟨rfl, hb⟩; replace hSt := Lib.hid (hSt.out.below hb hSt.out.lt); replace hCh := Lib.hid (hCh.out.trans (hb.mono hCh.out.size)))
    | (go_at_call 9; refine (hR.out _).mono ?_; rintro e w' ⟨rfl, hb⟩; replace hSt := Lib.hid (hSt.out.below hb hSt.out.lt); replace hCh := Lib.hid (hCh.out.trans (hb.mono hCh.out.size)))
    | (go_at_call_of 10 (setV (negS f)); refine (hN2.out _).mono ?_; rintro e w' ⟨rfl, hb⟩; replace hSt := Lib.hid (hSt.out.below hb hSt.out.lt); replace hCh := Lib.hid (hCh.out.trans (hb.mono hCh.out.size)))
    | (go_at_call 10; refine (hN.out _).mono ?_; rintro e w' ⟨rfl, hb⟩; replace hSt := Lib.hid (hSt.out.below hb hSt.out.lt); replace hCh := Lib.hid (hCh.out.trans (hb.mono hCh.out.size)))
    | (go_at_call_of 13 (setV (negS f)); refine (hC2.out _).mono ?_; rintro e w' ⟨rfl, hb⟩; replace hSt := Lib.hid (hSt.out.below hb hSt.out.lt); replace hCh := Lib.hid (hCh.out.trans (hb.mono hCh.out.size)))
    | (go_at_call 13; refine (hC.out _).mono ?_; rintro e w' ⟨rfl, hb⟩; replace hSt := Lib.hid (hSt.out.below hb hSt.out.lt); replace hCh := Lib.hid (hCh.out.trans (hb.mono hCh.out.size)))
    | (go_at_call 12; refine (hB.out _).mono ?_; rintro e w2 ⟨v2, rfl, ho2, hb⟩; rw [hel'.out] at ho2; obtain ⟨A2, c2, rfl, -, k2, m2, B2⟩ := own_byt ho2; replace hSt := Lib.hid (hSt.out.below hb hSt.out.lt); replace hCh := Lib.hid (hCh.out.trans (hb.mono hCh.out.size)); have hB1 := ((show Byt w1.drew w1.heap.size A1 L from B1.out).below hCh.out).more hCh.out.size; have hSm := Lib.hid (sameB_any A2 A1 N c2 N c1 L L w2.heap.size w2 hel'.out.symm hel'.out.symm k2 k1 m2 B2 hB1))
    | (go_at_call 11; refine (hSm.out).mono ?_; rintro e w4 ⟨he, q4, rfl⟩; rw [beq_self_eq_true] at he; subst he; replace hSt := Lib.hid (hSt.out.drew q4); replace hCh := Lib.hid (below_drewN hCh.out q4))
    | (go_at_call 14; refine (hW.out _).mono ?_; rintro e w' ⟨rfl, hb⟩; replace hSt := Lib.hid (hSt.out.below hb hSt.out.lt); replace hCh := Lib.hid (hCh.out.trans (hb.mono hCh.out.size))))
  go_wp2
  go_ret
  exact ⟨rfl, hw1'.out.drew.trans (hCh.out.mono hw1'.out.size)⟩
theorem contract (H : Type) (enc : TypeId × Value → H) (W : World) (base : Nat) (args : Array Value) (ds gs : List (DataW H)) (before : List MemPlace)
    (hval : ∀ (j : Nat) t v, Try.f3.params[j]? = some t → args[j]? = some v → Value.okWide Try.prog W .any base t v)
    (hW : DataW.Whole enc Try.prog Try.f3.params.toList Rows.classTellsSpec.vars false W args.toList ds gs before) :
    Calls Try.prog 3 args W fun e W' => ∃ v, e = .returned v ∧ Rows.classTellsSpec.post enc Try.prog Try.f3 false true false false W args v W' := by
  have hW' := hW
  obtain ⟨p, q, hA, hV, rfl, hfz, hnd⟩ := hW
  rw [Try.params3] at hA hval
  obtain ⟨v0, vs0, d0, ds0, p0, q0, hargs, rfl, rfl, h0, r0⟩ := trodAll_cons hA
  obtain ⟨v1, vs1, d1, ds1, p1, q1, rfl, rfl, rfl, h1, r1⟩ := trodAll_cons r0
  obtain ⟨rfl, rfl, rfl⟩ := trodAll_nil r1
  obtain rfl : args = #[v0, v1] := by cases args; simp_all
  obtain ⟨rfl, rfl⟩ := trodVars_none hV
  obtain ⟨a0, rfl⟩ := open_set (hval 0 24 v0 rfl rfl) h0
  obtain ⟨a1, rfl, rfl, rfl, w1⟩ := open_int Try.underlying5 (hval 1 5 v1 rfl rfl) h1
  exact (core W a0 a1 w1).mono fun e W' ⟨he, hb⟩ => ⟨_, he, law_post hW' rfl (by kernel_rfl) (by kernel_rfl) rfl hb⟩

theorem laid_met (os : Os) : laidMetH Try.prog Rows.classTellsRow.laid ((World.doorLaid Try.prog 4000 os).forCall (fun _ _ => 0) ⟨#[], #[.agg #[.int .u64 0, .int .u64 0, .int .u64 0, .int .u64 0], .int .u8 0], []⟩).memory :=
  laidMetH_of_parts3 (fuel := 8) (laidMet_of_run' 8 (by kernel_rfl) (by kernel_rfl)) (by kernel_rfl) (by kernel_rfl)
theorem reads (os : Os) {H : Type} (enc : TypeId × Value → H) : ∃ places, DataW.whole enc Try.prog ((World.doorLaid Try.prog 4000 os).forCall (fun _ _ => 0) ⟨#[], #[.agg #[.int .u64 0, .int .u64 0, .int .u64 0, .int .u64 0], .int .u8 0], []⟩).memory Try.f3.params.toList Rows.classTellsSpec.vars false #[Value.agg #[.int .u64 0, .int .u64 0, .int .u64 0, .int .u64 0], .int .u8 0].toList 8 = some ([.agg [.lit (.int .u64 0), .lit (.int .u64 0), .lit (.int .u64 0), .lit (.int .u64 0)], .lit (.int .u8 0)], [], places) :=
  ⟨[], by kernel_rfl⟩

set_option maxRecDepth 100000 in
theorem lifted (os : Os) (started : os.Started) (H : Type) (enc : TypeId × Value → H) (F : Stop.Interp) :
    ReturnsInHanded {} Try.checked os 3 .any ((OpenSpec.ofChange Rows.classTellsSpec).preRow enc Try.prog Try.f3 Rows.classTellsRow.domain false Rows.classTellsRow.laid) (((OpenSpec.ofChange Rows.classTellsSpec).at F).post enc Try.prog Try.f3 false true false false) := by
  obtain ⟨places, hx⟩ := reads os enc
  refine returnsInHanded_of_row (C := Try.checked) (s := (OpenSpec.ofChange Rows.classTellsSpec)) own started (by kernel_rfl) Try.func3
    (witness_row_at (enc := enc) (C := Try.checked) false (World.doorLaid Try.prog 4000 os) #[.agg #[.int .u64 0, .int .u64 0, .int .u64 0, .int .u64 0], .int .u8 0] rfl (by kernel_rfl) (by kernel_rfl) (by kernel_rfl)
      (OpenSpec.preRow_of_cond 8 hx (by kernel_rfl) (fun k hk => by cases hk) (by kernel_rfl) (laid_met os))) ?_
  intro W base args ds gs before hval hW _ _ _ _ _ _
  exact contract H enc W base args ds gs before hval hW

theorem said : Rows.ClassTellsSaid :=
  OpenClaim.holds_of_cond 3 Try.f3 rfl rfl rfl rfl rfl rfl rfl ⟨rfl, rfl, rfl, rfl, rfl⟩ rfl rfl rfl rfl rfl (by kernel_rfl) Try.func3 (by kernel_rfl)
    (of_decide_eq_true (by kernel_rfl)) (by unfold Func.isWrapper; first | (rw [if_pos (by decide +kernel)]; kernel_rfl) | (rw [if_neg (by decide +kernel)]; exact ⟨rfl, rfl⟩))
    (fun os started H enc _ F => by rw [OpenClaim.pre_eq_preRow]; exact lifted os started H enc F)

end Go.Proofs.Ytlbfdnejigojhaa.Tells
