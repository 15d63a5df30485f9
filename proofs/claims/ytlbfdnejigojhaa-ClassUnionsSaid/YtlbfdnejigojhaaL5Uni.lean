/- ClassUnions. -/
import Derived.Test.YtlbfdnejigojhaaFrame
import Derived.Test.YtlbfdnejigojhaaClsM
import Derived.Test.YtlbfdnejigojhaaClsL
import Derived.Test.YtlbfdnejigojhaaClsO
import Derived.Deep.RegionHeld3
import Derived.Deep.WholeRow
set_option linter.unusedVariables false
namespace Go.Proofs.Ytlbfdnejigojhaa.Uni
open Go.ChangeShapes Go.WideShapes Go.ChangeAt Go.RowKit

theorem any_step (ss : List (Nat → Bool)) (k : Nat) (h : k < ss.length) (c : Nat) : (anyS (ss.take k) c || (ss[k]'h) c) = anyS (ss.take (k + 1)) c := congrFun (anyS_next ss k h) c
theorem any_twice (u : Nat → Bool) : anyS [u, u] = u := by funext c; simp [anyS]
theorem run_build_zero (w : World) : (Instr.build 24 #[]).run Try.prog w = .ok (.agg #[.int .u64 0, .int .u64 0, .int .u64 0, .int .u64 0]) w := run_build w _ _ _ (by kernel_rfl)

theorem eql_lit (f g : Nat → Bool) (w : World) (h : alike f g) : (binOp .eql 24 (setV f) (.agg #[.int .u64 (wd g 0 : Nat), .int .u64 (wd g 1 : Nat), .int .u64 (wd g 2 : Nat), .int .u64 (wd g 3 : Nat)])).run Try.prog w = .ok (.bool true) w := by
  have := run_equalIn_set w f g
  unfold setV at this ⊢
  rw [sameS_of h] at this
  exact (run_eql_struct w _ _ _).trans (by rw [show (Value.agg #[.int .u64 (wd g 0 : Nat), .int .u64 (wd g 1 : Nat), .int .u64 (wd g 2 : Nat), .int .u64 (wd g 3 : Nat)]) = .agg (setC g) from rfl, this]; rfl)
/-- The two sets of a call with two. -/
def twoC (u : Nat → Bool) : Array Value := #[.int .u64 (wd u 0 : Nat), .int .u64 (wd u 1 : Nat), .int .u64 (wd u 2 : Nat), .int .u64 (wd u 3 : Nat), .int .u64 (wd u 0 : Nat), .int .u64 (wd u 1 : Nat), .int .u64 (wd u 2 : Nat), .int .u64 (wd u 3 : Nat)]
theorem union_two (u : Nat → Bool) (w : World) :
    Calls Try.prog 20 #[.slice (some ⟨w.heap.size, 0, none⟩) 2 2] (w.alloc (.cells (twoC u) 24)) fun e w' => e = .returned (setV (anyS [u, u])) ∧ Below (w.alloc (.cells (twoC u) 24)).heap.size (w.alloc (.cells (twoC u) 24)) w' := by
  refine union_any _ 2 2 [u, u] (w.heap.size + 1) _ rfl (Nat.le_refl _) (by unfold maxLen; omega) (by simp) ?_
  intro k hk
  refine ⟨_, rfl, Nat.lt_succ_self _, fun j hj => ?_⟩
  rw [add_zero_off, cell_of_row _ _ _ _ _ _ (heap_alloc_new w _)]
  have hk' : k = 0 ∨ k = 1 := by simp at hk; omega
  have hj' : j = 0 ∨ j = 1 ∨ j = 2 ∨ j = 3 := by omega
  rcases hk' with rfl | rfl <;> rcases hj' with rfl | rfl | rfl | rfl <;> rfl

def RelIn (ss : List (Nat → Bool)) (c n : Nat) (W : World) (v i : Value) (wr : World) : Prop :=
  ∃ k : Nat, k ≤ n ∧ i = .int .i64 (k : Int) ∧ v = .bool (anyS (ss.take k) c) ∧ Below W.heap.size W wr
theorem RelIn.mk {ss : List (Nat → Bool)} {c n : Nat} {W : World} {v i : Value} {wr : World} (h : ∃ k : Nat, k ≤ n ∧ i = .int .i64 (k : Int) ∧ v = .bool (anyS (ss.take k) c) ∧ Below W.heap.size W wr) : RelIn ss c n W v i wr := h

set_option maxRecDepth 100000 in
set_option maxHeartbeats 8000000 in
theorem core (W : World) (A : Option Addr) (n cap : Nat) (ss : List (Nat → Bool)) (hn : n = ss.length) (hnc : n ≤ cap) (hm : cap ≤ maxLen) (h : Sets W W.heap.size A ss) (z : Int) (hz : (Lit.int .u8 z).wf = true) :
    Calls Try.prog 5 #[.slice A n cap, .int .u8 z] W fun e W' => e = .returned (.bool true) ∧ Below W.heap.size W W' := by
  obtain ⟨z0, z1⟩ := bounds_u8 hz
  obtain ⟨c, rfl⟩ := Int.eq_ofNat_of_zero_le z0
  have hc : c < 256 := by omega
  have hW := Lib.hid awake_any
  by_cases hbig : n ≤ 12
  · have hn' := Lib.hid hn
    have hU := Lib.hid (fun (w : World) (hb : Below W.heap.size W w) => union_any A n cap ss w.heap.size w hn hnc hm (Nat.le_refl _) ((h.below hb).more hb.size))
    have hR := Lib.hid (fun (f : Nat → Bool) w => refHas_any f c w hc)
    have hh := Lib.hid h
    clear hn hnc hm h hz z0 z1
    go_enter Try.func5, Try.ntmps5
    go_wp2
    go_loopw [5, 6] (RelIn ss c n W) (fun _ i _ => n - (intOf i).toNat)
    case atStart => exact RelIn.mk ⟨0, by omega, rfl, by simp [anyS], Below.refl _ _⟩
    case round =>
      obtain ⟨k, hk, rfl, rfl, hb⟩ := hrel
      by_cases hlt : k < n
      · have hkl : k < ss.length := by have := hn'.out; omega
        obtain ⟨ad, hA, hadB, hd0, hd1, hd2, hd3⟩ := (hh.out.below hb).at_ hkl
        subst hA
        have hnx := any_step ss k hkl c
        generalize ss[k]'hkl = s at hd0 hd1 hd2 hd3 hnx
        generalize anyS (ss.take k) c = b at hnx
        have hb' := Lib.hid hb
        clear hb hkl
        cases b
        · have hRs := Lib.hid (hR.out s)
          generalize s c = sc at hnx hRs
          rw [Bool.false_or] at hnx
          replace hnx := Lib.hid hnx
          go_wp2_with (go_at_call 9; refine (hRs.out _).mono ?_; rintro e w1 ⟨rfl, hb1⟩)
          go_roundw
          case rel => exact RelIn.mk ⟨k + 1, by omega, by go_num, by rw [hnx.out], hb'.out.trans (hb1.mono hb'.out.size)⟩
          case measure => simp [intOf]; omega
        · rw [Bool.true_or] at hnx
          replace hnx := Lib.hid hnx
          go_wp2
          go_roundw
          case rel => exact RelIn.mk ⟨k + 1, by omega, by go_num, by rw [← hnx.out], hb'.out⟩
          case measure => simp [intOf]; omega
      · have e : ss.take k = ss := List.take_of_length_le (by have := hn'.out; omega)
        rw [e]
        clear e
        have hU1 := Lib.hid (hU.out wr hb)
        have hH := Lib.hid (fun w => has_any (anyS ss) c w hc)
        generalize hu : anyS ss = u at *
        generalize hb0 : u c = b at *
        clear hb0 hu
        have hb' := Lib.hid hb
        clear hb
        have hE1 : ∀ w, (binOp .eql 24 (setV (anyS [u, u])) (.agg #[.int .u64 (wd u 0 : Nat), .int .u64 (wd u 1 : Nat), .int .u64 (wd u 2 : Nat), .int .u64 (wd u 3 : Nat)])).run Try.prog w = .ok (.bool true) w := fun w => by
          rw [any_twice]
          exact eql_lit u u w (fun _ _ => rfl)
        have hG1 : ∀ x y w, (eqGuard .eql 24 x y (setV (anyS [u, u])) (.agg #[.int .u64 (wd u 0 : Nat), .int .u64 (wd u 1 : Nat), .int .u64 (wd u 2 : Nat), .int .u64 (wd u 3 : Nat)])).run Try.prog w = .ok () w :=
          fun x y w => run_eqGuard_agg w .eql _ x y _ _ guard_set
        have hE2 : ∀ w, (binOp .eql 24 (setV (anyS [])) (.agg #[.int .u64 0, .int .u64 0, .int .u64 0, .int .u64 0])).run Try.prog w = .ok (.bool true) w := fun w => by
          have := eql_lit (anyS []) (fun _ => false) w (fun _ _ => rfl)
          rw [wd_none, wd_none, wd_none, wd_none] at this
          exact this
        have hG2 : ∀ x y w, (eqGuard .eql 24 x y (setV (anyS [])) (.agg #[.int .u64 0, .int .u64 0, .int .u64 0, .int .u64 0])).run Try.prog w = .ok () w :=
          fun x y w => run_eqGuard_agg w .eql _ x y _ _ guard_set
        have hbd := run_build_zero
        have hU0 := Lib.hid (fun (w : World) => union_any none 0 0 [] 0 w rfl (Nat.le_refl _) (Nat.zero_le _) (Nat.zero_le _) (Sets.none_ _ _ _))
        go_wp2_with (first
          | (go_at_call 20; refine (hU1.out).mono ?_; rintro e w1 ⟨rfl, hb1⟩)
          | (refine wpList_store_row rfl 24 (.tmp 7) (.tmp 28) rfl w1.heap.size (setC u) rfl rfl 24 _ (set_zero w1) (set_size _) (set_hold (fun _ => false) u |> fun h => by rw [← h, setC_none]) (set_cells _) ?_))
        rw [World.setRow_alloc_new]
        have hSt := set_new w1 u
        have hbW : Below W.heap.size W (w1.alloc (.cells (setC u) 24)) := (hb'.out.trans (hb1.mono hb'.out.size)).alloc ((hb'.out.trans (hb1.mono hb'.out.size)).size) _
        generalize hg : w1.heap.size = g at *
        generalize w1.alloc (.cells (setC u) 24) = w2 at *
        clear hg hb1
        replace hbW := Lib.hid hbW.drew
        replace hSt : Hid (SetAt w2.drew g u) := Lib.hid hSt
        go_region_held3 (fun w' => w'.cell? ⟨g, 0, none⟩ = some (.int .u64 ((wd u 0 : Nat) : Int)) ∧ w'.cell? ⟨g, 1, none⟩ = some (.int .u64 ((wd u 1 : Nat) : Int)) ∧ w'.cell? ⟨g, 2, none⟩ = some (.int .u64 ((wd u 2 : Nat) : Int)) ∧ w'.cell? ⟨g, 3, none⟩ = some (.int .u64 ((wd u 3 : Nat) : Int)))
          (first | exact hSt.out.cells4 | exact (hSt.out.alloc _).cells4 | go_keep)
          (first
          | (go_at_call 8; refine (hH.out _).mono ?_; rintro e w3 ⟨rfl, hb⟩; replace hSt := Lib.hid (hSt.out.below hb hSt.out.lt); replace hbW := Lib.hid (hbW.out.trans (hb.mono hbW.out.size)))
          | (go_at_call_of 20 (Value.slice none 0 0); refine (hU0.out _).mono ?_; rintro e w5 ⟨rfl, hb⟩; replace hSt := Lib.hid (hSt.out.below hb hSt.out.lt); replace hbW := Lib.hid (hbW.out.trans (hb.mono hbW.out.size)))
          | (go_at_call 20; refine (union_two u w3).mono ?_; rintro e w4 ⟨rfl, hb⟩; replace hSt := Lib.hid ((hSt.out.alloc _).below hb (by have := hSt.out.lt; simp; omega)); replace hbW := Lib.hid ((hbW.out.alloc hbW.out.size _).trans (hb.mono (by have := hbW.out.size; simp; omega))))
          | (go_at_call 14; refine (hW.out _).mono ?_; rintro e w6 ⟨rfl, hb⟩; replace hSt := Lib.hid (hSt.out.below hb hSt.out.lt); replace hbW := Lib.hid (hbW.out.trans (hb.mono hbW.out.size))))
        go_wp2
        go_ret
        exact ⟨rfl, hbW.out⟩
  · have hbig : 12 < n := by omega
    clear hn h
    go_enter Try.func5, Try.ntmps5
    go_wp2_with (first
      | (go_at_call 14; refine (hW.out _).mono ?_; rintro e w5 ⟨rfl, hb5⟩))
    go_ret
    exact ⟨rfl, hb5⟩
theorem contract (H : Type) (enc : TypeId × Value → H) (W : World) (base : Nat) (args : Array Value) (ds gs : List (DataW H)) (before : List MemPlace)
    (hval : ∀ (j : Nat) t v, Try.f5.params[j]? = some t → args[j]? = some v → Value.okWide Try.prog W .any base t v)
    (hW : DataW.Whole enc Try.prog Try.f5.params.toList Rows.classUnionsSpec.vars false W args.toList ds gs before) :
    Calls Try.prog 5 args W fun e W' => ∃ v, e = .returned v ∧ Rows.classUnionsSpec.post enc Try.prog Try.f5 false true false false W args v W' := by
  have hW' := hW
  obtain ⟨p, q, hA, hV, rfl, hfz, hnd⟩ := hW
  rw [Try.params5] at hA hval
  obtain ⟨v0, vs0, d0, ds0, p0, q0, hargs, rfl, rfl, h0, r0⟩ := trodAll_cons hA
  obtain ⟨v1, vs1, d1, ds1, p1, q1, rfl, rfl, rfl, h1, r1⟩ := trodAll_cons r0
  obtain ⟨rfl, rfl, rfl⟩ := trodAll_nil r1
  obtain rfl : args = #[v0, v1] := by cases args; simp_all
  obtain ⟨rfl, rfl⟩ := trodVars_none hV
  obtain ⟨A0, n0, c0, l0, rfl, e0, k0, m0, x0⟩ := open_sets (hval 0 41 v0 rfl rfl) h0
  obtain ⟨a1, rfl, rfl, rfl, w1⟩ := open_int Try.underlying5 (hval 1 5 v1 rfl rfl) h1
  exact (core W A0 n0 c0 l0 e0 k0 m0 x0 a1 w1).mono fun e W' ⟨he, hb⟩ => ⟨_, he, law_post hW' rfl (by kernel_rfl) (by kernel_rfl) rfl hb⟩

theorem laid_met (os : Os) : laidMetH Try.prog Rows.classUnionsRow.laid ((World.doorLaid Try.prog 4000 os).forCall (fun _ _ => 0) ⟨#[], #[.slice none 0 0, .int .u8 0], []⟩).memory :=
  laidMetH_of_parts3 (fuel := 8) (laidMet_of_run' 8 (by kernel_rfl) (by kernel_rfl)) (by kernel_rfl) (by kernel_rfl)
theorem reads (os : Os) {H : Type} (enc : TypeId × Value → H) : ∃ places, DataW.whole enc Try.prog ((World.doorLaid Try.prog 4000 os).forCall (fun _ _ => 0) ⟨#[], #[.slice none 0 0, .int .u8 0], []⟩).memory Try.f5.params.toList Rows.classUnionsSpec.vars false #[Value.slice none 0 0, .int .u8 0].toList 8 = some ([.nil, .lit (.int .u8 0)], [], places) :=
  ⟨[], by kernel_rfl⟩

set_option maxRecDepth 100000 in
theorem lifted (os : Os) (started : os.Started) (H : Type) (enc : TypeId × Value → H) (F : Stop.Interp) :
    ReturnsInHanded {} Try.checked os 5 .any ((OpenSpec.ofChange Rows.classUnionsSpec).preRow enc Try.prog Try.f5 Rows.classUnionsRow.domain false Rows.classUnionsRow.laid) (((OpenSpec.ofChange Rows.classUnionsSpec).at F).post enc Try.prog Try.f5 false true false false) := by
  obtain ⟨places, hx⟩ := reads os enc
  refine returnsInHanded_of_row (C := Try.checked) (s := (OpenSpec.ofChange Rows.classUnionsSpec)) own started (by kernel_rfl) Try.func5
    (witness_row_at (enc := enc) (C := Try.checked) false (World.doorLaid Try.prog 4000 os) #[.slice none 0 0, .int .u8 0] rfl (by kernel_rfl) (by kernel_rfl) (by kernel_rfl)
      (OpenSpec.preRow_of_cond 8 hx (by kernel_rfl) (fun k hk => by cases hk) (by kernel_rfl) (laid_met os))) ?_
  intro W base args ds gs before hval hW _ _ _ _ _ _
  exact contract H enc W base args ds gs before hval hW

theorem said : Rows.ClassUnionsSaid :=
  OpenClaim.holds_of_cond 5 Try.f5 rfl rfl rfl rfl rfl rfl rfl ⟨rfl, rfl, rfl, rfl, rfl⟩ rfl rfl rfl rfl rfl (by kernel_rfl) Try.func5 (by kernel_rfl)
    (of_decide_eq_true (by kernel_rfl)) (by unfold Func.isWrapper; first | (rw [if_pos (by decide +kernel)]; kernel_rfl) | (rw [if_neg (by decide +kernel)]; exact ⟨rfl, rfl⟩))
    (fun os started H enc _ F => by rw [OpenClaim.pre_eq_preRow]; exact lifted os started H enc F)

end Go.Proofs.Ytlbfdnejigojhaa.Uni
