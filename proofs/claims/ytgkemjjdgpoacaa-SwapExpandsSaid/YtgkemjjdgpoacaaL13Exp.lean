/- SwapExpands answers true at every list of parts, text and hit, and they read afterwards as they read before. Conditions: none. -/
import Derived.Test.YtgkemjjdgpoacaaFrame
import Derived.Test.YtgkemjjdgpoacaaSwpH
import Derived.Test.YtgkemjjdgpoacaaSwpF
import Derived.Test.YtgkemjjdgpoacaaSwpW
import Derived.Test.YtgkemjjdgpoacaaSwpO
import Derived.Test.YtgkemjjdgpoacaaSmB
set_option linter.unusedVariables false
set_option linter.unusedSimpArgs false
set_option maxRecDepth 100000
namespace Go.Proofs.Ytgkemjjdgpoacaa.Exp13
open Go.ChangeShapes Go.WideShapes Go.ChangeAt Go.RowKit

def SLx (H : Nat) (hc : Array Value) (w0 w' : World) : Prop := Held w' H 38 hc ∧ Below w0.heap.size w0 w'
theorem SLx.below {H : Nat} {hc : Array Value} {w0 w1 w2 : World} (h : SLx H hc w0 w1) (hb : Below w1.heap.size w1 w2) : SLx H hc w0 w2 := ⟨h.1.keep hb, h.2.trans (hb.mono h.2.size)⟩
set_option maxHeartbeats 8000000 in
theorem core (W : World) (A1 : Option Addr) (n1 c1 : Nat) (l1 : List Prt) (hn1 : n1 = l1.length) (hc1 : n1 ≤ c1) (hm1 : c1 ≤ maxLen) (h1 : Prts W W.heap.size A1 l1)
    (A2 : Option Addr) (n2 c2 : Nat) (l2 : List UInt8) (hn2 : n2 = l2.length) (hc2 : n2 ≤ c2) (hm2 : c2 ≤ maxLen) (h2 : Byt W W.heap.size A2 l2) (s : Spn) :
    Calls Try.prog 4 #[.slice A1 n1 c1, .slice A2 n2 c2, .agg (hitC s)] W fun e W' => e = .returned (.bool true) ∧ Below W.heap.size W W' := by
  have hW := Lib.hid (fun w => awake13_any w)
  have hb0 := Lib.hid ((Below.refl W.heap.size W).alloc (Nat.le_refl _) (.cells (hitC s) 38))
  have hH0 := Lib.hid (held_new W 38 (hitC s))
  have hG := Lib.hid (great_any hn1 hc1 hm1 hc2 hm2 (h1.below hb0.out) (At := A2))
  have hIn := Lib.hid (fun (w' : World) (hb : Below W.heap.size W w') => show SwIn w' W.heap.size A1 n1 c1 l1 A2 n2 c2 l2 from ⟨hn1, hc1, hm1, h1.below hb, hn2, hc2, hm2, h2.below hb, hb.size⟩)
  have hn1h := Lib.hid hn1
  have hn2h := Lib.hid hn2
  have hs0 := Lib.hid (hitC_size s)
  have hEx0 := Lib.hid (fun (w' : World) (hb : Below W.heap.size W w') (hM : (expL l2 s l1).length ≤ 1000000) => show Calls Try.prog 15 #[.slice A1 n1 c1, .slice A2 n2 c2, .agg (hitC s)] w' (BytQ w' (expL l2 s l1)) from expand_any (hIn.out w' hb) hM)
  have hRx0 := Lib.hid (fun (w' : World) (hb : Below W.heap.size W w') (hM : (expL l2 s l1).length ≤ 1000000) => show Calls Try.prog 16 #[.slice A1 n1 c1, .slice A2 n2 c2, .agg (hitC s)] w' (BytQ w' (expL l2 s l1)) from rExpand_any (hIn.out w' hb) hM)
  clear h1 h2 hn1 hn2
  generalize hitC s = C0 at *
  go_enter Try.func4, Try.ntmps4
  go_upto_region 1 with fail
  generalize W.alloc (.cells C0 38) = w1 at *
  go_wp2_with (first
    | (go_at_call 7; refine (hG.out).mono ?_; rintro e w2 ⟨⟨b, rfl, hbf⟩, rfl⟩; have hbfh := Lib.hid hbf; clear hbf; cases b)
    | (go_at_call 9; refine (hW.out _).mono ?_; rintro e w3 ⟨rfl, hb3⟩))
  rotate_left
  · go_ret
    exact ⟨rfl, hb0.out.trans (hb3.mono hb0.out.size)⟩
  · clear hG
    have hM : (expL l2 s l1).length ≤ 1000000 := by
      obtain ⟨k1, k2, k3⟩ := hbfh.out trivial
      have := expL_len l2 s l1 90 (fun p hp => by have := k3 p hp; have := hn2h.out; omega)
      have h12 : l1.length * 90 ≤ 12 * 90 := Nat.mul_le_mul_right 90 (by rw [← hn1h.out]; exact k1)
      omega
    have hEx := Lib.hid (fun (w' : World) (hb : Below W.heap.size W w') => hEx0.out w' hb hM)
    have hRx := Lib.hid (fun (w' : World) (hb : Below W.heap.size W w') => hRx0.out w' hb hM)
    have hMh := Lib.hid hM
    clear hEx0 hRx0 hM
    generalize expL l2 s l1 = E at *
    refine wp_region_held_drew (S := SLx W.heap.size C0 W) (by kernel_rfl) ⟨hH0.out.drew, below_drewN hb0.out 1⟩ (fun hS => ?_)
    generalize w1.drew = wd at *
    refine wpAnyH_take (i := 0) (v := ?_) rfl (by kernel_rfl) (by kernel_rfl) (by kernel_rfl) (fun _ _ _ h => h) (Or.inl ⟨by rfl, ?_⟩) hS ?_
    rotate_left
    · (intro w' hS'; go_simp; try with_reducible rfl)
    (try simp only [Act.put, List.getElem_toArray, List.getElem_cons_zero, List.getElem_cons_succ, List.setIfInBounds_toArray, List.set_cons_zero, List.set_cons_succ])
    refine wpAnyH_take (i := 1) (v := ?_) rfl (by kernel_rfl) (by kernel_rfl) (by kernel_rfl) (fun _ _ _ h => h) (Or.inl ⟨by rfl, ?_⟩) hS ?_
    rotate_left
    · (intro w' hS'; go_simp; try with_reducible rfl)
    (try simp only [Act.put, List.getElem_toArray, List.getElem_cons_zero, List.getElem_cons_succ, List.setIfInBounds_toArray, List.set_cons_zero, List.set_cons_succ])
    refine wpAnyH_take (i := 2) (v := _) rfl (by kernel_rfl) (by kernel_rfl) (by kernel_rfl) (fun _ _ _ h => h) (yieldsIf_load_mid (by rfl) _ _ rfl (W.heap.size) 0 rfl (C0.toList) _ (fun _ hS' => hS'.1.range) Try.underlying38 rfl (by rw [Array.length_toList, hs0.out]; exact sw_size_hit)) hS ?_
    (try simp only [Act.put, List.getElem_toArray, List.getElem_cons_zero, List.getElem_cons_succ, List.setIfInBounds_toArray, List.set_cons_zero, List.set_cons_succ])
    refine wpAnyH_take (i := 4) (v := ?_) rfl (by kernel_rfl) (by kernel_rfl) (by kernel_rfl) (fun _ _ _ h => h) (Or.inl ⟨by rfl, ?_⟩) hS ?_
    rotate_left
    · (intro w' hS'; go_simp; try with_reducible rfl)
    (try simp only [Act.put, List.getElem_toArray, List.getElem_cons_zero, List.getElem_cons_succ, List.setIfInBounds_toArray, List.set_cons_zero, List.set_cons_succ])
    refine wpAnyH_take (i := 5) (v := ?_) rfl (by kernel_rfl) (by kernel_rfl) (by kernel_rfl) (fun _ _ _ h => h) (Or.inl ⟨by rfl, ?_⟩) hS ?_
    rotate_left
    · (intro w' hS'; go_simp; try with_reducible rfl)
    (try simp only [Act.put, List.getElem_toArray, List.getElem_cons_zero, List.getElem_cons_succ, List.setIfInBounds_toArray, List.set_cons_zero, List.set_cons_succ])
    refine wpAnyH_take (i := 6) (v := _) rfl (by kernel_rfl) (by kernel_rfl) (by kernel_rfl) (fun _ _ _ h => h) (yieldsIf_load_mid (by rfl) _ _ rfl (W.heap.size) 0 rfl (C0.toList) _ (fun _ hS' => hS'.1.range) Try.underlying38 rfl (by rw [Array.length_toList, hs0.out]; exact sw_size_hit)) hS ?_
    (try simp only [Act.put, List.getElem_toArray, List.getElem_cons_zero, List.getElem_cons_succ, List.setIfInBounds_toArray, List.set_cons_zero, List.set_cons_succ])
    refine wpAnyH_ready (rs := [3]) (by kernel_rfl) (by simp) ?_
    refine AllReadyH.cons rfl (fun K hK => ?_) AllReadyH.nil
    go_simp
    refine (hEx.out _ hS.2).mono ?_
    rintro e w3 ⟨⟨v3, rfl, hv3⟩, hb3⟩
    obtain ⟨A3, c3, rfl, hk3⟩ : ∃ A3 c3, v3 = .slice A3 E.length c3 ∧ OwnB w3 wd.heap.size (.slice A3 E.length c3) E := by obtain ⟨A, c, rfl, -⟩ := own_byt hv3; exact ⟨A, c, rfl, hv3⟩
    go_simp
    refine hK.out _ _ (hS.below hb3) (fun _ => ?_)
    clear hK K
    replace hS := hS.below hb3
    (try simp only [Act.put, List.getElem_toArray, List.getElem_cons_zero, List.getElem_cons_succ, List.setIfInBounds_toArray, List.set_cons_zero, List.set_cons_succ])
    refine wpAnyH_ready (rs := [7]) (by kernel_rfl) (by simp) ?_
    refine AllReadyH.cons rfl (fun K hK => ?_) AllReadyH.nil
    go_simp
    refine (hRx.out _ hS.2).mono ?_
    rintro e w4 ⟨⟨v4, rfl, hv4⟩, hb4⟩
    obtain ⟨A4, c4, rfl, hk4⟩ : ∃ A4 c4, v4 = .slice A4 E.length c4 ∧ OwnB w4 w3.heap.size (.slice A4 E.length c4) E := by obtain ⟨A, c, rfl, -⟩ := own_byt hv4; exact ⟨A, c, rfl, hv4⟩
    have hk5 := hk3.keep hb4
    go_simp
    refine hK.out _ _ (hS.below hb4) (fun _ => ?_)
    clear hK K
    replace hS := hS.below hb4
    (try simp only [Act.put, List.getElem_toArray, List.getElem_cons_zero, List.getElem_cons_succ, List.setIfInBounds_toArray, List.set_cons_zero, List.set_cons_succ])
    refine wpAnyH_ready (rs := [8]) (by kernel_rfl) (by simp) ?_
    refine AllReadyH.cons rfl (fun K hK => ?_) AllReadyH.nil
    go_simp
    obtain ⟨A5, d5, e5, -, z1, z2, z3⟩ := own_byt hk5
    cases e5
    obtain ⟨A6, d6, e6, -, z4, z5, z6⟩ := own_byt hk4
    cases e6
    refine (sameB_any _ _ _ _ _ _ E E _ w4 rfl rfl z1 z4 z2 z3 z6).mono ?_
    rintro e w5 ⟨rfl, q5, rfl⟩
    rw [beq_self_eq_true]
    go_simp
    refine hK.out _ _ (hS.below (below_drewN (Below.refl _ _) q5)) (fun _ => ?_)
    clear hK K
    replace hS := hS.below (below_drewN (Below.refl _ _) q5)
    (try simp only [Act.put, List.getElem_toArray, List.getElem_cons_zero, List.getElem_cons_succ, List.setIfInBounds_toArray, List.set_cons_zero, List.set_cons_succ])
    refine wpAnyH_take (i := 9) (v := ?_) rfl (by kernel_rfl) (by kernel_rfl) (by kernel_rfl) (fun _ _ _ h => h) (Or.inl ⟨by rfl, ?_⟩) hS ?_
    rotate_left
    · (intro w' hS'; go_simp; try with_reducible rfl)
    (try simp only [Act.put, List.getElem_toArray, List.getElem_cons_zero, List.getElem_cons_succ, List.setIfInBounds_toArray, List.set_cons_zero, List.set_cons_succ])
    refine wpAnyH_ready (rs := [10]) (by kernel_rfl) (by simp) ?_
    refine AllReadyH.cons rfl (fun K hK => ?_) AllReadyH.nil
    go_simp
    refine (hW.out _).mono ?_
    rintro e w6 ⟨rfl, hb6⟩
    go_simp
    refine hK.out _ _ (hS.below hb6) (fun _ => ?_)
    clear hK K
    replace hS := hS.below hb6
    (try simp only [Act.put, List.getElem_toArray, List.getElem_cons_zero, List.getElem_cons_succ, List.setIfInBounds_toArray, List.set_cons_zero, List.set_cons_succ])
    refine wpAnyH_take (i := 11) (v := ?_) rfl (by kernel_rfl) (by kernel_rfl) (by kernel_rfl) (fun _ _ _ h => h) (Or.inl ⟨by rfl, ?_⟩) hS ?_
    rotate_left
    · (intro w' hS'; go_simp; try with_reducible rfl)
    (try simp only [Act.put, List.getElem_toArray, List.getElem_cons_zero, List.getElem_cons_succ, List.setIfInBounds_toArray, List.set_cons_zero, List.set_cons_succ])
    refine wpAnyH_take (i := 12) (v := ?_) rfl (by kernel_rfl) (by kernel_rfl) (by kernel_rfl) (fun _ _ _ h => h) (Or.inl ⟨by rfl, ?_⟩) hS ?_
    rotate_left
    · (intro w' hS'; go_simp; try with_reducible rfl)
    (try simp only [Act.put, List.getElem_toArray, List.getElem_cons_zero, List.getElem_cons_succ, List.setIfInBounds_toArray, List.set_cons_zero, List.set_cons_succ])
    refine wpAnyH_done (by kernel_rfl) ?_ _
    go_wp2
    go_ret
    exact ⟨rfl, hS.2⟩
theorem contract (H : Type) (enc : TypeId × Value → H) (W : World) (base : Nat) (args : Array Value) (ds gs : List (DataW H)) (before : List MemPlace)
    (hval : ∀ (j : Nat) t v, Try.f4.params[j]? = some t → args[j]? = some v → Value.okWide Try.prog W .any base t v)
    (hW : DataW.Whole enc Try.prog Try.f4.params.toList Rows.swapExpandsSpec.vars false W args.toList ds gs before) :
    Calls Try.prog 4 args W fun e W' => ∃ v, e = .returned v ∧ Rows.swapExpandsSpec.post enc Try.prog Try.f4 false true false false W args v W' := by
  have hW' := hW
  obtain ⟨p, q, hA, hV, rfl, hfz, hnd⟩ := hW
  rw [Try.params4] at hA hval
  obtain ⟨v0, vs0, d0, ds0, p0, q0, hargs, rfl, rfl, h0, r0⟩ := trodAll_cons hA
  obtain ⟨v1, vs1, d1, ds1, p1, q1, rfl, rfl, rfl, h1, r1⟩ := trodAll_cons r0
  obtain ⟨v2, vs2, d2, ds2, p2, q2, rfl, rfl, rfl, h2, r2⟩ := trodAll_cons r1
  obtain ⟨rfl, rfl, rfl⟩ := trodAll_nil r2
  obtain rfl : args = #[v0, v1, v2] := by cases args; simp_all
  obtain ⟨rfl, rfl⟩ := trodVars_none hV
  obtain ⟨A0, n0, c0, l0, rfl, e0, k0, m0, x0⟩ := open_parts (hval 0 22 v0 rfl rfl) h0
  obtain ⟨A1, n1, c1, l1, rfl, e1, k1, m1, x1⟩ := open_byt Try.underlying26 Try.underlying5 (by kernel_rfl) (hval 1 26 v1 rfl rfl) h1
  obtain ⟨a2, rfl⟩ := open_hit (hval 2 38 v2 rfl rfl) h2
  exact (core W A0 n0 c0 l0 e0 k0 m0 x0 A1 n1 c1 l1 e1 k1 m1 x1 a2).mono fun e W' ⟨he, hb⟩ => ⟨_, he, law_post hW' rfl (by kernel_rfl) (by kernel_rfl) rfl hb⟩

theorem laid_met (os : Os) : laidMetH Try.prog Rows.swapExpandsRow.laid ((World.doorLaid Try.prog 4000 os).forCall (fun _ _ => 0) ⟨#[], #[.slice none 0 0, .slice none 0 0, .agg #[.int .i64 0, .int .i64 0, .int .i64 0, .int .i64 0, .int .i64 0, .int .i64 0, .int .i64 0, .int .i64 0, .int .i64 0, .int .i64 0, .int .i64 0, .int .i64 0, .int .i64 0, .int .i64 0, .int .i64 0, .int .i64 0, .int .i64 0, .int .i64 0, .int .i64 0, .int .i64 0]], []⟩).memory :=
  laidMetH_of_parts3 (fuel := 8) (laidMet_of_run' 8 (by kernel_rfl) (by kernel_rfl)) (by kernel_rfl) (by kernel_rfl)
theorem reads (os : Os) {H : Type} (enc : TypeId × Value → H) : ∃ places, DataW.whole enc Try.prog ((World.doorLaid Try.prog 4000 os).forCall (fun _ _ => 0) ⟨#[], #[.slice none 0 0, .slice none 0 0, .agg #[.int .i64 0, .int .i64 0, .int .i64 0, .int .i64 0, .int .i64 0, .int .i64 0, .int .i64 0, .int .i64 0, .int .i64 0, .int .i64 0, .int .i64 0, .int .i64 0, .int .i64 0, .int .i64 0, .int .i64 0, .int .i64 0, .int .i64 0, .int .i64 0, .int .i64 0, .int .i64 0]], []⟩).memory Try.f4.params.toList Rows.swapExpandsSpec.vars false #[Value.slice none 0 0, .slice none 0 0, .agg #[.int .i64 0, .int .i64 0, .int .i64 0, .int .i64 0, .int .i64 0, .int .i64 0, .int .i64 0, .int .i64 0, .int .i64 0, .int .i64 0, .int .i64 0, .int .i64 0, .int .i64 0, .int .i64 0, .int .i64 0, .int .i64 0, .int .i64 0, .int .i64 0, .int .i64 0, .int .i64 0]].toList 8 = some ([.nil, .nil, .agg [.agg [.agg [.lit (.int .i64 0), .lit (.int .i64 0)], .agg [.lit (.int .i64 0), .lit (.int .i64 0)], .agg [.lit (.int .i64 0), .lit (.int .i64 0)], .agg [.lit (.int .i64 0), .lit (.int .i64 0)], .agg [.lit (.int .i64 0), .lit (.int .i64 0)], .agg [.lit (.int .i64 0), .lit (.int .i64 0)], .agg [.lit (.int .i64 0), .lit (.int .i64 0)], .agg [.lit (.int .i64 0), .lit (.int .i64 0)], .agg [.lit (.int .i64 0), .lit (.int .i64 0)], .agg [.lit (.int .i64 0), .lit (.int .i64 0)]]]], [], places) :=
  ⟨[], by kernel_rfl⟩

set_option maxRecDepth 100000 in
theorem lifted (os : Os) (started : os.Started) (H : Type) (enc : TypeId × Value → H) (F : Stop.Interp) :
    ReturnsInHanded {} Try.checked os 4 .any ((OpenSpec.ofChange Rows.swapExpandsSpec).preRow enc Try.prog Try.f4 Rows.swapExpandsRow.domain false Rows.swapExpandsRow.laid) (((OpenSpec.ofChange Rows.swapExpandsSpec).at F).post enc Try.prog Try.f4 false true false false) := by
  obtain ⟨places, hx⟩ := reads os enc
  refine returnsInHanded_of_row (C := Try.checked) (s := (OpenSpec.ofChange Rows.swapExpandsSpec)) own started (by kernel_rfl) Try.func4
    (witness_row_at (enc := enc) (C := Try.checked) false (World.doorLaid Try.prog 4000 os) #[.slice none 0 0, .slice none 0 0, .agg #[.int .i64 0, .int .i64 0, .int .i64 0, .int .i64 0, .int .i64 0, .int .i64 0, .int .i64 0, .int .i64 0, .int .i64 0, .int .i64 0, .int .i64 0, .int .i64 0, .int .i64 0, .int .i64 0, .int .i64 0, .int .i64 0, .int .i64 0, .int .i64 0, .int .i64 0, .int .i64 0]] rfl (by kernel_rfl) (by kernel_rfl) (by kernel_rfl)
      (OpenSpec.preRow_of_cond 8 hx (by kernel_rfl) (fun k hk => by cases hk) (by kernel_rfl) (laid_met os))) ?_
  intro W base args ds gs before hval hW _ _ _ _ _ _
  exact contract H enc W base args ds gs before hval hW

theorem said : Rows.SwapExpandsSaid :=
  OpenClaim.holds_of_cond 4 Try.f4 rfl rfl rfl rfl rfl rfl rfl ⟨rfl, rfl, rfl, rfl, rfl⟩ rfl rfl rfl rfl rfl (by kernel_rfl) Try.func4 (by kernel_rfl)
    (of_decide_eq_true (by kernel_rfl)) (by unfold Func.isWrapper; first | (rw [if_pos (by decide +kernel)]; kernel_rfl) | (rw [if_neg (by decide +kernel)]; exact ⟨rfl, rfl⟩))
    (fun os started H enc _ F => by rw [OpenClaim.pre_eq_preRow]; exact lifted os started H enc F)

end Go.Proofs.Ytgkemjjdgpoacaa.Exp13
