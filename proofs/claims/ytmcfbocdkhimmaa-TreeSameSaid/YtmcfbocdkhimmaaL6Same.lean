/- TreeSame answers true at every two regular expressions, and they read afterwards as they read before. Conditions: none. -/
import Derived.Test.YtmcfbocdkhimmaaFrame
import Derived.Test.YtmcfbocdkhimmaaTreM
import Derived.Test.YtmcfbocdkhimmaaTreR
import Derived.Deep.RegionHeld3
set_option linter.unusedVariables false
namespace Go.Proofs.Ytmcfbocdkhimmaa.Same
open Go.ChangeShapes Go.WideShapes Go.ChangeAt Go.RowKit

theorem cells2 {w : World} {B : Nat} {t : TypeId} {v0 v1 : Value} (h : Held w B t #[v0, v1]) : w.cell? ⟨B, 0, none⟩ = some v0 ∧ w.cell? ⟨B, 1, none⟩ = some v1 := ⟨h.at_ rfl, h.at_ rfl⟩
set_option maxRecDepth 100000 in
set_option maxHeartbeats 8000000 in
theorem core (W : World) (A1 : Option Addr) (n1 c1 : Nat) (l1 : List Nod) (g1 : Int) (hn1 : n1 = l1.length) (hc1 : n1 ≤ c1) (hm1 : c1 ≤ maxLen) (h1 : Nods W W.heap.size A1 l1)
    (A2 : Option Addr) (n2 c2 : Nat) (l2 : List Nod) (g2 : Int) (hn2 : n2 = l2.length) (hc2 : n2 ≤ c2) (hm2 : c2 ≤ maxLen) (h2 : Nods W W.heap.size A2 l2) :
    Calls Try.prog 3 #[.agg #[.slice A1 n1 c1, .int .i64 g1], .agg #[.slice A2 n2 c2, .int .i64 g2]] W fun e W' => e = .returned (.bool true) ∧ Below W.heap.size W W' := by
  have hW := Lib.hid awake_any
  have hT := Lib.hid (fun w (hb : Below W.heap.size W w) => treeSame_any A1 A2 n1 c1 n2 c2 g1 g2 l1 l2 W.heap.size w hn1 hn2 hc1 hc2 hm1 hb.size (h1.below hb) (h2.below hb))
  have hR := Lib.hid (fun w (hb : Below W.heap.size W w) => refSame_any A1 A2 n1 c1 n2 c2 g1 g2 l1 l2 W.heap.size w hn1 hn2 hc1 hc2 hm1 hb.size (h1.below hb) (h2.below hb))
  have hS := Lib.hid (fun w (hb : Below W.heap.size W w) => treeSame_any A1 A1 n1 c1 n1 c1 g1 g1 l1 l1 W.heap.size w hn1 hn1 hc1 hc1 hm1 hb.size (h1.below hb) (h1.below hb))
  rw [sameNs_self, show decide (g1 = g1) = true by simp] at hS
  have hx1 := Lib.hid ((held_new W 24 #[.slice A1 n1 c1, .int .i64 g1]).alloc (.cells #[.slice A2 n2 c2, .int .i64 g2] 24))
  have hx2 := Lib.hid (held_new2 W (.cells #[.slice A1 n1 c1, .int .i64 g1] 24) 24 #[.slice A2 n2 c2, .int .i64 g2])
  have hb0 := Lib.hid (alloc2_below W (.cells #[.slice A1 n1 c1, .int .i64 g1] 24) (.cells #[.slice A2 n2 c2, .int .i64 g2] 24))
  generalize (decide (g1 = g2) && sameNs l1 l2) = sm at *
  clear hn1 hn2 h1 h2
  by_cases hbig : 100 < n1 ∨ 100 < n2
  · have hm1' := hm1
    unfold maxLen at hm1 hm2
    rcases hbig with hbig | hbig
    · go_enter Try.func3, Try.ntmps3
      go_wp2_with (go_at_call 5; refine (hW.out _).mono ?_; rintro e w1 ⟨rfl, hb1⟩)
      go_ret
      exact ⟨rfl, hb0.out.trans (hb1.mono hb0.out.size)⟩
    · by_cases hb2 : 100 < n1
      · go_enter Try.func3, Try.ntmps3
        go_wp2_with (go_at_call 5; refine (hW.out _).mono ?_; rintro e w1 ⟨rfl, hb1⟩)
        go_ret
        exact ⟨rfl, hb0.out.trans (hb1.mono hb0.out.size)⟩
      · go_enter Try.func3, Try.ntmps3
        go_wp2_with (go_at_call 5; refine (hW.out _).mono ?_; rintro e w1 ⟨rfl, hb1⟩)
        go_ret
        exact ⟨rfl, hb0.out.trans (hb1.mono hb0.out.size)⟩
  · have hs1 : n1 ≤ 100 := by omega
    have hs2 : n2 ≤ 100 := by omega
    unfold maxLen at hm1 hm2
    clear hbig
    go_enter Try.func3, Try.ntmps3
    go_wp2
    have hy1 := Lib.hid hx1.out.drew
    have hy2 := Lib.hid hx2.out.drew
    have hbW := Lib.hid hb0.out.drew
    clear hx1 hx2 hb0
    have hsm : (sm == sm) = true := by cases sm <;> rfl
    go_region_held3 (fun w' => w'.cell? ⟨W.heap.size, 0, none⟩ = some (.slice A1 n1 c1) ∧ w'.cell? ⟨W.heap.size, 1, none⟩ = some (.int .i64 g1) ∧ w'.cell? ⟨W.heap.size + 1, 0, none⟩ = some (.slice A2 n2 c2) ∧ w'.cell? ⟨W.heap.size + 1, 1, none⟩ = some (.int .i64 g2))
      (first | exact ⟨(cells2 hy1.out).1, (cells2 hy1.out).2, cells2 hy2.out⟩ | go_keep)
      (first
      | (go_at_call 7; refine (hR.out _ hbW.out).mono ?_; rintro e w3 ⟨rfl, hb⟩; replace hy1 := Lib.hid (hy1.out.keep hb); replace hy2 := Lib.hid (hy2.out.keep hb); replace hbW := Lib.hid (hbW.out.trans (hb.mono hbW.out.size)))
      | (go_at_call 6; (with_reducible refine (hS.out _ hbW.out).mono ?_); rintro e w4 ⟨rfl, hb⟩; replace hy1 := Lib.hid (hy1.out.keep hb); replace hy2 := Lib.hid (hy2.out.keep hb); replace hbW := Lib.hid (hbW.out.trans (hb.mono hbW.out.size)))
      | (go_at_call 6; refine (hT.out _ hbW.out).mono ?_; rintro e w5 ⟨rfl, hb⟩; replace hy1 := Lib.hid (hy1.out.keep hb); replace hy2 := Lib.hid (hy2.out.keep hb); replace hbW := Lib.hid (hbW.out.trans (hb.mono hbW.out.size)))
      | (go_at_call 5; refine (hW.out _).mono ?_; rintro e w6 ⟨rfl, hb⟩; replace hy1 := Lib.hid (hy1.out.keep hb); replace hy2 := Lib.hid (hy2.out.keep hb); replace hbW := Lib.hid (hbW.out.trans (hb.mono hbW.out.size))))
    all_goals
      go_wp2
      go_ret
      exact ⟨rfl, hbW.out⟩
theorem contract (H : Type) (enc : TypeId × Value → H) (W : World) (base : Nat) (args : Array Value) (ds gs : List (DataW H)) (before : List MemPlace)
    (hval : ∀ (j : Nat) t v, Try.f3.params[j]? = some t → args[j]? = some v → Value.okWide Try.prog W .any base t v)
    (hW : DataW.Whole enc Try.prog Try.f3.params.toList Rows.treeSameSpec.vars false W args.toList ds gs before) :
    Calls Try.prog 3 args W fun e W' => ∃ v, e = .returned v ∧ Rows.treeSameSpec.post enc Try.prog Try.f3 false true false false W args v W' := by
  have hW' := hW
  obtain ⟨p, q, hA, hV, rfl, hfz, hnd⟩ := hW
  rw [Try.params3] at hA hval
  obtain ⟨v0, vs0, d0, ds0, p0, q0, hargs, rfl, rfl, h0, r0⟩ := trodAll_cons hA
  obtain ⟨v1, vs1, d1, ds1, p1, q1, rfl, rfl, rfl, h1, r1⟩ := trodAll_cons r0
  obtain ⟨rfl, rfl, rfl⟩ := trodAll_nil r1
  obtain rfl : args = #[v0, v1] := by cases args; simp_all
  obtain ⟨rfl, rfl⟩ := trodVars_none hV
  obtain ⟨A0, n0, c0, l0, g0, rfl, e0, k0, m0, x0⟩ := open_re (hval 0 24 v0 rfl rfl) h0
  obtain ⟨A1, n1, c1, l1, g1, rfl, e1, k1, m1, x1⟩ := open_re (hval 1 24 v1 rfl rfl) h1
  exact (core W A0 n0 c0 l0 g0 e0 k0 m0 x0 A1 n1 c1 l1 g1 e1 k1 m1 x1).mono fun e W' ⟨he, hb⟩ => ⟨_, he, law_post hW' rfl (by kernel_rfl) (by kernel_rfl) rfl hb⟩

theorem laid_met (os : Os) : laidMetH Try.prog Rows.treeSameRow.laid ((World.doorLaid Try.prog 4000 os).forCall (fun _ _ => 0) ⟨#[], #[.agg #[.slice none 0 0, .int .i64 0], .agg #[.slice none 0 0, .int .i64 0]], []⟩).memory :=
  laidMetH_of_parts3 (fuel := 8) (laidMet_of_run' 8 (by kernel_rfl) (by kernel_rfl)) (by kernel_rfl) (by kernel_rfl)
theorem reads (os : Os) {H : Type} (enc : TypeId × Value → H) : ∃ places, DataW.whole enc Try.prog ((World.doorLaid Try.prog 4000 os).forCall (fun _ _ => 0) ⟨#[], #[.agg #[.slice none 0 0, .int .i64 0], .agg #[.slice none 0 0, .int .i64 0]], []⟩).memory Try.f3.params.toList Rows.treeSameSpec.vars false #[Value.agg #[.slice none 0 0, .int .i64 0], .agg #[.slice none 0 0, .int .i64 0]].toList 8 = some ([.agg [.nil, .lit (.int .i64 0)], .agg [.nil, .lit (.int .i64 0)]], [], places) :=
  ⟨[], by kernel_rfl⟩

set_option maxRecDepth 100000 in
theorem lifted (os : Os) (started : os.Started) (H : Type) (enc : TypeId × Value → H) (F : Stop.Interp) :
    ReturnsInHanded {} Try.checked os 3 .any ((OpenSpec.ofChange Rows.treeSameSpec).preRow enc Try.prog Try.f3 Rows.treeSameRow.domain false Rows.treeSameRow.laid) (((OpenSpec.ofChange Rows.treeSameSpec).at F).post enc Try.prog Try.f3 false true false false) := by
  obtain ⟨places, hx⟩ := reads os enc
  refine returnsInHanded_of_row (C := Try.checked) (s := (OpenSpec.ofChange Rows.treeSameSpec)) own started (by kernel_rfl) Try.func3
    (witness_row_at (enc := enc) (C := Try.checked) false (World.doorLaid Try.prog 4000 os) #[.agg #[.slice none 0 0, .int .i64 0], .agg #[.slice none 0 0, .int .i64 0]] rfl (by kernel_rfl) (by kernel_rfl) (by kernel_rfl)
      (OpenSpec.preRow_of_cond 8 hx (by kernel_rfl) (fun k hk => by cases hk) (by kernel_rfl) (laid_met os))) ?_
  intro W base args ds gs before hval hW _ _ _ _ _ _
  exact contract H enc W base args ds gs before hval hW

theorem said : Rows.TreeSameSaid :=
  OpenClaim.holds_of_cond 3 Try.f3 rfl rfl rfl rfl rfl rfl rfl ⟨rfl, rfl, rfl, rfl, rfl⟩ rfl rfl rfl rfl rfl (by kernel_rfl) Try.func3 (by kernel_rfl)
    (of_decide_eq_true (by kernel_rfl)) (by unfold Func.isWrapper; first | (rw [if_pos (by decide +kernel)]; kernel_rfl) | (rw [if_neg (by decide +kernel)]; exact ⟨rfl, rfl⟩))
    (fun os started H enc _ F => by rw [OpenClaim.pre_eq_preRow]; exact lifted os started H enc F)

end Go.Proofs.Ytmcfbocdkhimmaa.Same
