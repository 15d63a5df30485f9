/- The statement RetextSound: the law returns true for every regular expression and either kind, and changes nothing that was there. No condition but what its row lists. -/
import Derived.Test.YtonjnagcdnmcpaaGreatDoorMS
import Derived.Test.YtonjnagcdnmcpaaGreatDoorTie
import Derived.Test.YtonjnagcdnmcpaaGreatDoorCards
set_option linter.unusedVariables false
set_option linter.unusedSimpArgs false
set_option maxRecDepth 100000
namespace Go.Proofs.YtonjnagcdnmcpaaGreatDoor.RSound
open Go.ChangeShapes Go.WideShapes Go.ChangeAt Go.RowKit

set_option maxHeartbeats 16000000 in
theorem core (W : World) (A : Option Addr) (n c : Nat) (ns : List Nod) (g : Int) (hn : n = ns.length) (hnc : n ≤ c) (hcm : c ≤ maxLen) (hb : Nods W W.heap.size A ns) (x : Bool) (hT : Tab W) (hg : 1 < W.heap.size) (hm : Mx W) :
    Calls Tryz.prog 5 #[.agg #[.slice A n c, .int .i64 g], .bool x] W fun e w' => e = .returned (.bool true) ∧ Below W.heap.size W w' := by
  have hAw := Lib.hid (fun (w : World) (hb : Below W.heap.size W w) => awake_rx w (hT.below hb hg) (Nat.lt_of_lt_of_le hg hb.size) (hm.grow hb))
  have hb0 := (Below.refl W.heap.size W).alloc (Nat.le_refl _) (.cells #[.slice A n c, .int .i64 g] 26)
  have h0 := Lib.hid (show StI W.heap.size (W.alloc (.cells #[.slice A n c, .int .i64 g] 26)) A n c g ns W.heap.size from ⟨held_new _ _ _, hb.below hb0, hb0.size⟩)
  by_cases hbig : 60 < n
  · replace hb0 := Lib.hid hb0
    clear hn hb hnc hcm hm hT hg h0
    go_enter Tryz.func5, Tryz.ntmps5
    go_wp2_with (go_at_call 7; refine (hAw.out _ hb0.out).mono ?_; rintro e w1 ⟨rfl, hb1⟩)
    go_ret
    exact ⟨rfl, hb0.out.trans (hb1.mono hb0.out.size)⟩
  have hl : ns.length ≤ 249 := by omega
  have hTx := Lib.hid (fun (w : World) (hbw : Below W.heap.size W w) (h : StI W.heap.size w A n c g ns W.heap.size) => rtext_any x A n c ns g W.heap.size w hn hnc hcm h.base h.nods hl (hT.below hbw hg) (Nat.lt_of_lt_of_le hg hbw.size) (hm.grow hbw))
  have hRt := Lib.hid (fun (hh : HasT x ns g) (w : World) (h : StI W.heap.size w A n c g ns W.heap.size) => (by
    obtain ⟨q, rfl⟩ := Int.eq_ofNat_of_zero_le (rightN_len hh.1).2.2.1
    exact refRight_yes A n c ns q W.heap.size w hn hnc hcm h.base h.nods hh.1 : Calls Tryz.prog 13 #[.agg #[.slice A n c, .int .i64 g]] w fun e w' => e = .returned (.bool true) ∧ Below w.heap.size w w'))
  have hIs := Lib.hid (fun (hh : HasT x ns g) (w : World) (hbw : Below W.heap.size W w) (h : StI W.heap.size w A n c g ns W.heap.size) (A2 : Addr) (c2 : Nat) (ht : TextAt w (.slice (some A2) (wrT x ns).length c2) (wrT x ns)) => is_text x hh ht hl (hm.grow hbw) A n c W.heap.size hn hnc hcm h.base h.nods)
  obtain ⟨i0, i1⟩ := h0.out.cells
  replace hb0 := Lib.hid hb0
  clear hn hb hnc hcm hm hT hg hl
  go_enter Tryz.func5, Tryz.ntmps5
  go_wp2_with (first
    | (go_at_call 11; refine (hTx.out _ hb0.out h0.out).mono ?_; intro e w2 hy; rcases hy with ⟨v, rfl, hh, htx, hb2⟩ | ⟨rfl, hh, hb2⟩
       all_goals first
         | (obtain ⟨A2, c2, rfl, -, -, -⟩ := id htx; have h2 := Lib.hid (h0.out.keep hb2); obtain ⟨z0, z1⟩ := h2.out.cells; have hbB := Lib.hid (hb0.out.trans (hb2.mono hb0.out.size)); replace htx := Lib.hid htx; replace hh := Lib.hid hh; clear hb2)
         | (have hbD := Lib.hid (hb0.out.trans (hb2.mono hb0.out.size)); clear hb2 hh))
    | (go_at_call 13; refine (hRt.out hh.out _ h2.out).mono ?_; rintro e w3 ⟨rfl, hb3⟩; have h3 := Lib.hid (h2.out.keep hb3); obtain ⟨y0, y1⟩ := h3.out.cells; have hbC := Lib.hid (hbB.out.trans (hb3.mono hbB.out.size)); have htx3 := Lib.hid (htx.out.keep hb3); clear hb3)
    | (go_at_call 12; refine (hIs.out hh.out _ hbC.out h3.out A2 c2 htx3.out).mono ?_; rintro e w4 ⟨rfl, hb4⟩; have hbD := Lib.hid (hbC.out.trans (hb4.mono hbC.out.size)); clear hb4)
    | (go_at_call 7; refine (hAw.out _ hbD.out).mono ?_; rintro e w6 ⟨rfl, hb6⟩; replace hb6 := Lib.hid (hbD.out.trans (hb6.mono hbD.out.size))))
  all_goals
    go_ret
    exact ⟨rfl, hb6.out⟩
theorem tab_of {W : World} (h : laidMetH Tryz.prog Rows.retextSoundRow.laid W) : Tab W ∧ 1 < W.heap.size := by
  rw [MakeChecks.laidMetH_plain _ _ _ (by kernel_rfl)] at h
  have h3 := h.tail.tail
  have ht : Tab W := Lib.tabIs_of_head (rest := []) gPow0 (by kernel_rfl) Tryz.underlying176 Tryz.underlying39 (by kernel_rfl) (by kernel_rfl) h3
  exact ⟨ht, World.block_lt_of_cell? _ _ (ht.cell gPow0 0 (by decide))⟩

theorem contract (H : Type) (enc : TypeId × Value → H) (W : World) (base : Nat) (args : Array Value) (ds gs : List (DataW H)) (before : List MemPlace)
    (hval : ∀ (j : Nat) t v, Tryz.f5.params[j]? = some t → args[j]? = some v → Value.okWide Tryz.prog W .any base t v)
    (hW : DataW.Whole enc Tryz.prog Tryz.f5.params.toList Rows.retextSoundSpec.vars false W args.toList ds gs before) (hL : laidMetH Tryz.prog Rows.retextSoundRow.laid W) (hsh : W.ShapedOpen Tryz.prog) :
    Calls Tryz.prog 5 args W fun e W' => ∃ v, e = .returned v ∧ Rows.retextSoundSpec.post enc Tryz.prog Tryz.f5 false true false false W args v W' := by
  have hW' := hW
  obtain ⟨p, q, hA, hV, rfl, hfz, hnd⟩ := hW
  rw [Tryz.params5] at hA hval
  obtain ⟨v0, vs0, d0, ds0, p0, q0, hargs, rfl, rfl, h0, r0⟩ := trodAll_cons hA
  obtain ⟨v1, vs1, d1, ds1, p1, q1, rfl, rfl, rfl, h1, r1⟩ := trodAll_cons r0
  obtain ⟨rfl, rfl, rfl⟩ := trodAll_nil r1
  obtain rfl : args = #[v0, v1] := by cases args; simp_all
  obtain ⟨rfl, rfl⟩ := trodVars_none hV
  obtain ⟨A0, n0, c0, l0, g0, rfl, e0, k0, m0, x0⟩ := open_re (hval 0 26 v0 rfl rfl) h0
  obtain ⟨a1, rfl, rfl, rfl⟩ := open_bool Tryz.underlying4 (hval 1 4 v1 rfl rfl) h1
  obtain ⟨ht, hg⟩ := tab_of hL
  have hmx := max_of hsh
  exact (core W A0 n0 c0 l0 g0 e0 k0 m0 x0 a1 ht hg hmx).mono fun e W' ⟨he, hb⟩ => ⟨_, he, law_post hW' rfl (by kernel_rfl) (by kernel_rfl) rfl hb⟩

theorem laid_met (os : Os) : laidMetH Tryz.prog Rows.retextSoundRow.laid ((World.doorLaid Tryz.prog 4000 os).forCall (fun _ _ => 0) ⟨#[], #[.agg #[.slice none 0 0, .int .i64 0], .bool false], []⟩).memory :=
  laidMetH_of_parts3 (fuel := 8) (laidMet_of_run' 8 (by kernel_rfl) (by kernel_rfl)) (by kernel_rfl) (by kernel_rfl)
theorem reads (os : Os) {H : Type} (enc : TypeId × Value → H) : ∃ places, DataW.whole enc Tryz.prog ((World.doorLaid Tryz.prog 4000 os).forCall (fun _ _ => 0) ⟨#[], #[.agg #[.slice none 0 0, .int .i64 0], .bool false], []⟩).memory Tryz.f5.params.toList Rows.retextSoundSpec.vars false #[Value.agg #[.slice none 0 0, .int .i64 0], .bool false].toList 8 = some ([.agg [.nil, .lit (.int .i64 0)], .lit (.bool false)], [], places) :=
  ⟨[], by kernel_rfl⟩

set_option maxRecDepth 100000 in
theorem lifted (os : Os) (started : os.Started) (H : Type) (enc : TypeId × Value → H) (F : Stop.Interp) :
    ReturnsInHanded {} Tryz.checked os 5 .any ((OpenSpec.ofChange Rows.retextSoundSpec).preRow enc Tryz.prog Tryz.f5 Rows.retextSoundRow.domain false Rows.retextSoundRow.laid) (((OpenSpec.ofChange Rows.retextSoundSpec).at F).post enc Tryz.prog Tryz.f5 false true false false) := by
  obtain ⟨places, hx⟩ := reads os enc
  refine returnsInHanded_of_row (C := Tryz.checked) (s := (OpenSpec.ofChange Rows.retextSoundSpec)) own started (by kernel_rfl) Tryz.func5
    (witness_row_at (enc := enc) (C := Tryz.checked) false (World.doorLaid Tryz.prog 4000 os) #[.agg #[.slice none 0 0, .int .i64 0], .bool false] rfl (by kernel_rfl) (by kernel_rfl) (by kernel_rfl)
      (OpenSpec.preRow_of_cond 8 hx (by kernel_rfl) (fun k hk => by cases hk) (by kernel_rfl) (laid_met os))) ?_
  intro W base args ds gs before hval hW _ _ _ hL hsh _
  exact contract H enc W base args ds gs before hval hW hL hsh

theorem said : Rows.RetextSoundSaid :=
  OpenClaim.holds_of_cond 5 Tryz.f5 rfl rfl rfl rfl rfl rfl rfl ⟨rfl, rfl, rfl, rfl, rfl⟩ rfl rfl rfl rfl rfl (by kernel_rfl) Tryz.func5 (by kernel_rfl)
    (of_decide_eq_true (by kernel_rfl)) (by unfold Func.isWrapper; first | (rw [if_pos (by decide +kernel)]; kernel_rfl) | (rw [if_neg (by decide +kernel)]; exact ⟨rfl, rfl⟩))
    (fun os started H enc _ F => by rw [OpenClaim.pre_eq_preRow]; exact lifted os started H enc F)

theorem plain (f : FuncId) (fn : Func) (hf : Tryz.pinned.checked.prog.funcNamed "palinode/palinodelaw10.RetextSound" = some f) (hfn : Tryz.pinned.checked.prog.funcs[f]? = some fn) :
    false = Tryz.pinned.checked.prog.looks [] ∧ ∀ (j : Nat) t, fn.params[j]? = some t → Tryz.pinned.checked.prog.wantsStandIn t = false := by
  obtain rfl : f = 5 := Option.some.inj ((show Tryz.prog.funcNamed "palinode/palinodelaw10.RetextSound" = some 5 by kernel_rfl).symm.trans hf) |>.symm
  obtain rfl : fn = Tryz.f5 := (Option.some.inj (Tryz.func5.symm.trans hfn)).symm
  refine ⟨by kernel_rfl, fun j t ht => ?_⟩
  rw [Tryz.params5] at ht
  have hm : t ∈ [26, 4] := by simpa using Array.mem_of_getElem? ht
  have hall : ([26, 4].all fun u => !Tryz.prog.wantsStandIn u) = true := by kernel_rfl
  exact (show Tryz.prog.wantsStandIn t = false by simpa using List.all_eq_true.1 hall t hm)

theorem card : Rows.RetextSoundCardSaid :=
  Claim7.holds_tied_plain_at .later [] _ _ _ _ said (fun _ h => by cases h) (by kernel_rfl) (fun _ h => by cases h) retextSound_row_tie rfl ⟨rfl, rfl⟩ (by kernel_rfl) rfl plain (by kernel_rfl)

end Go.Proofs.YtonjnagcdnmcpaaGreatDoor.RSound
