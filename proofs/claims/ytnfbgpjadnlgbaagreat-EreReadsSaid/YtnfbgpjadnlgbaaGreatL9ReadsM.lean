/- The statement EreReads: the law returns true for every slice of bytes, and changes nothing that was there. No condition. -/
import Derived.Test.YtnfbgpjadnlgbaaGreatM01
import Derived.Test.YtnfbgpjadnlgbaaGreatM55
import Derived.Test.YtnfbgpjadnlgbaaGreatM43
set_option linter.unusedVariables false
set_option linter.unusedSimpArgs false
set_option maxRecDepth 100000
namespace Go.Proofs.YtnfbgpjadnlgbaaGreat.EReads
open Go.ChangeShapes Go.WideShapes Go.ChangeAt Go.RowKit

set_option maxHeartbeats 16000000 in
theorem core (W : World) (A : Option Addr) (n c : Nat) (l : List UInt8) (hn : n = l.length) (hnc : n ≤ c) (hcm : c ≤ maxLen) (hb : Byt W W.heap.size A l) (hm : Mx W) :
    Calls Tryz.prog 4 #[.slice A n c] W fun e w' => e = .returned (.bool true) ∧ Below W.heap.size W w' := by
  have hAw := Lib.hid (fun (w : World) (hm : Mx w) => awake_ere w hm)
  have hm' := Lib.hid hm
  by_cases hbig : 80 < n
  · clear hn hb hnc hcm hm
    go_enter Tryz.func4, Tryz.ntmps4
    go_wp2_with (go_at_call 10; refine (hAw.out _ hm'.out).mono ?_; rintro e w1 ⟨rfl, hb1⟩)
    go_ret
    exact ⟨rfl, hb1⟩
  have hI := Inp.of hm'.out hn hnc hcm (by omega) hb
  have hP := Lib.hid (eparse_any hI (by omega))
  have hQ := Lib.hid (fun w1 (hb1 : Below W.heap.size W w1) => rext_any (hI.grow hb1) (by omega))
  clear hm
  by_cases hf : ∃ ns g, EndX l (.fin ns g)
  · obtain ⟨ns, g, he⟩ := hf
    have hfo := Lib.hid (fun w w' e h => fin_outE (w := w) (w' := w') (e := e) he h)
    obtain ⟨N, hN⟩ : ∃ N, N = ns.length := ⟨_, rfl⟩
    rw [← hN] at hfo
    replace hN := Lib.hid hN
    clear hn hb hnc hcm hI he
    go_enter Tryz.func4, Tryz.ntmps4
    go_wp2_with (first
      | (go_at_call 11; refine (hP.out).mono ?_; intro e w1 hy; obtain ⟨A1, k1, rfl, hr1, hk1, hm1, hN1, hb1⟩ := hfo.out _ _ _ hy; clear hy; have hbA := hb1.alloc hb1.size (.cells #[.slice A1 N k1, .int .i64 (g : Int)] 26); have hR1 := Lib.hid (held_new w1 26 #[.slice A1 N k1, .int .i64 (g : Int)]); have hNa := Lib.hid ((hN1.below ((Below.refl _ _).alloc (Nat.le_refl _) (.cells #[.slice A1 N k1, .int .i64 (g : Int)] 26))).more (show w1.heap.size ≤ (w1.alloc (.cells #[.slice A1 N k1, .int .i64 (g : Int)] 26)).heap.size by simp)); replace hbA := Lib.hid hbA; replace hr1 := Lib.hid hr1; clear hN1 hb1)
      | (go_at_call 12; refine (hQ.out _ hbA.out).mono ?_; intro e w2 hy; obtain ⟨A2, k2, rfl, -, hk2, hm2, hN2, hb2⟩ := hfo.out _ _ _ hy; clear hy; have hR1b := hR1.out.keep hb2; have hNb := Lib.hid ((hNa.out.below hb2).more hb2.size); have hR1c := hR1b.alloc (.cells #[.slice A2 N k2, .int .i64 (g : Int)] 26); have hR2c := held_new w2 26 #[.slice A2 N k2, .int .i64 (g : Int)]; have z0 := hR1c.at_ (i := 0) rfl; have z1 := hR1c.at_ (i := 1) rfl; have y0 := hR2c.at_ (i := 0) rfl; have y1 := hR2c.at_ (i := 1) rfl; have hal := (Below.refl w2.heap.size w2).alloc (Nat.le_refl _) (.cells #[.slice A2 N k2, .int .i64 (g : Int)] 26); have hNc := Lib.hid (hNb.out.below hal); have hNd := Lib.hid (hN2.below hal); have hbC := Lib.hid ((hbA.out.trans (hb2.mono hbA.out.size)).trans (hal.mono (hbA.out.trans (hb2.mono hbA.out.size)).size)); have hsz := Lib.hid hal.size; replace hR1c := Lib.hid hR1c; replace hR2c := Lib.hid hR2c; clear hR1b hN2 hb2 hal)
      | (go_at_call 8; refine (refSame_any A1 A2 N k1 N k2 (g : Int) (g : Int) ns ns w2.heap.size _ hN.out hN.out hk1 hk2 hm1 hsz.out hNc.out hNd.out).mono ?_; rintro e w4 ⟨rfl, hb4⟩; rw [sameNs_self, decide_eq_true rfl, Bool.and_true]; have z0b := (hR1c.out.keep hb4).at_ (i := 0) rfl; have z1b := (hR1c.out.keep hb4).at_ (i := 1) rfl; have hNe := Lib.hid (hNc.out.below (hb4.mono hsz.out)); have hsz4 := Lib.hid (Nat.le_trans hsz.out hb4.size); have hbD := Lib.hid (hbC.out.trans (hb4.mono hbC.out.size)))
      | (go_at_call 9; refine (refRight_yes A1 N k1 ns g w2.heap.size _ hN.out hk1 hm1 hsz4.out hNe.out hr1.out).mono ?_; rintro e w5 ⟨rfl, hb5⟩; have hbE := Lib.hid (hbD.out.trans (hb5.mono hbD.out.size)))
      | (go_at_call 10; refine (hAw.out _ (hm'.out.grow hbE.out)).mono ?_; rintro e w6 ⟨rfl, hb6⟩; replace hb6 := Lib.hid (hbE.out.trans (hb6.mono hbE.out.size))))
    go_ret
    exact ⟨rfl, hb6.out⟩
  · by_cases hq : ∃ p q : Nat, q ≠ 0 ∧ EndX l (.bad p q)
    · obtain ⟨p, q, hq0, he⟩ := hq
      have hbo := Lib.hid (fun w w' e h => bad_outE (w := w) (w' := w') (e := e) he h)
      have hd : ((q : Int) != 0) = true := by rw [bne_iff_ne]; omega
      clear hn hb hnc hcm hI he hf hq0
      go_enter Tryz.func4, Tryz.ntmps4
      go_wp2_with (first
        | (go_at_call 11; refine (hP.out).mono ?_; intro e w1 hy; obtain ⟨rfl, hb1⟩ := hbo.out _ _ _ hy; clear hy; have hbA := Lib.hid (hb1.alloc hb1.size (.cells #[.slice none 0 0, .int .i64 0] 26)); have hR1 := Lib.hid (held_new w1 26 #[.slice none 0 0, .int .i64 0]); clear hb1)
        | (go_at_call 12; refine (hQ.out _ hbA.out).mono ?_; intro e w2 hy; obtain ⟨rfl, hb2⟩ := hbo.out _ _ _ hy; clear hy; have hR1c := (hR1.out.keep hb2).alloc (.cells #[.slice none 0 0, .int .i64 0] 26); have hR2c := held_new w2 26 #[.slice none 0 0, .int .i64 0]; have z0 := hR1c.at_ (i := 0) rfl; have z1 := hR1c.at_ (i := 1) rfl; have y0 := hR2c.at_ (i := 0) rfl; have y1 := hR2c.at_ (i := 1) rfl; have hal := (Below.refl w2.heap.size w2).alloc (Nat.le_refl _) (.cells #[.slice none 0 0, .int .i64 0] 26); have hbC := Lib.hid ((hbA.out.trans (hb2.mono hbA.out.size)).trans (hal.mono (hbA.out.trans (hb2.mono hbA.out.size)).size)); have hsz := Lib.hid hal.size; clear hR1c hR2c hb2 hal)
        | (go_at_call 8; refine (refSame_any none none 0 0 0 0 0 0 [] [] w2.heap.size _ rfl rfl (Nat.le_refl _) (Nat.le_refl _) (by simp [maxLen]) hsz.out (Nods.none_ _ _ _) (Nods.none_ _ _ _)).mono ?_; rintro e w4 ⟨rfl, hb4⟩; rw [sameNs_self, decide_eq_true rfl, Bool.and_true]; have hbD := Lib.hid (hbC.out.trans (hb4.mono hbC.out.size)))
        | (go_at_call 10; refine (hAw.out _ (hm'.out.grow hbD.out)).mono ?_; rintro e w6 ⟨rfl, hb6⟩; replace hb6 := Lib.hid (hbD.out.trans (hb6.mono hbD.out.size))))
      go_ret
      exact ⟨rfl, hb6.out⟩
    · have hno := Lib.hid (show ∀ e w', ¬ PResE W l e w' from fun e w' h => by
        rcases prese_ends h with h | ⟨p, q, h0, h1⟩
        · exact hf h
        · exact hq ⟨p, q, h0, h1⟩)
      clear hn hb hnc hcm hI hf hq hQ
      go_enter Tryz.func4, Tryz.ntmps4
      go_wp2_with (go_at_call 11; refine (hP.out).mono ?_; intro e w1 hy; exact absurd hy (hno.out e w1))
theorem contract (H : Type) (enc : TypeId × Value → H) (W : World) (base : Nat) (args : Array Value) (ds gs : List (DataW H)) (before : List MemPlace)
    (hval : ∀ (j : Nat) t v, Tryz.f4.params[j]? = some t → args[j]? = some v → Value.okWide Tryz.prog W .any base t v)
    (hW : DataW.Whole enc Tryz.prog Tryz.f4.params.toList Rows.ereReadsSpec.vars false W args.toList ds gs before) (hsh : W.ShapedOpen Tryz.prog) :
    Calls Tryz.prog 4 args W fun e W' => ∃ v, e = .returned v ∧ Rows.ereReadsSpec.post enc Tryz.prog Tryz.f4 false true false false W args v W' := by
  have hW' := hW
  obtain ⟨p, q, hA, hV, rfl, hfz, hnd⟩ := hW
  rw [Tryz.params4] at hA hval
  obtain ⟨v0, vs0, d0, ds0, p0, q0, hargs, rfl, rfl, h0, r0⟩ := trodAll_cons hA
  obtain ⟨rfl, rfl, rfl⟩ := trodAll_nil r0
  obtain rfl : args = #[v0] := by cases args; simp_all
  obtain ⟨rfl, rfl⟩ := trodVars_none hV
  obtain ⟨A0, n0, c0, l0, rfl, e0, k0, m0, x0⟩ := open_byt Tryz.underlying22 Tryz.underlying5 (by kernel_rfl) (hval 0 22 v0 rfl rfl) h0
  have hmx := max_of hsh
  exact (core W A0 n0 c0 l0 e0 k0 m0 x0 hmx).mono fun e W' ⟨he, hb⟩ => ⟨_, he, law_post hW' rfl (by kernel_rfl) (by kernel_rfl) rfl hb⟩

theorem laid_met (os : Os) : laidMetH Tryz.prog Rows.ereReadsRow.laid ((World.doorLaid Tryz.prog 4000 os).forCall (fun _ _ => 0) ⟨#[], #[.slice none 0 0], []⟩).memory :=
  laidMetH_of_parts3 (fuel := 8) (laidMet_of_run' 8 (by kernel_rfl) (by kernel_rfl)) (by kernel_rfl) (by kernel_rfl)
theorem reads (os : Os) {H : Type} (enc : TypeId × Value → H) : ∃ places, DataW.whole enc Tryz.prog ((World.doorLaid Tryz.prog 4000 os).forCall (fun _ _ => 0) ⟨#[], #[.slice none 0 0], []⟩).memory Tryz.f4.params.toList Rows.ereReadsSpec.vars false #[Value.slice none 0 0].toList 8 = some ([.nil], [], places) :=
  ⟨[], by kernel_rfl⟩

set_option maxRecDepth 100000 in
theorem lifted (os : Os) (started : os.Started) (H : Type) (enc : TypeId × Value → H) (F : Stop.Interp) :
    ReturnsInHanded {} Tryz.checked os 4 .any ((OpenSpec.ofChange Rows.ereReadsSpec).preRow enc Tryz.prog Tryz.f4 Rows.ereReadsRow.domain false Rows.ereReadsRow.laid) (((OpenSpec.ofChange Rows.ereReadsSpec).at F).post enc Tryz.prog Tryz.f4 false true false false) := by
  obtain ⟨places, hx⟩ := reads os enc
  refine returnsInHanded_of_row (C := Tryz.checked) (s := (OpenSpec.ofChange Rows.ereReadsSpec)) own started (by kernel_rfl) Tryz.func4
    (witness_row_at (enc := enc) (C := Tryz.checked) false (World.doorLaid Tryz.prog 4000 os) #[.slice none 0 0] rfl (by kernel_rfl) (by kernel_rfl) (by kernel_rfl)
      (OpenSpec.preRow_of_cond 8 hx (by kernel_rfl) (fun k hk => by cases hk) (by kernel_rfl) (laid_met os))) ?_
  intro W base args ds gs before hval hW _ _ _ _ hsh _
  exact contract H enc W base args ds gs before hval hW hsh

theorem said : Rows.EreReadsSaid :=
  OpenClaim.holds_of_cond 4 Tryz.f4 rfl rfl rfl rfl rfl rfl rfl ⟨rfl, rfl, rfl, rfl, rfl⟩ rfl rfl rfl rfl rfl (by kernel_rfl) Tryz.func4 (by kernel_rfl)
    (of_decide_eq_true (by kernel_rfl)) (by unfold Func.isWrapper; first | (rw [if_pos (by decide +kernel)]; kernel_rfl) | (rw [if_neg (by decide +kernel)]; exact ⟨rfl, rfl⟩))
    (fun os started H enc _ F => by rw [OpenClaim.pre_eq_preRow]; exact lifted os started H enc F)

end Go.Proofs.YtnfbgpjadnlgbaaGreat.EReads
