/- SwapReplaces answers true at every list of parts, text and hits, and they read afterwards as they read before. Conditions: none. -/
import Derived.Test.YtgkemjjdgpoacaaFrame
import Derived.Test.YtgkemjjdgpoacaaSwpH
import Derived.Test.YtgkemjjdgpoacaaSwpG
import Derived.Test.YtgkemjjdgpoacaaSwpW
import Derived.Test.YtgkemjjdgpoacaaSwpO
import Derived.Test.YtgkemjjdgpoacaaSmB
set_option linter.unusedVariables false
set_option linter.unusedSimpArgs false
set_option maxRecDepth 100000
namespace Go.Proofs.Ytgkemjjdgpoacaa.Rep13
open Go.ChangeShapes Go.WideShapes Go.ChangeAt Go.RowKit

theorem amp_prts (w : World) : Prts (w.alloc (.cells #[.int .i64 1, .int .i64 0, .slice none 0 0] 45)) (w.heap.size + 1) (some ⟨w.heap.size, 0, none⟩) [⟨1, 0, []⟩] := fun k hk => by
  have hk0 : k = 0 := by simpa using hk
  subst hk0
  have h := held_new w 45 #[.int .i64 1, .int .i64 0, .slice none 0 0]
  exact ⟨_, .slice none 0 0, rfl, Nat.lt_succ_self _, h.at_ rfl, h.at_ rfl, h.at_ rfl, BytV.nil _ _⟩
/-- A call that tells bytes, as the slice that it tells. -/
theorem bytq_at {w w' : World} {l : List UInt8} {e : Ending} (h : BytQ w l e w') : ∃ A c, e = .returned (.slice A l.length c) ∧ OwnB w' w.heap.size (.slice A l.length c) l ∧ Below w.heap.size w w' := by
  obtain ⟨⟨v, rfl, hv⟩, hb⟩ := h
  obtain ⟨A, c, rfl, -⟩ := own_byt hv
  exact ⟨A, c, rfl, hv, hb⟩
theorem same_own {w : World} {B b1 : Nat} {A1 A2 : Option Addr} {n2 c1 c2 : Nat} {l l2 : List UInt8} (h1 : OwnB w b1 (.slice A1 l.length c1) l) (hn : n2 = l2.length) (hc : n2 ≤ c2) (hm : c2 ≤ maxLen) (h2 : Byt w B A2 l2) (hB : B ≤ w.heap.size) (he : l = l2) :
    Calls Try.prog 14 #[.slice A1 l.length c1, .slice A2 n2 c2] w fun e w' => e = .returned (.bool true) ∧ Below w.heap.size w w' := by
  obtain ⟨A, d, e1, -, z1, z2, z3⟩ := own_byt h1
  cases e1
  refine (sameB_any _ _ _ _ _ _ l l2 w.heap.size w rfl hn z1 hc z2 z3 (h2.more hB)).mono ?_
  rintro e w' ⟨rfl, q, rfl⟩
  exact ⟨by rw [he, beq_self_eq_true], below_drewN (Below.refl _ _) q⟩
theorem same_two {w : World} {b1 b2 : Nat} {A1 A2 : Option Addr} {c1 c2 : Nat} {l : List UInt8} (h1 : OwnB w b1 (.slice A1 l.length c1) l) (h2 : OwnB w b2 (.slice A2 l.length c2) l) :
    Calls Try.prog 14 #[.slice A1 l.length c1, .slice A2 l.length c2] w fun e w' => e = .returned (.bool true) ∧ Below w.heap.size w w' := by
  obtain ⟨A, d, e1, -, z1, z2, z3⟩ := own_byt h2
  cases e1
  exact same_own h1 rfl z1 z2 z3 (Nat.le_refl _) rfl
set_option maxHeartbeats 8000000 in
theorem core (W : World) (A1 : Option Addr) (n1 c1 : Nat) (l1 : List Prt) (hn1 : n1 = l1.length) (hc1 : n1 ≤ c1) (hm1 : c1 ≤ maxLen) (h1 : Prts W W.heap.size A1 l1)
    (A2 : Option Addr) (n2 c2 : Nat) (l2 : List UInt8) (hn2 : n2 = l2.length) (hc2 : n2 ≤ c2) (hm2 : c2 ≤ maxLen) (h2 : Byt W W.heap.size A2 l2)
    (A3 : Option Addr) (n3 c3 : Nat) (l3 : List Spn) (hn3 : n3 = l3.length) (hc3 : n3 ≤ c3) (hm3 : c3 ≤ maxLen) (h3 : Hts W W.heap.size A3 l3) :
    Calls Try.prog 5 #[.slice A1 n1 c1, .slice A2 n2 c2, .slice A3 n3 c3] W fun e W' => e = .returned (.bool true) ∧ Below W.heap.size W W' := by
  have hW := Lib.hid (fun w => awake13_any w)
  have hG := Lib.hid (great_any hn1 hc1 hm1 hc2 hm2 h1 (At := A2))
  have hcm3 : c3 ≤ 9223372036854775807 := by unfold maxLen at hm3; omega
  by_cases h12 : 12 < n3
  · have d12 : decide ((12 : Int) < (n3 : Int)) = true := decide_eq_true (by omega)
    clear h1 h2 h3 hn1 hn2 hn3
    go_enter Try.func5, Try.ntmps5
    go_wp2_with (first
      | (go_at_call 7; refine (hG.out).mono ?_; rintro e w2 ⟨⟨b, rfl, hbf⟩, rfl⟩; clear hbf; cases b)
      | (go_at_call 9; refine (hW.out _).mono ?_; rintro e w3 ⟨rfl, hb3⟩))
    all_goals (go_ret; exact ⟨rfl, hb3⟩)
  · have d12 : decide ((12 : Int) < (n3 : Int)) = false := decide_eq_false (by omega)
    have hIn := Lib.hid (fun (w' : World) (hb : Below W.heap.size W w') => show SwIn w' W.heap.size A1 n1 c1 l1 A2 n2 c2 l2 from ⟨hn1, hc1, hm1, h1.below hb, hn2, hc2, hm2, h2.below hb, hb.size⟩)
    have hHt := Lib.hid (fun (w' : World) (hb : Below W.heap.size W w') => h3.below hb)
    have hBt := Lib.hid (fun (w' : World) (hb : Below W.heap.size W w') => h2.below hb)
    have hR1 := Lib.hid (fun (hk : n2 ≤ 60) => show Calls Try.prog 17 #[.slice (some ⟨W.heap.size, 0, none⟩) 1 1, .slice A2 n2 c2, .slice A3 n3 c3] (W.alloc (.cells #[.int .i64 1, .int .i64 0, .slice none 0 0] 45)) (BytQ (W.alloc (.cells #[.int .i64 1, .int .i64 0, .slice none 0 0] 45)) l2) from by
      have hb := (Below.refl W.heap.size W).alloc (Nat.le_refl _) (.cells #[.int .i64 1, .int .i64 0, .slice none 0 0] 45)
      have := replace_any (w := W.alloc (.cells #[.int .i64 1, .int .i64 0, .slice none 0 0] 45)) (B := W.heap.size + 1) (l := [⟨1, 0, []⟩]) (t := l2) (hs := l3) ⟨rfl, Nat.le_refl _, by decide, amp_prts W, hn2, hc2, hm2, (h2.below hb).more (Nat.le_succ _), by simp⟩ hn3 hc3 hm3 (fun k hk => by
        obtain ⟨ad, bb, oo, q1, q2, q3, q4⟩ := (h3.below hb) k hk
        exact ⟨ad, bb, oo, q1, q2, Nat.lt_succ_of_lt q3, q4⟩) (fun x hx => by rw [exp_amp]; have := cutB_len l2 (x 0); omega) (by omega) (by omega)
      rw [rep_amp] at this
      exact this)
    have hSz := Lib.hid (fun (h : n1 ≤ 12 ∧ n2 ≤ 60 ∧ ∀ p ∈ l1, p.b.length ≤ 30) (x : Spn) => show (expL l2 x l1).length ≤ 10000 from by
      have := expL_len l2 x l1 90 (fun p hp => by have := h.2.2 p hp; omega)
      have h12 : l1.length * 90 ≤ 12 * 90 := Nat.mul_le_mul_right 90 (by rw [← hn1]; exact h.1)
      omega)
    have hR2 := Lib.hid (fun (hk : n1 ≤ 12 ∧ n2 ≤ 60 ∧ ∀ p ∈ l1, p.b.length ≤ 30) (w' : World) (hb : Below W.heap.size W w') => show Calls Try.prog 17 #[.slice A1 n1 c1, .slice A2 n2 c2, .slice A3 n3 c3] w' (BytQ w' (repL l1 l2 l3)) from
      replace_any (hIn.out w' hb) hn3 hc3 hm3 (hHt.out w' hb) (fun x _ => hSz.out hk x) (by omega) (by omega))
    have hR3 := Lib.hid (fun (hk : n1 ≤ 12 ∧ n2 ≤ 60 ∧ ∀ p ∈ l1, p.b.length ≤ 30) (w' : World) (hb : Below W.heap.size W w') => show Calls Try.prog 18 #[.slice A1 n1 c1, .slice A2 n2 c2, .slice A3 n3 c3] w' (BytQ w' (repL l1 l2 l3)) from
      rReplace_any (hIn.out w' hb) hn3 hc3 hm3 (hHt.out w' hb) (fun x _ => hSz.out hk x) (by omega) (by omega))
    have hR4 := Lib.hid (fun (hk : n1 ≤ 12 ∧ n2 ≤ 60 ∧ ∀ p ∈ l1, p.b.length ≤ 30) (w' : World) (hb : Below W.heap.size W w') => show Calls Try.prog 17 #[.slice A1 n1 c1, .slice A2 n2 c2, .slice none 0 0] w' (BytQ w' l2) from by
      have := replace_any (hIn.out w' hb) (hs := []) (Ah := none) (nh := 0) (ch := 0) rfl (Nat.le_refl _) (by decide) (Hts.none_ _ _ _) (fun x hx => by cases hx) (by omega) (by omega)
      rw [rep_none] at this
      exact this)
    have hn2h := Lib.hid hn2
    have hc2h := Lib.hid hc2
    have hm2h := Lib.hid hm2
    have hb0 := Lib.hid ((Below.refl W.heap.size W).alloc (Nat.le_refl _) (.cells #[.int .i64 1, .int .i64 0, .slice none 0 0] 45))
    clear h1 h2 h3 hn1 hn2 hn3 hSz hIn hHt
    go_enter Try.func5, Try.ntmps5
    go_upto_region 3 with (first
      | (go_at_call 7; refine (hG.out).mono ?_; rintro e w2 ⟨⟨b, rfl, hbf⟩, rfl⟩; have hbfh := Lib.hid hbf; clear hbf; cases b)
      | (go_at_call 9; refine (hW.out _).mono ?_; rintro e w3 ⟨rfl, hb3⟩))
    rotate_left
    · go_ret
      exact ⟨rfl, hb3⟩
    · have hk := hbfh.out trivial
      replace hR1 := Lib.hid (hR1.out hk.2.1)
      replace hR2 := Lib.hid (hR2.out hk)
      replace hR3 := Lib.hid (hR3.out hk)
      replace hR4 := Lib.hid (hR4.out hk)
      clear hk hbfh hG
      generalize hE : repL l1 l2 l3 = E at *
      replace hE := Lib.hid hE
      go_wp2_with (first
        | (have _h := hb8; go_at_call 9; refine (hW.out _).mono ?_; rintro e w9 ⟨rfl, hb9⟩)
        | (have _h := hb7; go_at_call 14; refine (same_own hk7.out hn2h.out hc2h.out hm2h.out (hBt.out w7 hb7.out) hb7.out.size rfl).mono ?_; rintro e w8 ⟨rfl, hb8'⟩; have hb8 := Lib.hid (hb7.out.trans (hb8'.mono hb7.out.size)); clear hb8')
        | (have _h := hb6; go_at_call 17; refine (hR4.out w6 hb6.out).mono ?_; intro e w7 hq7; obtain ⟨A7, d7, rfl, hk7', hb7'⟩ := bytq_at hq7; have hk7 := Lib.hid hk7'; have hb7 := Lib.hid (hb6.out.trans (hb7'.mono hb6.out.size)); clear hk7' hb7' hq7)
        | (have _h := hb5; go_at_call 14; refine (same_own (hk2d.out) hn2h.out hc2h.out hm2h.out (hBt.out w5 hb5.out) hb5.out.size rfl).mono ?_; rintro e w6 ⟨rfl, hb6'⟩; have hb6 := Lib.hid (hb5.out.trans (hb6'.mono hb5.out.size)); clear hb6')
        | (have _h := hb4; go_at_call 14; refine (same_two hk3c.out hk4.out).mono ?_; rintro e w5 ⟨rfl, hb5'⟩; have hk2d := Lib.hid (hk2c.out.keep hb5'); have hb5 := Lib.hid (hb4.out.trans (hb5'.mono hb4.out.size)); clear hb5')
        | (have _h := hb3; go_at_call 18; refine (hR3.out w3 hb3.out).mono ?_; intro e w4 hq4; obtain ⟨A4, d4, rfl, hk4', hb4'⟩ := bytq_at hq4; have hk4 := Lib.hid hk4'; have hk3c := Lib.hid (hk3.out.keep hb4'); have hk2c := Lib.hid (hk2b.out.keep hb4'); have hb4 := Lib.hid (hb3.out.trans (hb4'.mono hb3.out.size)); clear hk4' hb4' hq4)
        | (have _h := hb2; go_at_call 17; refine (hR2.out w2 hb2.out).mono ?_; intro e w3 hq3; obtain ⟨A5, d5, rfl, hk3', hb3'⟩ := bytq_at hq3; have hk3 := Lib.hid hk3'; have hk2b := Lib.hid (hk2.out.keep hb3'); have hb3 := Lib.hid (hb2.out.trans (hb3'.mono hb2.out.size)); clear hk3' hb3' hq3)
        | (go_at_call 17; refine (hR1.out).mono ?_; intro e w2 hq2; obtain ⟨A6, d6, rfl, hk2', hb2'⟩ := bytq_at hq2; have hk2 := Lib.hid hk2'; have hb2 := Lib.hid (hb0.out.trans (hb2'.mono hb0.out.size)); clear hk2' hb2' hq2))
      go_ret
      exact ⟨rfl, hb8.out.trans (hb9.mono hb8.out.size)⟩
theorem contract (H : Type) (enc : TypeId × Value → H) (W : World) (base : Nat) (args : Array Value) (ds gs : List (DataW H)) (before : List MemPlace)
    (hval : ∀ (j : Nat) t v, Try.f5.params[j]? = some t → args[j]? = some v → Value.okWide Try.prog W .any base t v)
    (hW : DataW.Whole enc Try.prog Try.f5.params.toList Rows.swapReplacesSpec.vars false W args.toList ds gs before) :
    Calls Try.prog 5 args W fun e W' => ∃ v, e = .returned v ∧ Rows.swapReplacesSpec.post enc Try.prog Try.f5 false true false false W args v W' := by
  have hW' := hW
  obtain ⟨p, q, hA, hV, rfl, hfz, hnd⟩ := hW
  rw [Try.params5] at hA hval
  obtain ⟨v0, vs0, d0, ds0, p0, q0, hargs, rfl, rfl, h0, r0⟩ := trodAll_cons hA
  obtain ⟨v1, vs1, d1, ds1, p1, q1, rfl, rfl, rfl, h1, r1⟩ := trodAll_cons r0
  obtain ⟨v2, vs2, d2, ds2, p2, q2, rfl, rfl, rfl, h2, r2⟩ := trodAll_cons r1
  obtain ⟨rfl, rfl, rfl⟩ := trodAll_nil r2
  obtain rfl : args = #[v0, v1, v2] := by cases args; simp_all
  obtain ⟨rfl, rfl⟩ := trodVars_none hV
  obtain ⟨A0, n0, c0, l0, rfl, e0, k0, m0, x0⟩ := open_parts (hval 0 22 v0 rfl rfl) h0
  obtain ⟨A1, n1, c1, l1, rfl, e1, k1, m1, x1⟩ := open_byt Try.underlying26 Try.underlying5 (by kernel_rfl) (hval 1 26 v1 rfl rfl) h1
  obtain ⟨A2, n2, c2, l2, rfl, e2, k2, m2, x2⟩ := open_hits (hval 2 42 v2 rfl rfl) h2
  exact (core W A0 n0 c0 l0 e0 k0 m0 x0 A1 n1 c1 l1 e1 k1 m1 x1 A2 n2 c2 l2 e2 k2 m2 x2).mono fun e W' ⟨he, hb⟩ => ⟨_, he, law_post hW' rfl (by kernel_rfl) (by kernel_rfl) rfl hb⟩

theorem laid_met (os : Os) : laidMetH Try.prog Rows.swapReplacesRow.laid ((World.doorLaid Try.prog 4000 os).forCall (fun _ _ => 0) ⟨#[], #[.slice none 0 0, .slice none 0 0, .slice none 0 0], []⟩).memory :=
  laidMetH_of_parts3 (fuel := 8) (laidMet_of_run' 8 (by kernel_rfl) (by kernel_rfl)) (by kernel_rfl) (by kernel_rfl)
theorem reads (os : Os) {H : Type} (enc : TypeId × Value → H) : ∃ places, DataW.whole enc Try.prog ((World.doorLaid Try.prog 4000 os).forCall (fun _ _ => 0) ⟨#[], #[.slice none 0 0, .slice none 0 0, .slice none 0 0], []⟩).memory Try.f5.params.toList Rows.swapReplacesSpec.vars false #[Value.slice none 0 0, .slice none 0 0, .slice none 0 0].toList 8 = some ([.nil, .nil, .nil], [], places) :=
  ⟨[], by kernel_rfl⟩

set_option maxRecDepth 100000 in
theorem lifted (os : Os) (started : os.Started) (H : Type) (enc : TypeId × Value → H) (F : Stop.Interp) :
    ReturnsInHanded {} Try.checked os 5 .any ((OpenSpec.ofChange Rows.swapReplacesSpec).preRow enc Try.prog Try.f5 Rows.swapReplacesRow.domain false Rows.swapReplacesRow.laid) (((OpenSpec.ofChange Rows.swapReplacesSpec).at F).post enc Try.prog Try.f5 false true false false) := by
  obtain ⟨places, hx⟩ := reads os enc
  refine returnsInHanded_of_row (C := Try.checked) (s := (OpenSpec.ofChange Rows.swapReplacesSpec)) own started (by kernel_rfl) Try.func5
    (witness_row_at (enc := enc) (C := Try.checked) false (World.doorLaid Try.prog 4000 os) #[.slice none 0 0, .slice none 0 0, .slice none 0 0] rfl (by kernel_rfl) (by kernel_rfl) (by kernel_rfl)
      (OpenSpec.preRow_of_cond 8 hx (by kernel_rfl) (fun k hk => by cases hk) (by kernel_rfl) (laid_met os))) ?_
  intro W base args ds gs before hval hW _ _ _ _ _ _
  exact contract H enc W base args ds gs before hval hW

theorem said : Rows.SwapReplacesSaid :=
  OpenClaim.holds_of_cond 5 Try.f5 rfl rfl rfl rfl rfl rfl rfl ⟨rfl, rfl, rfl, rfl, rfl⟩ rfl rfl rfl rfl rfl (by kernel_rfl) Try.func5 (by kernel_rfl)
    (of_decide_eq_true (by kernel_rfl)) (by unfold Func.isWrapper; first | (rw [if_pos (by decide +kernel)]; kernel_rfl) | (rw [if_neg (by decide +kernel)]; exact ⟨rfl, rfl⟩))
    (fun os started H enc _ F => by rw [OpenClaim.pre_eq_preRow]; exact lifted os started H enc F)

end Go.Proofs.Ytgkemjjdgpoacaa.Rep13
