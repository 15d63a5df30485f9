/- The statement BrackBack: the law returns true for every set and every slice of bytes, and changes nothing that was there. No condition. -/
import Derived.Test.YtiiaheaadbhomaaFrame
import Derived.Test.YtiiaheaadbhomaaBrkQ
import Derived.Test.YtiiaheaadbhomaaBrkX
import Derived.Test.YtiiaheaadbhomaaBrkY
import Derived.Test.YtiiaheaadbhomaaClsT
set_option linter.unusedVariables false
set_option linter.unusedSimpArgs false
namespace Go.Proofs.Ytiiaheaadbhomaa.Back
open Go.ChangeShapes Go.WideShapes Go.ChangeAt Go.RowKit

theorem byt_step {w w' : World} {A : Option Addr} {l : List UInt8} (h : Byt w w.heap.size A l) (hb : Below w.heap.size w w') : Byt w' w'.heap.size A l := (h.below hb).more hb.size
set_option maxRecDepth 100000 in
set_option maxHeartbeats 8000000 in
theorem core (W : World) (f : Nat → Bool) (A : Option Addr) (n c : Nat) (l : List UInt8) (hn : n = l.length) (hnc : n ≤ c) (hcm : c ≤ maxLen) (hb : Byt W W.heap.size A l) (hm : Mx W) :
    Calls Try.prog 3 #[setV f, .slice A n c] W fun e w' => e = .returned (.bool true) ∧ Below W.heap.size W w' := by
  have hAw := Lib.hid (fun (w : World) (hm : Mx w) => awake_any w hm)
  have hm' := Lib.hid hm
  have hW0 := Lib.hid (show Below W.heap.size W (W.alloc (.cells (setC f) 24)) from (Below.refl _ _).alloc (Nat.le_refl _) _)
  clear hm
  show Calls _ _ #[.agg (setC f), .slice A n c] _ _
  by_cases hbig : 30 < n
  · clear hn hb hnc hcm
    go_enter Try.func3, Try.ntmps3
    go_wp2_with (go_at_call 6; refine (hAw.out _ (hm'.out.grow hW0.out)).mono ?_; rintro e w1 ⟨rfl, hb1⟩)
    go_ret
    exact ⟨rfl, hW0.out.trans (hb1.mono hW0.out.size)⟩
  · have hS0 := Lib.hid (set_new W f)
    have hn' := Lib.hid hn
    unfold maxLen at hcm
    obtain ⟨g1, hr1, ha1⟩ := textR_read (voidS f) f (voidS_iff f) l
    obtain ⟨g2, hr2, ha2⟩ := textR_read (voidS f) f (voidS_iff f) []
    rw [List.append_nil] at hr2
    have hTl := textR_len (voidS f) f
    have hT91 : ∃ r, textR (voidS f) f = 91 :: r := by unfold textR; split <;> exact ⟨_, rfl⟩
    obtain ⟨T, hTe⟩ : ∃ T, textR (voidS f) f = T := ⟨_, rfl⟩
    rw [hTe] at hr1 hr2 hTl hT91
    replace hTe := Lib.hid hTe
    obtain ⟨L, hL⟩ : ∃ L, L = T.length := ⟨_, rfl⟩
    rw [← hL] at hr1 hr2 hTl
    have hL2 := hTl.1
    have hL3 := hTl.2
    obtain ⟨r, hTr⟩ := hT91
    have hT0 : Hid (0 < T.length) := Lib.hid (by rw [hTr]; simp)
    have hT91 : Hid ((T[0]'hT0.out).toNat = 91) := Lib.hid (by simp only [hTr, List.getElem_cons_zero]; rfl)
    have hP := fun (w3 : World) A3 (N3 c3 : Nat) (h : Inp w3 A3 N3 c3 (T ++ l)) (h1 : 1 ≤ N3) => parse_any h 1 h1
    rw [hr1] at hP
    replace hP := Lib.hid (show ∀ (w3 : World) (A3 : Option Addr) (N3 c3 : Nat), Inp w3 A3 N3 c3 (T ++ l) → Calls Try.prog 8 #[.slice A3 N3 c3, .int .i64 1] w3 fun e' w' => e' = .returned (.tuple #[.agg (setC f), .int .i64 (L : Int), .int .i64 0]) ∧ Below w3.heap.size w3 w' from fun w3 A3 N3 c3 h => by
      have := hP w3 A3 N3 c3 h (by have := h.len; rw [List.length_append] at this; omega)
      rw [← ha1.setC]
      exact this)
    have hRef := fun (w5 : World) (At : Addr) (ct : Nat) (hB : Byt w5 w5.heap.size (some At) T) (hc : L ≤ ct) => refParse_any (some At) L ct T w5 hL hc (by omega) hB 1 (by omega)
    rw [hr2] at hRef
    replace hRef := Lib.hid (show ∀ (w5 : World) (At : Addr) (ct : Nat), Byt w5 w5.heap.size (some At) T → L ≤ ct → Calls Try.prog 9 #[.slice (some At) L ct, .int .i64 1] w5 fun e' w' => e' = .returned (.tuple #[.agg (setC f), .int .i64 (L : Int), .int .i64 0]) ∧ Below w5.heap.size w5 w' from fun w5 At ct hB hc => by
      rw [← ha2.setC]
      exact hRef w5 At ct hB hc)
    have hSrc := Lib.hid (fun w2 (h : Below W.heap.size W w2) => (hb.below h).vals.src)
    obtain ⟨i0, hi, hz0, hi1, hi2⟩ : ∃ i0, Try.prog.info? 5 = some i0 ∧ i0.zero = some (.int .u8 0) ∧ i0.size = 1 ∧ i0.bytes = 1 := by
      obtain ⟨i0, h1, h2⟩ := Option.map_eq_some_iff.1 byteInfo
      simp at h2
      exact ⟨i0, h1, h2.1, h2.2.1, h2.2.2⟩
    have hI1 := Lib.hid hi1
    have hI2 := Lib.hid hi2
    replace hL := Lib.hid hL
    have hstage0 : True := trivial
    have hstage1 : True := trivial
    have hE0 : ∀ w, (binOp .eql 24 (.agg (setC f)) (.agg (setC f))).run Try.prog w = .ok (.bool true) w := fun w => eql_same f w
    have hG0 : ∀ x y w, (eqGuard .eql 24 x y (.agg (setC f)) (.agg (setC f))).run Try.prog w = .ok () w := fun x y w => eql_guard f f x y w
    have hE1 : ∀ w, (binOp .eql 24 (.agg (setC f)) (.agg #[.int .u64 (wd f 0 : Nat), .int .u64 (wd f 1 : Nat), .int .u64 (wd f 2 : Nat), .int .u64 (wd f 3 : Nat)])).run Try.prog w = .ok (.bool true) w := fun w => eql_same f w
    have hG1 : ∀ x y w, (eqGuard .eql 24 x y (.agg (setC f)) (.agg #[.int .u64 (wd f 0 : Nat), .int .u64 (wd f 1 : Nat), .int .u64 (wd f 2 : Nat), .int .u64 (wd f 3 : Nat)])).run Try.prog w = .ok () w := fun x y w => eql_guard f f x y w
    have hE2 : ∀ w, (binOp .eql 24 (.agg #[.int .u64 (wd f 0 : Nat), .int .u64 (wd f 1 : Nat), .int .u64 (wd f 2 : Nat), .int .u64 (wd f 3 : Nat)]) (.agg (setC f))).run Try.prog w = .ok (.bool true) w := fun w => eql_same f w
    have hG2 : ∀ x y w, (eqGuard .eql 24 x y (.agg #[.int .u64 (wd f 0 : Nat), .int .u64 (wd f 1 : Nat), .int .u64 (wd f 2 : Nat), .int .u64 (wd f 3 : Nat)]) (.agg (setC f))).run Try.prog w = .ok () w := fun x y w => eql_guard f f x y w
    have hE3 : ∀ w, (binOp .eql 24 (.agg #[.int .u64 (wd f 0 : Nat), .int .u64 (wd f 1 : Nat), .int .u64 (wd f 2 : Nat), .int .u64 (wd f 3 : Nat)]) (.agg #[.int .u64 (wd f 0 : Nat), .int .u64 (wd f 1 : Nat), .int .u64 (wd f 2 : Nat), .int .u64 (wd f 3 : Nat)])).run Try.prog w = .ok (.bool true) w := fun w => eql_same f w
    have hG3 : ∀ x y w, (eqGuard .eql 24 x y (.agg #[.int .u64 (wd f 0 : Nat), .int .u64 (wd f 1 : Nat), .int .u64 (wd f 2 : Nat), .int .u64 (wd f 3 : Nat)]) (.agg #[.int .u64 (wd f 0 : Nat), .int .u64 (wd f 1 : Nat), .int .u64 (wd f 2 : Nat), .int .u64 (wd f 3 : Nat)])).run Try.prog w = .ok () w := fun x y w => eql_guard f f x y w
    clear hn hb hr1 hr2 ha1 ha2 hTl hi1 hi2 hTr
    go_enter Try.func3, Try.ntmps3
    go_wp2_with (first
      | (have _h := hstage0; refine wpList_load_row rfl 24 (.tmp 2) rfl W.heap.size rfl 24 _ (0, 0) _ hS0.out Try.underlying24 rfl (set_size _) ?_)
      | (go_at_call 7; refine (text_any f _).mono ?_; rintro e w1 ⟨u, rfl, htx, hb1⟩; clear hstage0; rw [hTe.out] at htx; obtain ⟨At, ct, rfl, ht1, ht2, ht3⟩ := htx; have hb1' := Lib.hid (hW0.out.trans (hb1.mono hW0.out.size)); have hS1 := Lib.hid (hS0.out.below hb1 hS0.out.lt); obtain ⟨a0, hA0, hAb, hd⟩ := ht3.at_ (k := 0) hT0.out; obtain rfl := Option.some.inj hA0; rw [hT91.out, show At.add 0 = At by cases At; simp [Addr.add]] at hd; have ht3' := Lib.hid ht3; rw [← hL.out] at ht1 ⊢; replace ht1 := Lib.hid ht1; replace ht2 := Lib.hid ht2; clear ht3 hA0)
      | (at_builtin; have _h0 := hstage1; refine wpList_append_at rfl _ _ 25 rfl w1.heap.size 5 i0 (.int .u8 0) 1 1 Try.underlying25 hi hz0 hI1.out hI2.out rfl (by decide) (.slice (some ⟨w1.heap.size, 0, none⟩) 0 0) 0 (bv []) rfl (own_none w1) (some At) L ct (bv T) rfl (by rw [bv_length, Nat.mul_one]; exact hL.out.symm) ((ht3'.out.below ((Below.refl _ _).alloc (Nat.le_refl _) _)).vals.src) (bv_one _) (by unfold maxLen; omega) (by omega) (by rw [sizeA']; omega) ?_; intro v2 w2 hown2 hg2 _; have hB2 := Lib.hid (below_append ((Below.refl w1.heap.size w1).alloc (Nat.le_refl _) (.cells #[] 5)) (own_none w1) (by rw [sizeA']; omega) hg2); rw [Nat.zero_add, show bv [] ++ bv T = bv T from rfl] at hown2; have hown2b := Lib.hid hown2; obtain ⟨A2, c2, rfl, -, -, -, -⟩ := own_byt hown2; clear hown2 hg2 hstage1)
      | (at_builtin; refine wpList_append_at rfl _ _ 25 rfl w1.heap.size 5 i0 (.int .u8 0) 1 1 Try.underlying25 hi hz0 hI1.out hI2.out rfl (by decide) (.slice A2 L c2) L (bv T) rfl hown2b.out A n c (bv l) rfl (by rw [bv_length, Nat.mul_one]; exact hn'.out.symm) (hSrc.out _ (hb1'.out.trans (hB2.out.mono hb1'.out.size))) (bv_one _) (by unfold maxLen; omega) (by omega) hB2.out.size ?_; intro v3 w3 hown3 hg3 _; have hB3 := Lib.hid (below_append hB2.out hown2b.out hB2.out.size hg3); have hW3 := Lib.hid (hb1'.out.trans (hB3.out.mono hb1'.out.size)); have hS3 := Lib.hid (hS1.out.below hB3.out hS1.out.lt); have ht4 := Lib.hid (byt_step ht3'.out hB3.out); rw [← bv_append] at hown3; obtain ⟨A3, c3, rfl, e3, e4, e5, hB5⟩ := own_byt hown3; have hI3 := Lib.hid (Inp.of (hm'.out.grow hW3.out) e3 e4 e5 (by omega) hB5); clear hown3 hg3 e3 e4 e5 hB5)
      | (go_at_call 8; with_reducible show Calls _ _ _ w3 _; refine (hP.out _ _ _ _ hI3.out).mono ?_; rintro e w4 ⟨rfl, hb4⟩; have hW4 := Lib.hid (hW3.out.trans (hb4.mono hW3.out.size)); have hS4 := Lib.hid (hS3.out.below hb4 hS3.out.lt); have ht5 := Lib.hid (byt_step ht4.out hb4))
      | (refine wpList_store_row rfl 24 (.tmp 6) (.tmp 34) rfl w4.heap.size (setC f) rfl rfl 24 _ (set_zero w4) (set_size _) (set_hold (fun _ => false) f |> fun h => by rw [← h, setC_none]) (set_cells _) ?_; rw [World.setRow_alloc_new]; have hW5 := Lib.hid (hW4.out.alloc hW4.out.size (.cells (setC f) 24)); have hS5 := Lib.hid (hS4.out.alloc (.cells (setC f) 24)); have hR5 := Lib.hid (set_new w4 f); have ht6 := Lib.hid (byt_step ht5.out ((Below.refl _ _).alloc (Nat.le_refl _) (.cells (setC f) 24))); obtain ⟨w5, hnw⟩ : ∃ x, x = w4.alloc (.cells (setC f) 24) := ⟨_, rfl⟩; rw [← hnw] at hW5 hS5 hR5 ht6 ⊢; clear hnw)
      | (go_at_call 9; with_reducible show Calls _ _ _ w5 _; refine (hRef.out _ _ _ ht6.out ht1.out).mono ?_; rintro e w6 ⟨rfl, hb6⟩; have hW6 := Lib.hid (hW5.out.trans (hb6.mono hW5.out.size)); have hS6 := Lib.hid (hS5.out.below hb6 hS5.out.lt); have hR6 := Lib.hid (hR5.out.below hb6 hR5.out.lt))
      | (refine wpList_store_row rfl 24 (.tmp 9) (.tmp 40) rfl w6.heap.size (setC f) rfl rfl 24 _ (set_zero w6) (set_size _) (set_hold (fun _ => false) f |> fun h => by rw [← h, setC_none]) (set_cells _) ?_; rw [World.setRow_alloc_new]; have hW7 := Lib.hid (hW6.out.alloc hW6.out.size (.cells (setC f) 24)); have hS7 := Lib.hid (hS6.out.alloc (.cells (setC f) 24)); have hR7 := Lib.hid (hR6.out.alloc (.cells (setC f) 24)); have hT7 := Lib.hid (set_new w6 f); obtain ⟨w7, hnw⟩ : ∃ x, x = w6.alloc (.cells (setC f) 24) := ⟨_, rfl⟩; rw [← hnw] at hW7 hS7 hR7 hT7 ⊢; clear hnw; have s0 := hS7.out.cell 0 (by decide); have s1 := hS7.out.cell 1 (by decide); have s2 := hS7.out.cell 2 (by decide); have s3 := hS7.out.cell 3 (by decide); have t0 := hT7.out.cell 0 (by decide); have t1 := hT7.out.cell 1 (by decide); have t2 := hT7.out.cell 2 (by decide); have t3 := hT7.out.cell 3 (by decide))
      | (refine wpList_load_row rfl 24 (.tmp 6) rfl w4.heap.size rfl 24 _ (0, 0) _ hR7.out Try.underlying24 rfl (set_size _) ?_)
      | (refine wpList_load_row rfl 24 (.tmp 2) rfl W.heap.size rfl 24 _ (0, 0) _ hS7.out Try.underlying24 rfl (set_size _) ?_)
      | (go_at_call 6; refine (hAw.out _ (hm'.out.grow hW7.out)).mono ?_; rintro e w8 ⟨rfl, hb8⟩))
    go_ret
    exact ⟨rfl, hW7.out.trans (hb8.mono hW7.out.size)⟩
theorem contract (H : Type) (enc : TypeId × Value → H) (W : World) (base : Nat) (args : Array Value) (ds gs : List (DataW H)) (before : List MemPlace)
    (hval : ∀ (j : Nat) t v, Try.f3.params[j]? = some t → args[j]? = some v → Value.okWide Try.prog W .any base t v)
    (hW : DataW.Whole enc Try.prog Try.f3.params.toList Rows.brackBackSpec.vars false W args.toList ds gs before) (hsh : W.ShapedOpen Try.prog) :
    Calls Try.prog 3 args W fun e W' => ∃ v, e = .returned v ∧ Rows.brackBackSpec.post enc Try.prog Try.f3 false true false false W args v W' := by
  have hW' := hW
  obtain ⟨p, q, hA, hV, rfl, hfz, hnd⟩ := hW
  rw [Try.params3] at hA hval
  obtain ⟨v0, vs0, d0, ds0, p0, q0, hargs, rfl, rfl, h0, r0⟩ := trodAll_cons hA
  obtain ⟨v1, vs1, d1, ds1, p1, q1, rfl, rfl, rfl, h1, r1⟩ := trodAll_cons r0
  obtain ⟨rfl, rfl, rfl⟩ := trodAll_nil r1
  obtain rfl : args = #[v0, v1] := by cases args; simp_all
  obtain ⟨rfl, rfl⟩ := trodVars_none hV
  obtain ⟨a0, rfl⟩ := open_set (hval 0 24 v0 rfl rfl) h0
  obtain ⟨A1, n1, c1, l1, rfl, e1, k1, m1, x1⟩ := open_byt Try.underlying25 Try.underlying5 (by kernel_rfl) (hval 1 25 v1 rfl rfl) h1
  have hmx := max_of hsh
  exact (core W a0 A1 n1 c1 l1 e1 k1 m1 x1 hmx).mono fun e W' ⟨he, hb⟩ => ⟨_, he, law_post hW' rfl (by kernel_rfl) (by kernel_rfl) rfl hb⟩

theorem laid_met (os : Os) : laidMetH Try.prog Rows.brackBackRow.laid ((World.doorLaid Try.prog 4000 os).forCall (fun _ _ => 0) ⟨#[], #[.agg #[.int .u64 0, .int .u64 0, .int .u64 0, .int .u64 0], .slice none 0 0], []⟩).memory :=
  laidMetH_of_parts3 (fuel := 8) (laidMet_of_run' 8 (by kernel_rfl) (by kernel_rfl)) (by kernel_rfl) (by kernel_rfl)
theorem reads (os : Os) {H : Type} (enc : TypeId × Value → H) : ∃ places, DataW.whole enc Try.prog ((World.doorLaid Try.prog 4000 os).forCall (fun _ _ => 0) ⟨#[], #[.agg #[.int .u64 0, .int .u64 0, .int .u64 0, .int .u64 0], .slice none 0 0], []⟩).memory Try.f3.params.toList Rows.brackBackSpec.vars false #[Value.agg #[.int .u64 0, .int .u64 0, .int .u64 0, .int .u64 0], .slice none 0 0].toList 8 = some ([.agg [.lit (.int .u64 0), .lit (.int .u64 0), .lit (.int .u64 0), .lit (.int .u64 0)], .nil], [], places) :=
  ⟨[], by kernel_rfl⟩

set_option maxRecDepth 100000 in
theorem lifted (os : Os) (started : os.Started) (H : Type) (enc : TypeId × Value → H) (F : Stop.Interp) :
    ReturnsInHanded {} Try.checked os 3 .any ((OpenSpec.ofChange Rows.brackBackSpec).preRow enc Try.prog Try.f3 Rows.brackBackRow.domain false Rows.brackBackRow.laid) (((OpenSpec.ofChange Rows.brackBackSpec).at F).post enc Try.prog Try.f3 false true false false) := by
  obtain ⟨places, hx⟩ := reads os enc
  refine returnsInHanded_of_row (C := Try.checked) (s := (OpenSpec.ofChange Rows.brackBackSpec)) own started (by kernel_rfl) Try.func3
    (witness_row_at (enc := enc) (C := Try.checked) false (World.doorLaid Try.prog 4000 os) #[.agg #[.int .u64 0, .int .u64 0, .int .u64 0, .int .u64 0], .slice none 0 0] rfl (by kernel_rfl) (by kernel_rfl) (by kernel_rfl)
      (OpenSpec.preRow_of_cond 8 hx (by kernel_rfl) (fun k hk => by cases hk) (by kernel_rfl) (laid_met os))) ?_
  intro W base args ds gs before hval hW _ _ _ _ hsh _
  exact contract H enc W base args ds gs before hval hW hsh

theorem said : Rows.BrackBackSaid :=
  OpenClaim.holds_of_cond 3 Try.f3 rfl rfl rfl rfl rfl rfl rfl ⟨rfl, rfl, rfl, rfl, rfl⟩ rfl rfl rfl rfl rfl (by kernel_rfl) Try.func3 (by kernel_rfl)
    (of_decide_eq_true (by kernel_rfl)) (by unfold Func.isWrapper; first | (rw [if_pos (by decide +kernel)]; kernel_rfl) | (rw [if_neg (by decide +kernel)]; exact ⟨rfl, rfl⟩))
    (fun os started H enc _ F => by rw [OpenClaim.pre_eq_preRow]; exact lifted os started H enc F)

end Go.Proofs.Ytiiaheaadbhomaa.Back
