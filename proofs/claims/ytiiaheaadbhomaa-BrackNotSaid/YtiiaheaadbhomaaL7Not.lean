/- The statement BrackNot: the law returns true for every slice of bytes, and changes nothing that was there. No condition. -/
import Derived.Test.YtiiaheaadbhomaaFrame
import Derived.Test.YtiiaheaadbhomaaBrkP
import Derived.Test.YtiiaheaadbhomaaBrkQ
set_option linter.unusedVariables false
set_option linter.unusedSimpArgs false
namespace Go.Proofs.Ytiiaheaadbhomaa.Not
open Go.ChangeShapes Go.WideShapes Go.ChangeAt Go.RowKit

def RelX (W : World) (a b : Nat) (F : Nat → Bool) (v : Value) (wr : World) : Prop :=
  ∃ k : Nat, k ≤ 4 ∧ v = .int .i64 (k : Int) ∧ SetAt wr a F ∧ SetAt wr b (negF F) ∧ Below W.heap.size W wr
theorem RelX.mk {W : World} {a b : Nat} {F : Nat → Bool} {v : Value} {wr : World} (h : ∃ k : Nat, k ≤ 4 ∧ v = .int .i64 (k : Int) ∧ SetAt wr a F ∧ SetAt wr b (negF F) ∧ Below W.heap.size W wr) : RelX W a b F v wr := h

set_option maxRecDepth 100000 in
set_option maxHeartbeats 4000000 in
theorem core (W : World) (A : Option Addr) (n c : Nat) (l : List UInt8) (hn : n = l.length) (hnc : n ≤ c) (hcm : c ≤ maxLen) (hb : Byt W W.heap.size A l) (hm : Mx W) :
    Calls Try.prog 4 #[.slice A n c] W fun e w' => e = .returned (.bool true) ∧ Below W.heap.size W w' := by
  have hAw := Lib.hid (fun (w : World) (hm : Mx w) => awake_any w hm)
  have hm' := Lib.hid hm
  have hn' := Lib.hid hn
  clear hm
  by_cases hbig : 100 < n
  · clear hn hb hnc hcm
    go_enter Try.func4, Try.ntmps4
    go_wp2_with (go_at_call 6; refine (hAw.out _ hm'.out).mono ?_; rintro e w1 ⟨rfl, hb1⟩)
    go_ret
    exact ⟨rfl, hb1⟩
  · have hInp := Inp.of hm'.out hn hnc hcm (by omega) hb
    unfold maxLen at hcm
    cases hx : bg [94] l with
    | true =>
      have hx0 : l[0]? = some 94 := by
        cases l with
        | nil => cases hx
        | cons x r =>
          rw [bg_cons, bg_nil, Bool.and_true, beq_iff_eq] at hx
          rw [hx]; rfl
      have hl0 : 0 < l.length := (List.getElem?_eq_some_iff.1 hx0).1
      obtain ⟨ad, rfl⟩ := hInp.some_ hl0
      obtain ⟨hd, hdb⟩ := hInp.cell hx0
      rw [show ad.add 0 = ad by cases ad; simp [Addr.add]] at hd
      have hn0 : 0 < n := by omega
      clear hn hb hInp hx hx0 hl0
      go_enter Try.func4, Try.ntmps4
      go_wp2_with (go_at_call 6; refine (hAw.out _ hm'.out).mono ?_; rintro e w1 ⟨rfl, hb1⟩)
      go_ret
      exact ⟨rfl, hb1⟩
    | false =>
      have hP1 := parse_any hInp 0 (Nat.zero_le _)
      have hrc := readB_caret l hx
      have hP2 := fun (w3 : World) A3 (N3 c3 : Nat) (h : Inp w3 A3 N3 c3 (94 :: l)) => parse_any h 0 (Nat.zero_le _)
      have hSrc := Lib.hid (fun w2 (h : Below W.heap.size W w2) => (hb.below h).vals.src)
      obtain ⟨i0, hi, hz0, hi1, hi2⟩ : ∃ i0, Try.prog.info? 5 = some i0 ∧ i0.zero = some (.int .u8 0) ∧ i0.size = 1 ∧ i0.bytes = 1 := by
        obtain ⟨i0, h1, h2⟩ := Option.map_eq_some_iff.1 byteInfo
        simp at h2
        exact ⟨i0, h1, h2.1, h2.2.1, h2.2.2⟩
      have hI1 := Lib.hid hi1
      have hI2 := Lib.hid hi2
      clear hi1 hi2
      have hfirst : ¬ 0 < n ∨ ∃ (ad : Addr) (X : Nat), A = some ad ∧ W.cell? ad = some (.int .u8 (X : Int)) ∧ ((X : Int) == 94) = false ∧ 0 < n := by
        cases l with
        | nil => left; rw [hn]; simp
        | cons x r =>
          right
          obtain ⟨ad, rfl⟩ := hInp.some_ (by simp)
          obtain ⟨hd, hdb⟩ := hInp.cell (k := 0) (x := x) rfl
          rw [show ad.add 0 = ad by cases ad; simp [Addr.add]] at hd
          refine ⟨ad, x.toNat, rfl, hd, ?_, by rw [hn]; simp⟩
          rw [bg_cons, bg_nil, Bool.and_true] at hx
          simp only [beq_eq_false_iff_ne, ne_eq] at hx ⊢
          intro e
          exact hx (UInt8.toNat_inj.1 (by have : x.toNat = 94 := by omega
                                          rw [this]; rfl))
      cases hr : readB l 0 with
      | error e =>
        rw [hr] at hrc hP1
        simp only at hrc
        have hne := readB_err hr
        simp only [hrc] at hP2
        replace hP1 := Lib.hid (show Calls Try.prog 8 #[.slice A n c, .int .i64 0] W fun e' w' => e' = .returned (.tuple #[.agg (setC noneF), .int .i64 0, .int .i64 (e : Int)]) ∧ Below W.heap.size W w' from hP1)
        replace hP2 := Lib.hid (show ∀ (w3 : World) (A3 : Option Addr) (N3 c3 : Nat), Inp w3 A3 N3 c3 (94 :: l) → Calls Try.prog 8 #[.slice A3 N3 c3, .int .i64 0] w3 fun e' w' => e' = .returned (.tuple #[.agg (setC noneF), .int .i64 0, .int .i64 (e : Int)]) ∧ Below w3.heap.size w3 w' from hP2)
        clear hn hb hInp hx hr hrc
        rcases hfirst with hn0 | ⟨ad, X, rfl, hd, hX, hn0⟩
        all_goals
          go_enter Try.func4, Try.ntmps4
          go_wp2_with (first
            | (go_at_call 8; with_reducible show Calls _ _ _ W _; refine (hP1.out).mono ?_; rintro e w1 ⟨rfl, hb1⟩; replace hb1 := Lib.hid hb1)
            | (refine wpList_store_row rfl 24 (.tmp 3) (.tmp 28) rfl w1.heap.size (setC noneF) rfl rfl 24 _ (set_zero w1) (set_size _) (set_hold (fun _ => false) noneF |> fun h => by rw [← h, setC_none]) (set_cells _) ?_; rw [World.setRow_alloc_new]; have hW2 := Lib.hid (hb1.out.alloc hb1.out.size (.cells (setC noneF) 24)); have hS2 := Lib.hid (set_new w1 noneF); obtain ⟨w2, hw2⟩ : ∃ w2, w2 = w1.alloc (.cells (setC noneF) 24) := ⟨_, rfl⟩; rw [← hw2] at hW2 hS2 ⊢; clear hw2)
            | (at_builtin; refine wpList_append_at rfl _ _ 25 rfl w2.heap.size 5 i0 (.int .u8 0) 1 1 Try.underlying25 hi hz0 hI1.out hI2.out rfl (by decide) (.slice (some ⟨w2.heap.size, 0, none⟩) 1 1) 1 [.int .u8 94] rfl (World.ownsRow_lit (e := 5) (size := 1) w2 #[.int .u8 94] 1 (Nat.le_refl _) (by decide) rfl) _ n c (bv l) rfl (by rw [bv_length, Nat.mul_one]; exact hn'.out.symm) (hSrc.out _ (hW2.out.alloc hW2.out.size _)) (bv_one l) (by unfold maxLen; omega) (by omega) (by rw [sizeA']; omega) ?_; intro v3 w3 hown3 hg3 _; have hB3 := Lib.hid (below_append ((Below.refl w2.heap.size w2).alloc (Nat.le_refl _) (.cells #[.int .u8 94] 5)) (World.ownsRow_lit (e := 5) (size := 1) w2 #[.int .u8 94] 1 (Nat.le_refl _) (by decide) rfl) (by rw [sizeA']; omega) hg3); have hW3 := Lib.hid (hW2.out.trans (hB3.out.mono hW2.out.size)); have hS3 := Lib.hid (hS2.out.below hB3.out hS2.out.lt); obtain ⟨A3, c3, rfl, e3, e4, e5, hB5⟩ := own_byt (l := 94 :: l) hown3; have hI3 := Lib.hid (Inp.of (hm'.out.grow hW3.out) e3 e4 e5 (by omega) hB5); clear hown3 hg3 e3 e4 e5 hB5)
            | (go_at_call 8; with_reducible show Calls _ _ _ w3 _; refine (hP2.out _ _ _ _ hI3.out).mono ?_; rintro e w4 ⟨rfl, hb4⟩; have hW4 := Lib.hid (hW3.out.trans (hb4.mono hW3.out.size)); have hS4 := Lib.hid (hS3.out.below hb4 hS3.out.lt))
            | (refine wpList_store_row rfl 24 (.tmp 6) (.tmp 36) rfl w4.heap.size (setC noneF) rfl rfl 24 _ (set_zero w4) (set_size _) (set_hold (fun _ => false) noneF |> fun h => by rw [← h, setC_none]) (set_cells _) ?_; rw [World.setRow_alloc_new]; have hW5 := Lib.hid (hW4.out.alloc hW4.out.size (.cells (setC noneF) 24)); have hS5 := Lib.hid (hS4.out.alloc (.cells (setC noneF) 24)); have hR5 := Lib.hid (set_new w4 noneF); obtain ⟨w5, hw5⟩ : ∃ w5, w5 = w4.alloc (.cells (setC noneF) 24) := ⟨_, rfl⟩; rw [← hw5] at hW5 hS5 hR5 ⊢; clear hw5)
            | (go_at_call 6; refine (hAw.out _ (hm'.out.grow hW5.out)).mono ?_; rintro e w6 ⟨rfl, hb6⟩))
          go_ret
          exact ⟨rfl, hW5.out.trans (hb6.mono hW5.out.size)⟩
      | ok p =>
        obtain ⟨F, j⟩ := p
        have hj : j ≤ n := by
          have h2 := hr
          rw [readB_plain (by simpa using hx)] at h2
          have := items_size _ _ _ _ _ _ h2
          simp at this; omega
        rw [hr] at hrc hP1
        simp only at hrc
        simp only [hrc] at hP2
        replace hP1 := Lib.hid (show Calls Try.prog 8 #[.slice A n c, .int .i64 0] W fun e' w' => e' = .returned (.tuple #[.agg (setC F), .int .i64 (j : Int), .int .i64 0]) ∧ Below W.heap.size W w' from hP1)
        replace hP2 := Lib.hid (show ∀ (w3 : World) (A3 : Option Addr) (N3 c3 : Nat), Inp w3 A3 N3 c3 (94 :: l) → Calls Try.prog 8 #[.slice A3 N3 c3, .int .i64 0] w3 fun e' w' => e' = .returned (.tuple #[.agg (setC (negF F)), .int .i64 ((j : Int) + 1), .int .i64 0]) ∧ Below w3.heap.size w3 w' from hP2)
        have hxor := xor_not F
        clear hn hb hInp hx hr hrc
        rcases hfirst with hn0 | ⟨ad, X, rfl, hd, hX, hn0⟩
        all_goals
          go_enter Try.func4, Try.ntmps4
          go_wp2_with (first
            | (go_at_call 8; with_reducible show Calls _ _ _ W _; refine (hP1.out).mono ?_; rintro e w1 ⟨rfl, hb1⟩; replace hb1 := Lib.hid hb1)
            | (refine wpList_store_row rfl 24 (.tmp 3) (.tmp 28) rfl w1.heap.size (setC F) rfl rfl 24 _ (set_zero w1) (set_size _) (set_hold (fun _ => false) F |> fun h => by rw [← h, setC_none]) (set_cells _) ?_; rw [World.setRow_alloc_new]; have hW2 := Lib.hid (hb1.out.alloc hb1.out.size (.cells (setC F) 24)); have hS2 := Lib.hid (set_new w1 F); obtain ⟨w2, hw2⟩ : ∃ w2, w2 = w1.alloc (.cells (setC F) 24) := ⟨_, rfl⟩; rw [← hw2] at hW2 hS2 ⊢; clear hw2)
            | (at_builtin; refine wpList_append_at rfl _ _ 25 rfl w2.heap.size 5 i0 (.int .u8 0) 1 1 Try.underlying25 hi hz0 hI1.out hI2.out rfl (by decide) (.slice (some ⟨w2.heap.size, 0, none⟩) 1 1) 1 [.int .u8 94] rfl (World.ownsRow_lit (e := 5) (size := 1) w2 #[.int .u8 94] 1 (Nat.le_refl _) (by decide) rfl) _ n c (bv l) rfl (by rw [bv_length, Nat.mul_one]; exact hn'.out.symm) (hSrc.out _ (hW2.out.alloc hW2.out.size _)) (bv_one l) (by unfold maxLen; omega) (by omega) (by rw [sizeA']; omega) ?_; intro v3 w3 hown3 hg3 _; have hB3 := Lib.hid (below_append ((Below.refl w2.heap.size w2).alloc (Nat.le_refl _) (.cells #[.int .u8 94] 5)) (World.ownsRow_lit (e := 5) (size := 1) w2 #[.int .u8 94] 1 (Nat.le_refl _) (by decide) rfl) (by rw [sizeA']; omega) hg3); have hW3 := Lib.hid (hW2.out.trans (hB3.out.mono hW2.out.size)); have hS3 := Lib.hid (hS2.out.below hB3.out hS2.out.lt); obtain ⟨A3, c3, rfl, e3, e4, e5, hB5⟩ := own_byt (l := 94 :: l) hown3; have hI3 := Lib.hid (Inp.of (hm'.out.grow hW3.out) e3 e4 e5 (by omega) hB5); clear hown3 hg3 e3 e4 e5 hB5)
            | (go_at_call 8; with_reducible show Calls _ _ _ w3 _; refine (hP2.out _ _ _ _ hI3.out).mono ?_; rintro e w4 ⟨rfl, hb4⟩; have hW4 := Lib.hid (hW3.out.trans (hb4.mono hW3.out.size)); have hS4 := Lib.hid (hS3.out.below hb4 hS3.out.lt))
            | (refine wpList_store_row rfl 24 (.tmp 6) (.tmp 36) rfl w4.heap.size (setC (negF F)) rfl rfl 24 _ (set_zero w4) (set_size _) (set_hold (fun _ => false) (negF F) |> fun h => by rw [← h, setC_none]) (set_cells _) ?_; rw [World.setRow_alloc_new]; have hW5 := Lib.hid (hW4.out.alloc hW4.out.size (.cells (setC (negF F)) 24)); have hS5 := Lib.hid (hS4.out.alloc (.cells (setC (negF F)) 24)); have hR5 := Lib.hid (set_new w4 (negF F)); obtain ⟨w5, hw5⟩ : ∃ w5, w5 = w4.alloc (.cells (setC (negF F)) 24) := ⟨_, rfl⟩; rw [← hw5] at hW5 hS5 hR5 ⊢; clear hw5))
          go_loopw [9] (RelX W w1.heap.size w4.heap.size F) (fun v _ => 4 - (intOf v).toNat)
          case atStart => exact RelX.mk ⟨0, by omega, rfl, hS5.out, hR5.out, hW5.out⟩
          case round =>
            rename World => w6
            obtain ⟨k, hk, rfl, hs, hr, hbb⟩ := hrel
            by_cases hlt : k < 4
            · have hK : k = 0 ∨ k = 1 ∨ k = 2 ∨ k = 3 := by omega
              have d1 := hs.cell' hK
              have d2 := hr.cell' hK
              have hs' := Lib.hid hs
              have hr' := Lib.hid hr
              have hb' := Lib.hid hbb
              have hxk := hxor k
              have k0 : (0 : Int) ≤ (k : Int) := by omega
              have k1 : (k : Int) < 4 := by omega
              generalize wd F k = x at *
              generalize wd (negF F) k = y at *
              clear hs hr hbb hK hS5 hR5 hW5
              go_wp2_with (go_quiet (fail))
              go_roundw
              case rel => exact RelX.mk ⟨k + 1, by omega, by go_num, hs'.out, hr'.out, below_drewN hb'.out _⟩
              case measure => simp [intOf]; omega
            · obtain rfl : k = 4 := by omega
              have hb' := Lib.hid hbb
              clear hs hr hbb
              go_wp2_with (go_at_call 6; refine (hAw.out _ (hm'.out.grow hb'.out)).mono ?_; rintro e w7 ⟨rfl, hb7⟩)
              go_ret
              exact ⟨rfl, hb'.out.trans (hb7.mono hb'.out.size)⟩
theorem contract (H : Type) (enc : TypeId × Value → H) (W : World) (base : Nat) (args : Array Value) (ds gs : List (DataW H)) (before : List MemPlace)
    (hval : ∀ (j : Nat) t v, Try.f4.params[j]? = some t → args[j]? = some v → Value.okWide Try.prog W .any base t v)
    (hW : DataW.Whole enc Try.prog Try.f4.params.toList Rows.brackNotSpec.vars false W args.toList ds gs before) (hsh : W.ShapedOpen Try.prog) :
    Calls Try.prog 4 args W fun e W' => ∃ v, e = .returned v ∧ Rows.brackNotSpec.post enc Try.prog Try.f4 false true false false W args v W' := by
  have hW' := hW
  obtain ⟨p, q, hA, hV, rfl, hfz, hnd⟩ := hW
  rw [Try.params4] at hA hval
  obtain ⟨v0, vs0, d0, ds0, p0, q0, hargs, rfl, rfl, h0, r0⟩ := trodAll_cons hA
  obtain ⟨rfl, rfl, rfl⟩ := trodAll_nil r0
  obtain rfl : args = #[v0] := by cases args; simp_all
  obtain ⟨rfl, rfl⟩ := trodVars_none hV
  obtain ⟨A0, n0, c0, l0, rfl, e0, k0, m0, x0⟩ := open_byt Try.underlying25 Try.underlying5 (by kernel_rfl) (hval 0 25 v0 rfl rfl) h0
  have hmx := max_of hsh
  exact (core W A0 n0 c0 l0 e0 k0 m0 x0 hmx).mono fun e W' ⟨he, hb⟩ => ⟨_, he, law_post hW' rfl (by kernel_rfl) (by kernel_rfl) rfl hb⟩

theorem laid_met (os : Os) : laidMetH Try.prog Rows.brackNotRow.laid ((World.doorLaid Try.prog 4000 os).forCall (fun _ _ => 0) ⟨#[], #[.slice none 0 0], []⟩).memory :=
  laidMetH_of_parts3 (fuel := 8) (laidMet_of_run' 8 (by kernel_rfl) (by kernel_rfl)) (by kernel_rfl) (by kernel_rfl)
theorem reads (os : Os) {H : Type} (enc : TypeId × Value → H) : ∃ places, DataW.whole enc Try.prog ((World.doorLaid Try.prog 4000 os).forCall (fun _ _ => 0) ⟨#[], #[.slice none 0 0], []⟩).memory Try.f4.params.toList Rows.brackNotSpec.vars false #[Value.slice none 0 0].toList 8 = some ([.nil], [], places) :=
  ⟨[], by kernel_rfl⟩

set_option maxRecDepth 100000 in
theorem lifted (os : Os) (started : os.Started) (H : Type) (enc : TypeId × Value → H) (F : Stop.Interp) :
    ReturnsInHanded {} Try.checked os 4 .any ((OpenSpec.ofChange Rows.brackNotSpec).preRow enc Try.prog Try.f4 Rows.brackNotRow.domain false Rows.brackNotRow.laid) (((OpenSpec.ofChange Rows.brackNotSpec).at F).post enc Try.prog Try.f4 false true false false) := by
  obtain ⟨places, hx⟩ := reads os enc
  refine returnsInHanded_of_row (C := Try.checked) (s := (OpenSpec.ofChange Rows.brackNotSpec)) own started (by kernel_rfl) Try.func4
    (witness_row_at (enc := enc) (C := Try.checked) false (World.doorLaid Try.prog 4000 os) #[.slice none 0 0] rfl (by kernel_rfl) (by kernel_rfl) (by kernel_rfl)
      (OpenSpec.preRow_of_cond 8 hx (by kernel_rfl) (fun k hk => by cases hk) (by kernel_rfl) (laid_met os))) ?_
  intro W base args ds gs before hval hW _ _ _ _ hsh _
  exact contract H enc W base args ds gs before hval hW hsh

theorem said : Rows.BrackNotSaid :=
  OpenClaim.holds_of_cond 4 Try.f4 rfl rfl rfl rfl rfl rfl rfl ⟨rfl, rfl, rfl, rfl, rfl⟩ rfl rfl rfl rfl rfl (by kernel_rfl) Try.func4 (by kernel_rfl)
    (of_decide_eq_true (by kernel_rfl)) (by unfold Func.isWrapper; first | (rw [if_pos (by decide +kernel)]; kernel_rfl) | (rw [if_neg (by decide +kernel)]; exact ⟨rfl, rfl⟩))
    (fun os started H enc _ F => by rw [OpenClaim.pre_eq_preRow]; exact lifted os started H enc F)

end Go.Proofs.Ytiiaheaadbhomaa.Not
