/- The statement BrackShort: the law returns true for every slice of bytes and every two bytes, and changes nothing that was there. No condition. -/
import Derived.Test.YtiiaheaadbhomaaFrame
import Derived.Test.YtiiaheaadbhomaaBrkQ
set_option linter.unusedVariables false
set_option linter.unusedSimpArgs false
namespace Go.Proofs.Ytiiaheaadbhomaa.Short
open Go.ChangeShapes Go.WideShapes Go.ChangeAt Go.RowKit

set_option maxRecDepth 100000 in
set_option maxHeartbeats 4000000 in
theorem core (W : World) (A : Option Addr) (n c : Nat) (l : List UInt8) (hn : n = l.length) (hnc : n ≤ c) (hcm : c ≤ maxLen) (hb : Byt W W.heap.size A l) (a1 : Int) (ha1 : (Lit.int .u8 a1).wf = true) (a2 : Int) (ha2 : (Lit.int .u8 a2).wf = true) (hm : Mx W) :
    Calls Try.prog 5 #[.slice A n c, .int .u8 a1, .int .u8 a2] W fun e w' => e = .returned (.bool true) ∧ Below W.heap.size W w' := by
  have hAw := Lib.hid (fun (w : World) (hm : Mx w) => awake_any w hm)
  have hm' := Lib.hid hm
  clear hm
  by_cases hbig : 60 < n
  · clear hn hb hnc hcm ha1 ha2
    go_enter Try.func5, Try.ntmps5
    go_wp2_with (go_at_call 6; refine (hAw.out _ hm'.out).mono ?_; rintro e w1 ⟨rfl, hb1⟩)
    go_ret
    exact ⟨rfl, hb1⟩
  · have hInp := Inp.of hm'.out hn hnc hcm (by omega) hb
    unfold maxLen at hcm
    have b1 : 0 ≤ a1 ∧ a1 ≤ 255 := bounds_u8 ha1
    have b2 : 0 ≤ a2 ∧ a2 ≤ 255 := bounds_u8 ha2
    obtain ⟨K, rfl⟩ := Int.eq_ofNat_of_zero_le b1.1
    obtain ⟨more, rfl⟩ := Int.eq_ofNat_of_zero_le b2.1
    clear ha1 ha2
    have hP1 := parse_any hInp 0 (Nat.zero_le _)
    cases hr : readB l 0 with
    | error e =>
      have hne := readB_err hr
      rw [hr] at hP1
      replace hP1 := Lib.hid (show Calls Try.prog 8 #[.slice A n c, .int .i64 0] W fun e' w' => e' = .returned (.tuple #[.agg (setC noneF), .int .i64 0, .int .i64 (e : Int)]) ∧ Below W.heap.size W w' from hP1)
      clear hn hb hInp hr
      go_enter Try.func5, Try.ntmps5
      go_wp2_with (first
        | (go_at_call 8; with_reducible show Calls _ _ _ W _; refine (hP1.out).mono ?_; rintro e w1 ⟨rfl, hb1⟩; replace hb1 := Lib.hid hb1)
        | (refine wpList_store_row rfl 24 (.tmp 7) (.tmp 23) rfl w1.heap.size (setC noneF) rfl rfl 24 _ (set_zero w1) (set_size _) (set_hold (fun _ => false) noneF |> fun h => by rw [← h, setC_none]) (set_cells _) ?_; rw [World.setRow_alloc_new]; have hW2 := Lib.hid (hb1.out.alloc hb1.out.size (.cells (setC noneF) 24)); have hS2 := Lib.hid (set_new w1 noneF); obtain ⟨w2, hnw⟩ : ∃ x, x = w1.alloc (.cells (setC noneF) 24) := ⟨_, rfl⟩; rw [← hnw] at hW2 hS2 ⊢; clear hnw)
        | (go_at_call 6; refine (hAw.out _ (hm'.out.grow hW2.out)).mono ?_; rintro e w9 ⟨rfl, hb9⟩))
      go_ret
      exact ⟨rfl, hW2.out.trans (hb9.mono hW2.out.size)⟩
    | ok p =>
      obtain ⟨F, j⟩ := p
      have hj := readB_size hr
      have hjn : j ≤ n := by omega
      have hj1 := hj.1
      obtain ⟨ad, rfl⟩ := hInp.some_ (by omega)
      have hmore := readB_more hr [UInt8.ofNat more]
      have hmu : ((UInt8.ofNat more).toNat : Int) = (more : Int) := by simp; omega
      have hmv : Hid (bv (l.take j) ++ [Value.int .u8 (more : Int)] = bv (l.take j ++ [UInt8.ofNat more])) := Lib.hid (by rw [bv_append, ← hmu]; rfl)
      obtain ⟨q, hq⟩ : ∃ q, K % j = q := ⟨_, rfl⟩
      have hqj : q < j := by rw [← hq]; exact Nat.mod_lt _ (by omega)
      obtain ⟨e2, hfr⟩ := readB_front hr hqj
      have hne2 := readB_err hfr
      have hm1 : Int.tmod (K : Int) (j : Int) = (q : Int) := by rw [Int.tmod_eq_emod_of_nonneg (by omega)]; omega
      have hm2 : (K : Int) % (j : Int) = (q : Int) := by omega
      have hlj : Hid ((l.take j).length = j) := Lib.hid (by rw [List.length_take]; omega)
      have hSrc := Lib.hid (fun w2 (h : Below W.heap.size W w2) => ((hb.take j).below h).vals.src)
      have hP2 := fun (w4 : World) A4 (N4 c4 : Nat) (h : Inp w4 A4 N4 c4 (l.take j ++ [UInt8.ofNat more])) => parse_any h 0 (Nat.zero_le _)
      have hP3 := fun (w6 : World) (h : Below W.heap.size W w6) => parse_any (Inp.of (l := l.take q) (n := q) (c := c) (A := some ad) (hm'.out.grow h) (by rw [List.length_take]; omega) (by omega) (by unfold maxLen; omega) (by omega) (((hb.take q).below h).more h.size)) 0 (Nat.zero_le _)
      rw [hmore] at hP2
      rw [hfr] at hP3
      rw [hr] at hP1
      replace hP1 := Lib.hid (show Calls Try.prog 8 #[.slice (some ad) n c, .int .i64 0] W fun e' w' => e' = .returned (.tuple #[.agg (setC F), .int .i64 (j : Int), .int .i64 0]) ∧ Below W.heap.size W w' from hP1)
      replace hP2 := Lib.hid (show ∀ (w4 : World) (A4 : Option Addr) (N4 c4 : Nat), Inp w4 A4 N4 c4 (l.take j ++ [UInt8.ofNat more]) → Calls Try.prog 8 #[.slice A4 N4 c4, .int .i64 0] w4 fun e' w' => e' = .returned (.tuple #[.agg (setC F), .int .i64 (j : Int), .int .i64 0]) ∧ Below w4.heap.size w4 w' from hP2)
      replace hP3 := Lib.hid (show ∀ (w6 : World), Below W.heap.size W w6 → Calls Try.prog 8 #[.slice (some ad) q c, .int .i64 0] w6 fun e' w' => e' = .returned (.tuple #[.agg (setC noneF), .int .i64 0, .int .i64 (e2 : Int)]) ∧ Below w6.heap.size w6 w' from hP3)
      obtain ⟨i0, hi, hz0, hi1, hi2⟩ : ∃ i0, Try.prog.info? 5 = some i0 ∧ i0.zero = some (.int .u8 0) ∧ i0.size = 1 ∧ i0.bytes = 1 := by
        obtain ⟨i0, h1, h2⟩ := Option.map_eq_some_iff.1 byteInfo
        simp at h2
        exact ⟨i0, h1, h2.1, h2.2.1, h2.2.2⟩
      have hI1 := Lib.hid hi1
      have hI2 := Lib.hid hi2
      have hEs := eql_same F
      have hEg := eql_guard F F
      have hK : K ≤ 255 := by omega
      have hM : more ≤ 255 := by omega
      have hstage0 : True := trivial
      clear hn hb hInp hr hmore hfr hq hi1 hi2 b1 b2 hmu
      go_enter Try.func5, Try.ntmps5
      go_wp2_with (first
        | (go_at_call 8; with_reducible show Calls _ _ _ W _; refine (hP1.out).mono ?_; rintro e w1 ⟨rfl, hb1⟩; replace hb1 := Lib.hid hb1)
        | (refine wpList_store_row rfl 24 (.tmp 7) (.tmp 23) rfl w1.heap.size (setC F) rfl rfl 24 _ (set_zero w1) (set_size _) (set_hold (fun _ => false) F |> fun h => by rw [← h, setC_none]) (set_cells _) ?_; rw [World.setRow_alloc_new]; have hW2 := Lib.hid (hb1.out.alloc hb1.out.size (.cells (setC F) 24)); have hS2 := Lib.hid (set_new w1 F); obtain ⟨w2, hnw⟩ : ∃ x, x = w1.alloc (.cells (setC F) 24) := ⟨_, rfl⟩; rw [← hnw] at hW2 hS2 ⊢; clear hnw)
        | (at_builtin; have _h0 := hstage0; refine wpList_append_at rfl _ _ 25 rfl w2.heap.size 5 i0 (.int .u8 0) 1 1 Try.underlying25 hi hz0 hI1.out hI2.out rfl (by decide) (.slice (some ⟨w2.heap.size, 0, none⟩) 0 0) 0 (bv []) rfl (own_none w2) (some ad) j c (bv (l.take j)) rfl (by rw [bv_length, Nat.mul_one]; exact hlj.out) (hSrc.out _ (hW2.out.alloc hW2.out.size _)) (bv_one _) (by unfold maxLen; omega) (by omega) (by rw [sizeA']; omega) ?_; intro v3 w3 hown3 hg3 _; have hB3 := Lib.hid (below_append ((Below.refl w2.heap.size w2).alloc (Nat.le_refl _) (.cells #[] 5)) (own_none w2) (by rw [sizeA']; omega) hg3); have hW3 := Lib.hid (hW2.out.trans (hB3.out.mono hW2.out.size)); have hS3 := Lib.hid (hS2.out.below hB3.out hS2.out.lt); rw [Nat.zero_add, show bv [] ++ bv (l.take j) = bv (l.take j) from rfl] at hown3; have hown3b := Lib.hid hown3; obtain ⟨A3, c3, rfl, -, -, -, -⟩ := own_byt hown3; clear hown3 hg3 hstage0)
        | (at_builtin; refine wpList_append_at rfl _ _ 25 rfl w2.heap.size 5 i0 (.int .u8 0) 1 1 Try.underlying25 hi hz0 hI1.out hI2.out rfl (by decide) (.slice A3 j c3) j (bv (l.take j)) rfl (hown3b.out.alloc _) (some ⟨w3.heap.size, 0, none⟩) 1 1 [.int .u8 (more : Int)] rfl rfl (src_new w3 [.int .u8 (more : Int)] 5) (by simp [Value.oneCell']) (by unfold maxLen; omega) (by omega) (by have := hB3.out.size; rw [sizeA']; omega) ?_; intro v4 w4 hown4 hg4 _; have hB4 := Lib.hid (below_append (hB3.out.alloc hB3.out.size (.cells #[.int .u8 (more : Int)] 5)) (hown3b.out.alloc _) (by have := hB3.out.size; rw [sizeA']; omega) hg4); have hW4 := Lib.hid (hW2.out.trans (hB4.out.mono hW2.out.size)); have hS4 := Lib.hid (hS2.out.below hB4.out hS2.out.lt); rw [hmv.out] at hown4; obtain ⟨A4, c4, rfl, e3, e4, e5, hB5⟩ := own_byt hown4; have hI4 := Lib.hid (Inp.of (hm'.out.grow hW4.out) e3 e4 e5 (by omega) hB5); clear hown4 hg4 e3 e4 e5 hB5)
        | (go_at_call 8; with_reducible show Calls _ _ _ w4 _; refine (hP2.out _ _ _ _ hI4.out).mono ?_; rintro e w5 ⟨rfl, hb5⟩; have hW5 := Lib.hid (hW4.out.trans (hb5.mono hW4.out.size)); have hS5 := Lib.hid (hS4.out.below hb5 hS4.out.lt))
        | (refine wpList_store_row rfl 24 (.tmp 10) (.tmp 47) rfl w5.heap.size (setC F) rfl rfl 24 _ (set_zero w5) (set_size _) (set_hold (fun _ => false) F |> fun h => by rw [← h, setC_none]) (set_cells _) ?_; rw [World.setRow_alloc_new]; have hW6 := Lib.hid (hW5.out.alloc hW5.out.size (.cells (setC F) 24)); have hS6 := Lib.hid (hS5.out.alloc (.cells (setC F) 24)); have hR6 := Lib.hid (set_new w5 F); obtain ⟨w6, hnw⟩ : ∃ x, x = w5.alloc (.cells (setC F) 24) := ⟨_, rfl⟩; rw [← hnw] at hW6 hS6 hR6 ⊢; clear hnw)
        | (go_at_call 8; with_reducible show Calls _ _ _ w6 _; refine (hP3.out _ hW6.out).mono ?_; rintro e w7 ⟨rfl, hb7⟩; have hW7 := Lib.hid (hW6.out.trans (hb7.mono hW6.out.size)); have hS7 := Lib.hid (hS6.out.below hb7 hS6.out.lt); have hR7 := Lib.hid (hR6.out.below hb7 hR6.out.lt))
        | (refine wpList_store_row rfl 24 (.tmp 13) (.tmp 58) rfl w7.heap.size (setC noneF) rfl rfl 24 _ (set_zero w7) (set_size _) (set_hold (fun _ => false) noneF |> fun h => by rw [← h, setC_none]) (set_cells _) ?_; rw [World.setRow_alloc_new]; have hW8 := Lib.hid (hW7.out.alloc hW7.out.size (.cells (setC noneF) 24)); have hS8 := Lib.hid (hS7.out.alloc (.cells (setC noneF) 24)); have hR8 := Lib.hid (hR7.out.alloc (.cells (setC noneF) 24)); have hT8 := Lib.hid (set_new w7 noneF); obtain ⟨w8, hnw⟩ : ∃ x, x = w7.alloc (.cells (setC noneF) 24) := ⟨_, rfl⟩; rw [← hnw] at hW8 hS8 hR8 hT8 ⊢; clear hnw)
        | (refine wpList_load_row rfl 24 (.tmp 10) rfl w5.heap.size rfl 24 _ (0, 0) _ hR8.out Try.underlying24 rfl (set_size _) ?_)
        | (refine wpList_load_row rfl 24 (.tmp 7) rfl w1.heap.size rfl 24 _ (0, 0) _ hS8.out Try.underlying24 rfl (set_size _) ?_)
        | (go_at_call 6; refine (hAw.out _ (hm'.out.grow hW8.out)).mono ?_; rintro e w9 ⟨rfl, hb9⟩))
      go_ret
      exact ⟨rfl, hW8.out.trans (hb9.mono hW8.out.size)⟩
theorem contract (H : Type) (enc : TypeId × Value → H) (W : World) (base : Nat) (args : Array Value) (ds gs : List (DataW H)) (before : List MemPlace)
    (hval : ∀ (j : Nat) t v, Try.f5.params[j]? = some t → args[j]? = some v → Value.okWide Try.prog W .any base t v)
    (hW : DataW.Whole enc Try.prog Try.f5.params.toList Rows.brackShortSpec.vars false W args.toList ds gs before) (hsh : W.ShapedOpen Try.prog) :
    Calls Try.prog 5 args W fun e W' => ∃ v, e = .returned v ∧ Rows.brackShortSpec.post enc Try.prog Try.f5 false true false false W args v W' := by
  have hW' := hW
  obtain ⟨p, q, hA, hV, rfl, hfz, hnd⟩ := hW
  rw [Try.params5] at hA hval
  obtain ⟨v0, vs0, d0, ds0, p0, q0, hargs, rfl, rfl, h0, r0⟩ := trodAll_cons hA
  obtain ⟨v1, vs1, d1, ds1, p1, q1, rfl, rfl, rfl, h1, r1⟩ := trodAll_cons r0
  obtain ⟨v2, vs2, d2, ds2, p2, q2, rfl, rfl, rfl, h2, r2⟩ := trodAll_cons r1
  obtain ⟨rfl, rfl, rfl⟩ := trodAll_nil r2
  obtain rfl : args = #[v0, v1, v2] := by cases args; simp_all
  obtain ⟨rfl, rfl⟩ := trodVars_none hV
  obtain ⟨A0, n0, c0, l0, rfl, e0, k0, m0, x0⟩ := open_byt Try.underlying25 Try.underlying5 (by kernel_rfl) (hval 0 25 v0 rfl rfl) h0
  obtain ⟨a1, rfl, rfl, rfl, w1⟩ := open_int Try.underlying5 (hval 1 5 v1 rfl rfl) h1
  obtain ⟨a2, rfl, rfl, rfl, w2⟩ := open_int Try.underlying5 (hval 2 5 v2 rfl rfl) h2
  have hmx := max_of hsh
  exact (core W A0 n0 c0 l0 e0 k0 m0 x0 a1 w1 a2 w2 hmx).mono fun e W' ⟨he, hb⟩ => ⟨_, he, law_post hW' rfl (by kernel_rfl) (by kernel_rfl) rfl hb⟩

theorem laid_met (os : Os) : laidMetH Try.prog Rows.brackShortRow.laid ((World.doorLaid Try.prog 4000 os).forCall (fun _ _ => 0) ⟨#[], #[.slice none 0 0, .int .u8 0, .int .u8 0], []⟩).memory :=
  laidMetH_of_parts3 (fuel := 8) (laidMet_of_run' 8 (by kernel_rfl) (by kernel_rfl)) (by kernel_rfl) (by kernel_rfl)
theorem reads (os : Os) {H : Type} (enc : TypeId × Value → H) : ∃ places, DataW.whole enc Try.prog ((World.doorLaid Try.prog 4000 os).forCall (fun _ _ => 0) ⟨#[], #[.slice none 0 0, .int .u8 0, .int .u8 0], []⟩).memory Try.f5.params.toList Rows.brackShortSpec.vars false #[Value.slice none 0 0, .int .u8 0, .int .u8 0].toList 8 = some ([.nil, .lit (.int .u8 0), .lit (.int .u8 0)], [], places) :=
  ⟨[], by kernel_rfl⟩

set_option maxRecDepth 100000 in
theorem lifted (os : Os) (started : os.Started) (H : Type) (enc : TypeId × Value → H) (F : Stop.Interp) :
    ReturnsInHanded {} Try.checked os 5 .any ((OpenSpec.ofChange Rows.brackShortSpec).preRow enc Try.prog Try.f5 Rows.brackShortRow.domain false Rows.brackShortRow.laid) (((OpenSpec.ofChange Rows.brackShortSpec).at F).post enc Try.prog Try.f5 false true false false) := by
  obtain ⟨places, hx⟩ := reads os enc
  refine returnsInHanded_of_row (C := Try.checked) (s := (OpenSpec.ofChange Rows.brackShortSpec)) own started (by kernel_rfl) Try.func5
    (witness_row_at (enc := enc) (C := Try.checked) false (World.doorLaid Try.prog 4000 os) #[.slice none 0 0, .int .u8 0, .int .u8 0] rfl (by kernel_rfl) (by kernel_rfl) (by kernel_rfl)
      (OpenSpec.preRow_of_cond 8 hx (by kernel_rfl) (fun k hk => by cases hk) (by kernel_rfl) (laid_met os))) ?_
  intro W base args ds gs before hval hW _ _ _ _ hsh _
  exact contract H enc W base args ds gs before hval hW hsh

theorem said : Rows.BrackShortSaid :=
  OpenClaim.holds_of_cond 5 Try.f5 rfl rfl rfl rfl rfl rfl rfl ⟨rfl, rfl, rfl, rfl, rfl⟩ rfl rfl rfl rfl rfl (by kernel_rfl) Try.func5 (by kernel_rfl)
    (of_decide_eq_true (by kernel_rfl)) (by unfold Func.isWrapper; first | (rw [if_pos (by decide +kernel)]; kernel_rfl) | (rw [if_neg (by decide +kernel)]; exact ⟨rfl, rfl⟩))
    (fun os started H enc _ F => by rw [OpenClaim.pre_eq_preRow]; exact lifted os started H enc F)

end Go.Proofs.Ytiiaheaadbhomaa.Short
