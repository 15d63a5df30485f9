/- FilesFull. -/
import Derived.Test.YtkdhfjnfdcopdaaFrame
import Derived.Test.YtkdhfjnfdcopdaaL3FullA
import Derived.OwnWalk
import Derived.Lib.MinMax
set_option linter.unusedVariables false
namespace Go.Proofs.Ytkdhfjnfdcopdaa.Full
open Go.ChangeShapes Go.WideShapes Go.ChangeAt Go.RowKit

/-- string(b) of one byte. -/
theorem conv_one (x : Int) (h0 : 0 ≤ x) (h1 : x ≤ 255) (W : World) (b : Nat) (hc : W.cell? ⟨b, 0, none⟩ = some (.int .u8 x)) :
    (convert 35 9 (.slice (some ⟨b, 0, none⟩) 1 1)).run Try.prog W = .ok (.string ⟨#[UInt8.ofNat x.toNat]⟩) W := by
  have h := run_convert_bytes_back (P := Try.prog) W 35 9 5 ⟨b, 0, none⟩ 1 [UInt8.ofNat x.toNat] Try.underlying35 Try.underlying5 Try.underlying9 (by
    intro j hj
    have : j = 0 := by simp at hj; omega
    subst this
    rw [show (Addr.add ⟨b, 0, none⟩ 0) = ⟨b, 0, none⟩ from rfl, hc]
    obtain ⟨y, rfl⟩ := Int.eq_ofNat_of_zero_le h0
    simp; omega)
  exact h
theorem nm_eq (i : Nat) : (⟨#[102]⟩ : ByteArray) ++ ⟨#[97 + UInt8.ofNat i]⟩ = nmAt i := by
  refine bytes_ext ?_
  simp [UInt8.ofNat_add]

def RelF (W : World) (T n : Nat) (i : Value) (wr : World) : Prop :=
  ∃ k : Nat, k ≤ n ∧ i = .int .i64 (k : Nat) ∧ Tab wr (fun b => W.heap.size ≤ b) T (fsAt k) ∧ Below W.heap.size W wr
theorem RelF.mk {W : World} {T n : Nat} {i : Value} {wr : World} (h : ∃ k : Nat, k ≤ n ∧ i = .int .i64 (k : Nat) ∧ Tab wr (fun b => W.heap.size ≤ b) T (fsAt k) ∧ Below W.heap.size W wr) : RelF W T n i wr := h

set_option maxHeartbeats 4000000 in
set_option maxRecDepth 100000 in
theorem core (W : World) (z : Int) (wz : (Lit.int .u8 z).wf = true) (y : Int) (wy : (Lit.int .u16 y).wf = true) :
    Calls Try.prog 6 #[.int .u8 z, .int .u16 y] W fun e W' => e = .returned (.bool true) ∧ Below W.heap.size W W' := by
  have hW := Lib.hid awake_any
  have hzb := bounds_u8 wz
  obtain ⟨a, rfl⟩ := Int.eq_ofNat_of_zero_le hzb.1
  have hyb := bounds_u16 wy
  obtain ⟨b, rfl⟩ := Int.eq_ofNat_of_zero_le hyb.1
  have ha20 : Int.tmod ((a : Nat) : Int) 20 = ((a % 20 : Nat) : Int) := by rw [Int.tmod_eq_emod_of_nonneg (by omega)]; omega
  have hb100 : Int.tmod ((b : Nat) : Int) 100 = ((b % 100 : Nat) : Int) := by rw [Int.tmod_eq_emod_of_nonneg (by omega)]; omega
  have hn : a % 20 < 20 := Nat.mod_lt _ (by omega)
  have hk : b % 100 < 100 := Nat.mod_lt _ (by omega)
  generalize a % 20 = n at *
  generalize b % 100 = s at *
  have hN0 := Lib.hid (fun w => new_yes none 0 0 [] w rfl (Nat.le_refl _) (fun f hf => by cases hf) (Fils.none_ _ _ _) rfl)
  have hput := Lib.hid fsAt_put
  have hokf := Lib.hid fsAt_ok
  go_enter Try.func6, Try.ntmps6
  go_wp2_with (first
    | (go_at_call 9; refine (hN0.out _).mono ?_; rintro e w1 ⟨T, rfl, hT1, hb1⟩
       replace hT1 := Lib.hid hT1))
  go_loopw [8, 9] (fun i _ wr => RelF W T n i wr) (fun i _ _ => n - (intOf i).toNat)
  case atStart => exact RelF.mk ⟨0, by omega, rfl, hT1.out, hb1⟩
  case round =>
    clear hT1 hb1
    obtain ⟨i, hi, rfl, hT, hbr⟩ := hrel
    by_cases hlt : i < n
    · have hcv := fun (w : World) => conv_one ((97 : Int) + (i : Nat)) (by omega) (by omega) w
      have hq := hput.out i (by omega)
      replace hT := Lib.hid hT
      have hba : ∀ o, Below wr.heap.size wr (wr.alloc o) := fun o => (Below.refl _ wr).alloc (Nat.le_refl _) o
      have hbw : ∀ o, Below W.heap.size W (wr.alloc o) := fun o => hbr.trans ((hba o).mono hbr.size)
      rw [← nm_eq] at hq
      have hP := fun o => put_any (fun b => W.heap.size ≤ b) T (fsAt i) (⟨#[102]⟩ ++ ⟨#[97 + UInt8.ofNat i]⟩) none 0 0 [] (wr.alloc o) (hT.out.below (hba o)) (hokf.out i (by omega)) (fun k hk => Nat.le_trans (hbw o).size hk) (by rw [nm_eq]; show 2 ≤ maxLen; decide) rfl (Nat.le_refl _) (by simp [maxLen]) (fun k hk => absurd hk (by simp))
      rw [hq] at hP
      clear hq
      have hmono : ∀ o (w : World), Fr (fun b => W.heap.size ≤ b) (wr.alloc o) w → Below W.heap.size W w := fun o w hf => (hbw o).trans (hf.below (fun k _ h => h) (hbw o).size)
      replace hmono := Lib.hid hmono
      by_cases h16 : (i : Int) < 16
      · rw [if_pos (by omega)] at hP
        replace hP := Lib.hid hP
        go_wp2_with (first | (go_at_call 13; refine (hP.out _).mono ?_; rintro e w2 ⟨rfl, hT2, hF2⟩; have hbw2 := hmono.out _ _ hF2))
        go_roundw
        case rel => exact RelF.mk ⟨i + 1, by omega, by go_num, hT2, hbw2⟩
        case measure => simp [intOf]; omega
      · rw [if_neg (by omega)] at hP
        replace hP := Lib.hid hP
        go_wp2_with (first | (go_at_call 13; refine (hP.out _).mono ?_; rintro e w2 ⟨rfl, hT2, hF2⟩; have hbw2 := hmono.out _ _ hF2))
        go_roundw
        case rel => exact RelF.mk ⟨i + 1, by omega, by go_num, hT2, hbw2⟩
        case measure => simp [intOf]; omega
    · obtain rfl : i = n := by omega
      replace hT := Lib.hid hT
      obtain ⟨m, hm⟩ : ∃ m : Nat, m + s = 65536 := ⟨65536 - s, by omega⟩
      have hmI : (65536 : Int) - (s : Nat) = (m : Nat) := by omega
      have hmk1 : ∀ w, ∃ w', (Instr.makeSlice 35 (.int .i64 65537) (.int .i64 65537)).run Try.prog w = .ok (.slice (some ⟨w.heap.size, 0, none⟩) 65537 65537) w' ∧ Made w w' 65537 := mk_zeros 65537 (by omega)
      have hmk2 := mk_zeros m (by omega)
      have hmk3 := mk_zeros s (by omega)
      have p1 := Lib.hid (put_long [] 65537 (by omega))
      have p2 := Lib.hid (put_new m (by omega))
      have p3 := Lib.hid (show addF [(nA, zeros m)] nA ([zeros s, [1]] : List (List UInt8)).flatten = ([(nA, zeros m)], 8) from add_long _ _ (by simp [zeros_len]; omega))
      have p4 := Lib.hid (show addF [(nA, zeros m)] nA ([zeros s] : List (List UInt8)).flatten = ([(nA, zeros m ++ zeros s)], 0) by
        have := add_fits (zeros m) (zeros s) (by rw [zeros_len, zeros_len]; omega)
        rw [show ([zeros s] : List (List UInt8)).flatten = zeros s by simp]; exact this)
      have p5 := Lib.hid (show lenF [(nA, zeros m)] nA = (m : Int) by rw [len_one, zeros_len])
      have p6 := Lib.hid (show lenF [(nA, zeros m ++ zeros s)] nA = (65536 : Int) by rw [len_one, List.length_append, zeros_len, zeros_len]; omega)
      have o1 := Lib.hid (ok_one (zeros m) (by rw [zeros_len]; omega))
      have o2 := Lib.hid (ok_one (zeros m ++ zeros s) (by rw [List.length_append, zeros_len, zeros_len]; omega))
      have hZ1 := Lib.hid (zeros_len 65537)
      replace hmk1 := Lib.hid hmk1
      replace hmk2 := Lib.hid hmk2
      replace hmk3 := Lib.hid hmk3
      have hszA : nA.size ≤ maxLen := by decide
      obtain ⟨q, hlen, hmin⟩ : ∃ q : Nat, Hid ((fsAt i).length = q) ∧ Hid (min (i : Int) 16 = (q : Int)) := ⟨min i 16, Lib.hid (fsAt_len i), Lib.hid (by omega)⟩
      go_wp2_with (first
        | (go_at_call 9; refine (hN0.out _).mono ?_; rintro e w3 ⟨U, rfl, hU3, hb3⟩
           replace hU3 := Lib.hid hU3)
        | (obtain ⟨w4, hr, hz4⟩ := hmk1.out w3; rw [hr]; clear hr; simp only [Result.andThen]; rw [Oper.upon_value]
           have hb4 := hb3.trans (hz4.below.mono hb3.size)
           have hU4 := Lib.hid (tab_gap hU3.out hz4.below))
        | (go_at_call 13; with_reducible show Calls _ _ _ w4 _
           have hq := put_any _ U [] nA (some ⟨w3.heap.size, 0, none⟩) 65537 65537 (zeros 65537) w4 hU4.out ok_nil (gap_open (Nat.le_trans hb3.size hz4.below.size)) hszA hZ1.out.symm (Nat.le_refl _) (by unfold maxLen; omega) (made_gap hz4 (Below.refl _ _))
           rw [p1.out] at hq
           refine hq.mono ?_; clear hq; rintro e w5 ⟨rfl, hU5, hF5⟩
           have hb5 := hb4.trans (hF5.below (fun k _ h => h.1) hb4.size)
           replace hU5 := Lib.hid (tab_ungap hU5))
        | (obtain ⟨w6, hr, hz6⟩ := hmk2.out w5; rw [hr]; clear hr; simp only [Result.andThen]; rw [Oper.upon_value]
           have hb6 := hb5.trans (hz6.below.mono hb5.size)
           have hU6 := Lib.hid (tab_gap hU5.out hz6.below))
        | (go_at_call 13; with_reducible show Calls _ _ _ w6 _
           have hq := put_any _ U [] nA (some ⟨w5.heap.size, 0, none⟩) m m (zeros m) w6 hU6.out ok_nil (gap_open hb6.size) hszA (zeros_len m).symm (Nat.le_refl _) (by unfold maxLen; omega) (made_gap hz6 (Below.refl _ _))
           rw [p2.out] at hq
           refine hq.mono ?_; clear hq; rintro e w7 ⟨rfl, hU7, hF7⟩
           have hb7 := hb6.trans (hF7.below (fun k _ h => h.1) hb6.size)
           replace hU7 := Lib.hid (tab_ungap hU7))
        | (obtain ⟨w8, hr, hz8⟩ := hmk3.out w7; rw [hr]; clear hr; simp only [Result.andThen]; rw [Oper.upon_value]
           have hb8 := hb7.trans (hz8.below.mono hb7.size)
           have hU8 := Lib.hid (hU7.out.below hz8.below))
        | (go_at_call 15; with_reducible show Calls _ _ _ ((w8.alloc (.cells #[.int .u8 1] 5)).alloc (.cells #[.slice (some ⟨w7.heap.size, 0, none⟩) s s, .slice (some ⟨w8.heap.size, 0, none⟩) 1 1] 35)) _
           have hba : Below w8.heap.size w8 ((w8.alloc (.cells #[.int .u8 1] 5)).alloc (.cells #[.slice (some ⟨w7.heap.size, 0, none⟩) s s, .slice (some ⟨w8.heap.size, 0, none⟩) 1 1] 35)) := ((Below.refl _ w8).alloc (Nat.le_refl _) _).alloc (by rw [sizeA]; omega) _
           have hb8a := hb8.trans (hba.mono hb8.size)
           have hq := add_any _ U [(nA, zeros m)] nA (some ⟨w8.heap.size + 1, 0, none⟩) 2 2 [zeros s, [1]] _ (tab_gap hU7.out (hz8.below.trans (hba.mono hz8.below.size))) o1.out (gap_open hb8a.size) hszA rfl (Nat.le_refl _) (by simp [maxLen]) (bss_made2 _ hz8 (by omega) 5 35 _ rfl)
           rw [p3.out] at hq
           refine hq.mono ?_; clear hq; rintro e w9 ⟨rfl, hU9, hF9⟩
           have hb9 := hb8a.trans (hF9.below (fun k _ h => h.1) hb8a.size)
           replace hU9 := Lib.hid (tab_ungap hU9))
        | (go_at_call 22; with_reducible show Calls _ _ _ w9 _
           have hq := len_any _ U _ nA w9 hU9.out
           rw [p5.out] at hq
           refine hq.mono ?_; clear hq; rintro e w10 ⟨rfl, hb10'⟩
           have hb10 := hb9.trans (hb10'.mono hb9.size)
           have hU10 := Lib.hid (hU9.out.below hb10'))
        | (obtain ⟨w11, hr, hz11⟩ := hmk3.out w10; rw [hr]; clear hr; simp only [Result.andThen]; rw [Oper.upon_value]
           have hb11 := hb10.trans (hz11.below.mono hb10.size)
           have hU11 := Lib.hid (hU10.out.below hz11.below))
        | (go_at_call 15
           have hba : Below w11.heap.size w11 (w11.alloc (.cells #[.slice (some ⟨w10.heap.size, 0, none⟩) s s] 35)) := (Below.refl _ w11).alloc (Nat.le_refl _) _
           have hb11a := hb11.trans (hba.mono hb11.size)
           have hq := add_any _ U [(nA, zeros m)] nA (some ⟨w11.heap.size, 0, none⟩) 1 1 [zeros s] _ (tab_gap hU10.out (hz11.below.trans (hba.mono hz11.below.size))) o1.out (gap_open hb11a.size) hszA rfl (Nat.le_refl _) (by simp [maxLen]) (bss_made1 _ hz11 (by omega) 35)
           rw [p4.out] at hq
           refine hq.mono ?_; clear hq; rintro e w12 ⟨rfl, hU12, hF12⟩
           have hb12 := hb11a.trans (hF12.below (fun k _ h => h.1) hb11a.size)
           replace hU12 := Lib.hid (tab_ungap hU12))
        | (go_at_call 22; with_reducible show Calls _ _ _ w12 _
           have hq := len_any _ U _ nA w12 hU12.out
           rw [p6.out] at hq
           refine hq.mono ?_; clear hq; rintro e w13 ⟨rfl, hb13'⟩
           have hb13 := hb12.trans (hb13'.mono hb12.size)
           have hT13 := Lib.hid (hT.out.below hb13))
        | (go_at_call 25
           refine (all_any _ T _ w13 hT13.out (hokf.out i (by omega))).mono ?_; rintro e w14 ⟨v14, vs14, rfl, hR14, hb14'⟩
           obtain ⟨A14, c14, rfl, -, -, -⟩ := hR14.fils
           have hb14 := hb13.trans (hb14'.mono hb13.size)
           clear hR14
           have hmn := hmin.out
           rw [hlen.out])
        | (go_at_call 8; refine (hW.out _).mono ?_; rintro e w15 ⟨rfl, hb15⟩))
      go_ret
      exact ⟨rfl, (hbr.trans (hb14.mono hbr.size)).trans (hb15.mono (hbr.trans (hb14.mono hbr.size)).size)⟩
theorem contract (H : Type) (enc : TypeId × Value → H) (W : World) (base : Nat) (args : Array Value) (ds gs : List (DataW H)) (before : List MemPlace)
    (hval : ∀ (j : Nat) t v, Try.f6.params[j]? = some t → args[j]? = some v → Value.okWide Try.prog W .any base t v)
    (hW : DataW.Whole enc Try.prog Try.f6.params.toList Rows.filesFullSpec.vars false W args.toList ds gs before) :
    Calls Try.prog 6 args W fun e W' => ∃ v, e = .returned v ∧ Rows.filesFullSpec.post enc Try.prog Try.f6 false true false false W args v W' := by
  have hW' := hW
  obtain ⟨p, q, hA, hV, rfl, hfz, hnd⟩ := hW
  rw [Try.params6] at hA hval
  obtain ⟨v0, vs0, d0, ds0, p0, q0, hargs, rfl, rfl, h0, r0⟩ := trodAll_cons hA
  obtain ⟨v1, vs1, d1, ds1, p1, q1, rfl, rfl, rfl, h1, r1⟩ := trodAll_cons r0
  obtain ⟨rfl, rfl, rfl⟩ := trodAll_nil r1
  obtain rfl : args = #[v0, v1] := by cases args; simp_all
  obtain ⟨rfl, rfl⟩ := trodVars_none hV
  obtain ⟨a0, rfl, rfl, rfl, w0⟩ := open_int Try.underlying5 (hval 0 5 v0 rfl rfl) h0
  obtain ⟨a1, rfl, rfl, rfl, w1⟩ := open_int Try.underlying57 (hval 1 57 v1 rfl rfl) h1
  exact (core W a0 w0 a1 w1).mono fun e W' ⟨he, hb⟩ => ⟨_, he, law_post hW' rfl (by kernel_rfl) (by kernel_rfl) rfl hb⟩

theorem laid_met (os : Os) : laidMetH Try.prog Rows.filesFullRow.laid ((World.doorLaid Try.prog 4000 os).forCall (fun _ _ => 0) ⟨#[], #[.int .u8 0, .int .u16 0], []⟩).memory :=
  laidMetH_of_parts3 (fuel := 8) (laidMet_of_run' 8 (by kernel_rfl) (by kernel_rfl)) (by kernel_rfl) (by kernel_rfl)
theorem reads (os : Os) {H : Type} (enc : TypeId × Value → H) : ∃ places, DataW.whole enc Try.prog ((World.doorLaid Try.prog 4000 os).forCall (fun _ _ => 0) ⟨#[], #[.int .u8 0, .int .u16 0], []⟩).memory Try.f6.params.toList Rows.filesFullSpec.vars false #[Value.int .u8 0, .int .u16 0].toList 8 = some ([.lit (.int .u8 0), .lit (.int .u16 0)], [], places) :=
  ⟨[], by kernel_rfl⟩

set_option maxRecDepth 100000 in
theorem lifted (os : Os) (started : os.Started) (H : Type) (enc : TypeId × Value → H) (F : Stop.Interp) :
    ReturnsInHanded {} Try.checked os 6 .any ((OpenSpec.ofChange Rows.filesFullSpec).preRow enc Try.prog Try.f6 Rows.filesFullRow.domain false Rows.filesFullRow.laid) (((OpenSpec.ofChange Rows.filesFullSpec).at F).post enc Try.prog Try.f6 false true false false) := by
  obtain ⟨places, hx⟩ := reads os enc
  refine returnsInHanded_of_row (C := Try.checked) (s := (OpenSpec.ofChange Rows.filesFullSpec)) own started (by kernel_rfl) Try.func6
    (witness_row_at (enc := enc) (C := Try.checked) false (World.doorLaid Try.prog 4000 os) #[.int .u8 0, .int .u16 0] rfl (by kernel_rfl) (by kernel_rfl) (by kernel_rfl)
      (OpenSpec.preRow_of_cond 8 hx (by kernel_rfl) (fun k hk => by cases hk) (by kernel_rfl) (laid_met os))) ?_
  intro W base args ds gs before hval hW _ _ _ _ _ _
  exact contract H enc W base args ds gs before hval hW

theorem said : Rows.FilesFullSaid :=
  OpenClaim.holds_of_cond 6 Try.f6 rfl rfl rfl rfl rfl rfl rfl ⟨rfl, rfl, rfl, rfl, rfl⟩ rfl rfl rfl rfl rfl (by kernel_rfl) Try.func6 (by kernel_rfl)
    (of_decide_eq_true (by kernel_rfl)) (by unfold Func.isWrapper; first | (rw [if_pos (by decide +kernel)]; kernel_rfl) | (rw [if_neg (by decide +kernel)]; exact ⟨rfl, rfl⟩))
    (fun os started H enc _ F => by rw [OpenClaim.pre_eq_preRow]; exact lifted os started H enc F)

end Go.Proofs.Ytkdhfjnfdcopdaa.Full
