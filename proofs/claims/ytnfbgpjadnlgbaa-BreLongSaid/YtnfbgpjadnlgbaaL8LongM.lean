/- The statement BreLong: the law returns true for every byte and every number of 16 bits, and changes nothing that was there. No condition. -/
import Derived.Test.YtnfbgpjadnlgbaaM01
import Derived.Test.YtnfbgpjadnlgbaaM44
set_option linter.unusedVariables false
set_option linter.unusedSimpArgs false
set_option maxRecDepth 100000
namespace Go.Proofs.Ytnfbgpjadnlgbaa.Long
open Go.ChangeShapes Go.WideShapes Go.ChangeAt Go.RowKit

theorem bounds_u16 {x : Int} (h : (Lit.int .u16 x).wf = true) : 0 ≤ x ∧ x ≤ 65535 := by
  simpa [Lit.wf, IntKind.min, IntKind.max, IntKind.signed, IntKind.bits] using h
def RelF (W : World) (c : UInt8) (k : Nat) (i : Value) (wr : World) : Prop :=
  ∃ j : Nat, j ≤ k ∧ i = .int .i64 (j : Int) ∧ Held wr W.heap.size 5 (rowU k (fillF c j)) ∧ Below W.heap.size W wr
theorem RelF.mk {W : World} {c : UInt8} {k : Nat} {i : Value} {wr : World} (h : ∃ j : Nat, j ≤ k ∧ i = .int .i64 (j : Int) ∧ Held wr W.heap.size 5 (rowU k (fillF c j)) ∧ Below W.heap.size W wr) : RelF W c k i wr := h

set_option maxHeartbeats 8000000 in
theorem core (W : World) (a0 : Int) (ha0 : (Lit.int .u8 a0).wf = true) (a1 : Int) (ha1 : (Lit.int .u16 a1).wf = true) (hm : Mx W) :
    Calls Try.prog 3 #[.int .u8 a0, .int .u16 a1] W fun e w' => e = .returned (.bool true) ∧ Below W.heap.size W w' := by
  have hAw := Lib.hid (fun (w : World) (hm : Mx w) => awake_any w hm)
  have hm' := Lib.hid hm
  have b0 : 0 ≤ a0 ∧ a0 ≤ 255 := bounds_u8 ha0
  have b1 := bounds_u16 ha1
  clear hm ha0 ha1
  by_cases hs : a0 = 92 ∨ a0 = 91 ∨ a0 = 42 ∨ a0 = 36 ∨ a0 = 94 ∨ a0 = 46
  · rcases hs with rfl | rfl | rfl | rfl | rfl | rfl
    all_goals
      go_enter Try.func3, Try.ntmps3
      go_wp2_with (go_at_call 7; refine (hAw.out _ hm'.out).mono ?_; rintro e w1 ⟨rfl, hb1⟩)
      go_ret
      exact ⟨rfl, hb1⟩
  · obtain ⟨c, rfl⟩ : ∃ c : UInt8, a0 = (c.toNat : Int) := ⟨UInt8.ofNat a0.toNat, by rw [UInt8.toNat_ofNat_of_lt' (by show a0.toNat < 256; omega)]; omega⟩
    have hne : ∀ x : UInt8, (c.toNat : Int) ≠ (x.toNat : Int) → c ≠ x := fun x h e => h (by rw [e])
    have hp : plainB c := ⟨hne 92 (fun e => hs (.inl e)), hne 91 (fun e => hs (.inr (.inl e))), hne 42 (fun e => hs (.inr (.inr (.inl e)))), hne 36 (fun e => hs (.inr (.inr (.inr (.inl e))))), hne 94 (fun e => hs (.inr (.inr (.inr (.inr (.inl e)))))), hne 46 (fun e => hs (.inr (.inr (.inr (.inr (.inr e))))))⟩
    have e1 : ((c.toNat : Int) == 92) = false := u8_ne hp.1
    have e2 : ((c.toNat : Int) == 91) = false := u8_ne hp.2.1
    have e3 : ((c.toNat : Int) == 42) = false := u8_ne hp.2.2.1
    have e4 : ((c.toNat : Int) == 36) = false := u8_ne hp.2.2.2.1
    have e5 : ((c.toNat : Int) == 94) = false := u8_ne hp.2.2.2.2.1
    have e6 : ((c.toNat : Int) == 46) = false := u8_ne hp.2.2.2.2.2
    obtain ⟨j, hj⟩ : ∃ j : Nat, a1.tmod 700 = (j : Int) := ⟨(a1.tmod 700).toNat, by have := Int.tmod_nonneg 700 b1.1; omega⟩
    have hj7 : j < 700 := by have := Int.tmod_lt_of_pos a1 (show (0 : Int) < 700 by decide); omega
    have hjm : a1 % 700 = (j : Int) := by rw [← hj, Int.tmod_eq_emod_of_nonneg b1.1]
    obtain ⟨k, hk⟩ : ∃ k, k = j + 1 := ⟨_, rfl⟩
    have hw1 : IntKind.i64.wrap (1 + (j : Int)) = (k : Int) := by rw [IntWalk.i64_in _ (by omega)]; omega
    have hw2 : IntKind.i64.wrap (2 * (k : Int)) = 2 * (k : Int) := IntWalk.i64_in _ (by omega)
    have hw3 : IntKind.i64.wrap (2 * (k : Int) - 1) = 2 * (k : Int) - 1 := IntWalk.i64_in _ (by omega)
    have hw4 : IntKind.i64.wrap a1 = a1 := IntWalk.i64_in _ (by omega)
    have hk1 : 1 ≤ k := by omega
    have hk7 : k ≤ 700 := by omega
    have hle := Lib.hid (long_end hp hk1 (show k ≤ 1000 by omega))
    have hMk := make_bytes k (by omega)
    have hH0 := Lib.hid (show Held (W.alloc (.cells (rowU k (fun _ => 0)) 5)) W.heap.size 5 (rowU k (fillF c 0)) from by
      have := held_new W 5 (rowU k (fun _ => 0))
      rwa [rowU_congr (g := fillF c 0) fun i _ => by simp [fillF]] at this)
    clear hs hne hp hk
    go_enter Try.func3, Try.ntmps3
    go_wp2
    go_loopw [7] (fun i wr => RelF W c k i wr) (fun i _ => k - (intOf i).toNat)
    case atStart => exact RelF.mk ⟨0, by omega, rfl, hH0.out, (Below.refl _ _).alloc (Nat.le_refl _) _⟩
    case round =>
      clear hMk hH0
      obtain ⟨i, hik, rfl, hH, hb⟩ := hrel
      by_cases hlt : i < k
      · have c0 := hH.at_ (rowU_get k (fillF c i) i hlt)
        have t0 := hH.thawed i
        have hH' := Lib.hid hH.fill
        have hb' := Lib.hid (hb.setCell (p := ⟨W.heap.size, i, none⟩) (Nat.le_refl _) (.int .u8 (c.toNat : Int)))
        clear hH hb
        go_wp2
        go_roundw
        case rel => exact RelF.mk ⟨i + 1, hlt, by go_num, hH'.out, hb'.out⟩
        case measure => simp [intOf]; omega
      · obtain rfl : i = k := by omega
        have hI := Inp.of (hm'.out.grow hb) (n := i) (l := List.replicate i c) (by simp) (Nat.le_refl _) (by unfold maxLen; omega) (by omega) (hH.byt_fill.more hH.lt)
        replace hb := Lib.hid hb
        clear hH
        by_cases hbig : 1000 < 2 * i - 1
        · have hP := Lib.hid (bparse_bad hI (hle.out.2 hbig))
          have hd : decide (1000 < 2 * (i : Int) - 1) = true := decide_eq_true (by omega)
          have hd' : 1000 < 2 * (i : Int) - 1 := by omega
          clear hI hle
          go_wp2_with (first
            | (go_at_call 8; refine (hP.out).mono ?_; rintro e w1 ⟨rfl, hb1⟩; replace hb1 := hb.out.trans (hb1.mono hb.out.size); have hR := (held_new w1 27 #[.slice none 0 0, .int .i64 0]).at_ (i := 0) rfl; replace hb1 := Lib.hid (hb1.alloc hb1.size (.cells #[.slice none 0 0, .int .i64 0] 27)))
            | (go_at_call 7; refine (hAw.out _ (hm'.out.grow hb1.out)).mono ?_; rintro e w2 ⟨rfl, hb2⟩; replace hb2 := Lib.hid (hb1.out.trans (hb2.mono hb1.out.size))))
          go_ret
          exact ⟨rfl, hb2.out⟩
        · obtain ⟨ns, hn, he⟩ := hle.out.1 (by omega)
          have hP := Lib.hid (bparse_fin hI he hn)
          have hd : decide (1000 < 2 * (i : Int) - 1) = false := decide_eq_false (by omega)
          have hd' : ¬ 1000 < 2 * (i : Int) - 1 := by omega
          obtain ⟨m, hmk⟩ : ∃ m, m = 2 * i - 1 := ⟨_, rfl⟩
          rw [← hmk] at hP
          have hq : ((m : Int) == 2 * (i : Int) - 1) = true := by rw [beq_iff_eq]; omega
          clear hI hle hn he hmk
          go_wp2_with (first
            | (go_at_call 8; refine (hP.out).mono ?_; intro e w1 hy; obtain ⟨q1, c1, rfl, -, hb1, -, -⟩ := hy.ex; clear hy; replace hb1 := hb.out.trans (hb1.mono hb.out.size); have hR := (held_new w1 27 #[.slice (some ⟨q1, 0, none⟩) m c1, .int .i64 0]).at_ (i := 0) rfl; have hR1 := (held_new w1 27 #[.slice (some ⟨q1, 0, none⟩) m c1, .int .i64 0]).at_ (i := 1) rfl; replace hb1 := Lib.hid (hb1.alloc hb1.size (.cells #[.slice (some ⟨q1, 0, none⟩) m c1, .int .i64 0] 27)))
            | (go_at_call 7; refine (hAw.out _ (hm'.out.grow hb1.out)).mono ?_; rintro e w2 ⟨rfl, hb2⟩; replace hb2 := Lib.hid (hb1.out.trans (hb2.mono hb1.out.size))))
          go_ret
          exact ⟨rfl, hb2.out⟩
theorem contract (H : Type) (enc : TypeId × Value → H) (W : World) (base : Nat) (args : Array Value) (ds gs : List (DataW H)) (before : List MemPlace)
    (hval : ∀ (j : Nat) t v, Try.f3.params[j]? = some t → args[j]? = some v → Value.okWide Try.prog W .any base t v)
    (hW : DataW.Whole enc Try.prog Try.f3.params.toList Rows.breLongSpec.vars false W args.toList ds gs before) (hsh : W.ShapedOpen Try.prog) :
    Calls Try.prog 3 args W fun e W' => ∃ v, e = .returned v ∧ Rows.breLongSpec.post enc Try.prog Try.f3 false true false false W args v W' := by
  have hW' := hW
  obtain ⟨p, q, hA, hV, rfl, hfz, hnd⟩ := hW
  rw [Try.params3] at hA hval
  obtain ⟨v0, vs0, d0, ds0, p0, q0, hargs, rfl, rfl, h0, r0⟩ := trodAll_cons hA
  obtain ⟨v1, vs1, d1, ds1, p1, q1, rfl, rfl, rfl, h1, r1⟩ := trodAll_cons r0
  obtain ⟨rfl, rfl, rfl⟩ := trodAll_nil r1
  obtain rfl : args = #[v0, v1] := by cases args; simp_all
  obtain ⟨rfl, rfl⟩ := trodVars_none hV
  obtain ⟨a0, rfl, rfl, rfl, w0⟩ := open_int Try.underlying5 (hval 0 5 v0 rfl rfl) h0
  obtain ⟨a1, rfl, rfl, rfl, w1⟩ := open_int Try.underlying22 (hval 1 22 v1 rfl rfl) h1
  have hmx := max_of hsh
  exact (core W a0 w0 a1 w1 hmx).mono fun e W' ⟨he, hb⟩ => ⟨_, he, law_post hW' rfl (by kernel_rfl) (by kernel_rfl) rfl hb⟩

theorem laid_met (os : Os) : laidMetH Try.prog Rows.breLongRow.laid ((World.doorLaid Try.prog 4000 os).forCall (fun _ _ => 0) ⟨#[], #[.int .u8 0, .int .u16 0], []⟩).memory :=
  laidMetH_of_parts3 (fuel := 8) (laidMet_of_run' 8 (by kernel_rfl) (by kernel_rfl)) (by kernel_rfl) (by kernel_rfl)
theorem reads (os : Os) {H : Type} (enc : TypeId × Value → H) : ∃ places, DataW.whole enc Try.prog ((World.doorLaid Try.prog 4000 os).forCall (fun _ _ => 0) ⟨#[], #[.int .u8 0, .int .u16 0], []⟩).memory Try.f3.params.toList Rows.breLongSpec.vars false #[Value.int .u8 0, .int .u16 0].toList 8 = some ([.lit (.int .u8 0), .lit (.int .u16 0)], [], places) :=
  ⟨[], by kernel_rfl⟩

set_option maxRecDepth 100000 in
theorem lifted (os : Os) (started : os.Started) (H : Type) (enc : TypeId × Value → H) (F : Stop.Interp) :
    ReturnsInHanded {} Try.checked os 3 .any ((OpenSpec.ofChange Rows.breLongSpec).preRow enc Try.prog Try.f3 Rows.breLongRow.domain false Rows.breLongRow.laid) (((OpenSpec.ofChange Rows.breLongSpec).at F).post enc Try.prog Try.f3 false true false false) := by
  obtain ⟨places, hx⟩ := reads os enc
  refine returnsInHanded_of_row (C := Try.checked) (s := (OpenSpec.ofChange Rows.breLongSpec)) own started (by kernel_rfl) Try.func3
    (witness_row_at (enc := enc) (C := Try.checked) false (World.doorLaid Try.prog 4000 os) #[.int .u8 0, .int .u16 0] rfl (by kernel_rfl) (by kernel_rfl) (by kernel_rfl)
      (OpenSpec.preRow_of_cond 8 hx (by kernel_rfl) (fun k hk => by cases hk) (by kernel_rfl) (laid_met os))) ?_
  intro W base args ds gs before hval hW _ _ _ _ hsh _
  exact contract H enc W base args ds gs before hval hW hsh

theorem said : Rows.BreLongSaid :=
  OpenClaim.holds_of_cond 3 Try.f3 rfl rfl rfl rfl rfl rfl rfl ⟨rfl, rfl, rfl, rfl, rfl⟩ rfl rfl rfl rfl rfl (by kernel_rfl) Try.func3 (by kernel_rfl)
    (of_decide_eq_true (by kernel_rfl)) (by unfold Func.isWrapper; first | (rw [if_pos (by decide +kernel)]; kernel_rfl) | (rw [if_neg (by decide +kernel)]; exact ⟨rfl, rfl⟩))
    (fun os started H enc _ F => by rw [OpenClaim.pre_eq_preRow]; exact lifted os started H enc F)

end Go.Proofs.Ytnfbgpjadnlgbaa.Long
