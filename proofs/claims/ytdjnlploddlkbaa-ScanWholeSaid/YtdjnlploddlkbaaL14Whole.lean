/- ScanWhole answers true of all bytes, and they read afterwards as they read before. Conditions: none. -/
import Derived.Test.YtdjnlploddlkbaaFrame
import Derived.Test.YtdjnlploddlkbaaScnK
import Derived.Test.YtdjnlploddlkbaaScnL
import Derived.Test.YtdjnlploddlkbaaScnH
set_option linter.unusedVariables false
set_option linter.unusedSimpArgs false
set_option maxRecDepth 100000
namespace Go.Proofs.Ytdjnlploddlkbaa.Whole14
open Go.ChangeShapes Go.WideShapes Go.ChangeAt Go.RowKit

theorem nl_last : ∀ r : List UInt8, r ≠ [] → ((r[adv r - 1]? == some 10) = hasNL r)
  | [], h => absurd rfl h
  | c :: t, _ => by
    rw [adv_cons, hasNL_cons]
    by_cases hc : c = 10
    · subst hc; simp
    · rw [if_neg hc, decide_eq_false hc, Bool.false_or, Nat.add_sub_cancel]
      cases t with
      | nil =>
        show (([c] : List UInt8)[adv []]? == some 10) = hasNL []
        have e : adv ([] : List UInt8) = 0 := rfl
        rw [e]
        show (some c == some 10) = false
        rw [beq_eq_false_iff_ne]
        intro h; exact hc (Option.some.inj h)
      | cons y s =>
        have ih := nl_last (y :: s) (by simp)
        have hp := adv_pos (d := y :: s) (by simp)
        rw [← ih]
        obtain ⟨m, hm⟩ : ∃ m, adv (y :: s) = m + 1 := ⟨adv (y :: s) - 1, by omega⟩
        rw [hm, List.getElem?_cons_succ, Nat.add_sub_cancel]
theorem take_adv {l : List UInt8} {a : Nat} (ha : a < l.length) :
    l.take (a + adv (l.drop a)) = l.take a ++ lnOf (l.drop a) ++ (if hasNL (l.drop a) = true then [10] else []) := by
  rw [List.take_add, line_take, List.append_assoc]
  congr 1
  unfold lineB
  split
  · simp [*]
  · simp [*]
theorem len_adv {l : List UInt8} {a : Nat} (ha : a < l.length) : a < a + adv (l.drop a) ∧ a + adv (l.drop a) ≤ l.length := by
  have h1 := adv_pos (d := l.drop a) (by intro e; have := congrArg List.length e; rw [List.length_drop] at this; simp at this; omega)
  have h2 := adv_le (l.drop a)
  rw [List.length_drop] at h2
  omega
/-- The byte ahead of the next line's beginning is a newline just if the line has one. -/
theorem at_adv {l : List UInt8} {a j : Nat} (ha : a < l.length) (hj : a + adv (l.drop a) = j + 1) (hjl : j < l.length) : ((((l[j]'hjl).toNat : Nat) : Int) == 10) = hasNL (l.drop a) := by
  have h1 := adv_pos (d := l.drop a) (by intro e; have := congrArg List.length e; rw [List.length_drop] at this; simp at this; omega)
  have h := nl_last (l.drop a) (by intro e; have := congrArg List.length e; rw [List.length_drop] at this; simp at this; omega)
  rw [List.getElem?_drop, show a + (adv (l.drop a) - 1) = j by omega, List.getElem?_eq_getElem hjl] at h
  rw [← h]
  rw [Bool.eq_iff_iff, beq_iff_eq, beq_iff_eq]
  constructor
  · intro e
    have : l[j]'hjl = 10 := UInt8.toNat_inj.1 (show (l[j]'hjl).toNat = (10 : UInt8).toNat by have : (10 : UInt8).toNat = 10 := rfl; omega)
    rw [this]
  · intro e
    rw [Option.some.inj e]; rfl
set_option maxHeartbeats 4000000 in
theorem core (W : World) (A1 : Option Addr) (n1 c1 : Nat) (l1 : List UInt8) (hn1 : n1 = l1.length) (hc1 : n1 ≤ c1) (hm1 : c1 ≤ maxLen) (h1 : Byt W W.heap.size A1 l1) (hmx : Mx W) :
    Calls Try.prog 6 #[.slice A1 n1 c1] W fun e W' => e = .returned (.bool true) ∧ Below W.heap.size W W' := by
  have hW := Lib.hid (fun w => awake14_any w)
  by_cases hok : n1 ≤ 200
  · have hO := Lib.hid (open_any (w := W) (A := A1) (n := n1) (c := c1) (l := l1) hn1 h1 (Nat.le_refl _) (by omega))
    have hmxh := Lib.hid (fun (w' : World) (hb : Below W.heap.size W w') => hmx.grow hb)
    have hbB := Lib.hid (fun (w' : World) (hb : Below W.heap.size W w') => h1.below hb)
    have hnh := Lib.hid hn1
    have hm1h := Lib.hid hm1
    have hten := Lib.hid (fun (wr : World) => show BytV (wr.alloc (.cells #[.int .u8 10] 5)) (wr.heap.size + 1) (.slice (some ⟨wr.heap.size, 0, none⟩) 1 1) [10] from bytv_new wr [10] 1 rfl (by decide))
    clear h1 hn1 hmx hm1
    go_enter Try.func6, Try.ntmps6
    go_upto_region 4 with (go_at_call 7; refine (hO.out).mono ?_; rintro e w1 ⟨⟨C, v, rfl, hCge, hc1'⟩, hb1⟩)
    have hcu := Lib.hid hc1'
    have hb1h := Lib.hid hb1
    have hs1 := Lib.hid (show W.heap.size ≤ w1.heap.size from hb1.size)
    clear hO hc1' hb1 hCge
    go_wp2
    go_loopw [4, 5] (fun vo i wr => ∃ (v0 : Value) (k a : Nat), v0 = vo ∧ i = .int .i64 (k : Nat) ∧ k ≤ a ∧ a ≤ n1 ∧ OwnB wr w1.heap.size vo (l1.take a) ∧ CurQ w1 wr W.heap.size C v l1 a) (fun _ i _ => n1 + 1 - (intOf i).toNat)
    case atStart => exact ⟨_, 0, 0, rfl, rfl, Nat.le_refl _, Nat.zero_le _, OwnB.nil _ _, CurQ.refl hcu.out⟩
    case round =>
      obtain ⟨vo, k, a, rfl, rfl, hka, han, hown, hq⟩ := hrel
      have hownh := Lib.hid hown
      have hqh := Lib.hid hq
      have hbr := Lib.hid (show Below W.heap.size W wr from hb1h.out.trans (hq.below hcu.out))
      have hAt0 := Lib.hid (at_any hq.cur)
      clear hown hq
      have hkI : (k : Int) ≤ (n1 : Int) := by omega
      by_cases hlt : a < n1
      · have hax : a < l1.length := by rw [← hnh.out]; exact hlt
        have hT := Lib.hid (take_adv hax)
        obtain ⟨j, hj⟩ : ∃ j, a + adv (l1.drop a) = j + 1 := ⟨a + adv (l1.drop a) - 1, by have := (len_adv hax).1; omega⟩
        have hja : a ≤ j := by have := (len_adv hax).1; omega
        have hjn : j < n1 := by have := (len_adv hax).2; rw [hnh.out]; omega
        have hjx : j < l1.length := by rw [← hnh.out]; exact hjn
        have hNL := Lib.hid (at_adv hax hj hjx)
        have haI : (a : Int) < (n1 : Int) := by omega
        obtain ⟨Y, hY⟩ : ∃ Y, Hid (lnOf (l1.drop a) = Y) := ⟨_, Lib.hid rfl⟩
        rw [hY.out, hj] at hT
        have hYl := Lib.hid (show Y.length ≤ 200 from by have := lnOf_le (l1.drop a); rw [hY.out, List.length_drop, ← hnh.out] at this; omega)
        have hRe := Lib.hid (rest_to hqh.out.cur (hmxh.out _ hbr.out) hY.out hj)
        have hL1 := Lib.hid (show (l1.take a).length + Y.length ≤ 1000000000 from by have := hYl.out; rw [List.length_take]; omega)
        have hL2 := Lib.hid (show (l1.take a ++ Y).length + ([10] : List UInt8).length ≤ 1000000000 from by have := hYl.out; simp only [List.length_append, List.length_take, List.length_singleton]; omega)
        replace hj := Lib.hid hj
        go_upto_region 8 with (go_at_call 11; refine (hAt0.out).mono ?_; rintro e w' ⟨rfl, rfl⟩)
        clear hAt0
        go_upto_region 9 with (first
          | (go_at_call 16; refine (hRe.out).mono ?_; rintro e w2 ⟨⟨Au, cu, rfl, hou⟩, hq2⟩; have hown2 := Lib.hid (hq2.other hqh.out.cur hownh.out); have houh := Lib.hid hou; have hq2h := Lib.hid (hqh.out.trans hq2); clear hou hq2)
          | (at_builtin; refine wpList_app rfl (.tmp 36) (.tmp 38) rfl rfl hown2.out rfl (OwnB.byt houh.out) hL1.out hq2h.out.grown.size ?_; intro v3 w3 h3 h3a; have hq3 := Lib.hid (CurQ.fresh hcu.out hq2h.out h3a.grown (fun i e => (World.ownsRow.lt hown2.out i e).1)); have hown3 := Lib.hid h3; clear h3 h3a))
        have hb3 := Lib.hid (show Below W.heap.size W w3 from hb1h.out.trans (hq3.out.below hcu.out))
        have hAt3 := Lib.hid (show Calls Try.prog 11 #[.pointer (some ⟨C, 0, none⟩)] w3 fun e w'' => e = .returned (.int .i64 ((j : Int) + 1)) ∧ w3 = w'' from at_any hq3.out.cur)
        obtain ⟨ad, rfl, -, hc0⟩ := (hbB.out w3 hb3.out).at_ hjx
        have hjI : (j : Int) + 1 ≤ (n1 : Int) := by omega
        have hjI2 : (j : Int) < (n1 : Int) := by omega
        have hjw : IntKind.i64.wrap ((j : Int) + 1 - 1) = (j : Int) := by rw [Int.add_sub_cancel]; exact IntWalk.i64_in _ (by omega)
        have hzl : (l1[j]'hjx).toNat < 256 := UInt8.toNat_lt _
        have e10 := hNL.out
        clear hNL hRe hown2 houh hq2h hqh hownh hbr
        generalize ((l1[j]'hjx).toNat : Int) = z at *
        cases hN : hasNL (l1.drop a) with
        | true =>
          rw [hN] at e10 hT
          have hT2 := Lib.hid (show l1.take (j + 1) = l1.take a ++ Y ++ [10] from hT.out)
          replace hN := Lib.hid hN
          clear hT
          have hA3 := Lib.hid ((Below.refl w3.heap.size w3).alloc (Nat.le_refl _) (.cells #[.int .u8 10] 5))
          have hown4 := Lib.hid (OwnB.keep hown3.out hA3.out)
          have hs4 := Lib.hid (Nat.le_trans hq3.out.grown.size hA3.out.size)
          go_wp2_with (first
            | (go_at_call 11; refine (hAt3.out).mono ?_; rintro e w4 ⟨rfl, rfl⟩)
            | (at_builtin; refine wpList_app rfl (.tmp 59) (.tmp 60) rfl rfl hown4.out rfl (hten.out w3) hL2.out hs4.out ?_; intro v5 w5 h5 h5a; have hq5 := Lib.hid (CurQ.fresh hcu.out (hq3.out.keep hA3.out) h5a.grown (fun i e => (World.ownsRow.lt hown4.out i e).1)); have hown5 := Lib.hid h5; clear h5 h5a))
          go_roundw
          case rel => exact ⟨_, k + 1, j + 1, rfl, rfl, by omega, by omega, by rw [hT2.out]; exact hown5.out, hq5.out⟩
          case measure => simp [intOf]; omega
        | false =>
          rw [hN] at e10 hT
          have hT2 := Lib.hid (show l1.take (j + 1) = l1.take a ++ Y from by have := hT.out; simpa using this)
          replace hN := Lib.hid hN
          clear hT
          go_wp2_with (go_at_call 11; refine (hAt3.out).mono ?_; rintro e w4 ⟨rfl, rfl⟩)
          go_roundw
          case rel => exact ⟨_, k + 1, j + 1, rfl, rfl, by omega, by omega, by rw [hT2.out]; exact hown3.out, hq3.out⟩
          case measure => simp [intOf]; omega
      · obtain rfl : a = n1 := by omega
        have hall : l1.take a = l1 := by rw [hnh.out, List.take_length]
        rw [hall] at hownh
        clear hall
        obtain ⟨Ao, co, rfl, -⟩ := own_byt hownh.out
        have hPk := Lib.hid (fun w => peek_nil w)
        have hNx := Lib.hid (fun w => next_nil w)
        have hNu := Lib.hid (fun w => num_nil 5 w)
        have hUn := Lib.hid (fun w => until_nil 47 w)
        have hTx := Lib.hid (fun w => text_nil w)
        have hAn := Lib.hid (fun w => at_nil w)
        have hSk := Lib.hid (fun A n c w => skip_nil A n c w)
        have hWd := Lib.hid (fun w => word_nil w)
        have hRn := Lib.hid (fun w => rest_nil w)
        have hAt := Lib.hid (fun (w' : World) (hb : Below wr.heap.size wr w') => at_any (hqh.out.cur.keep hb))
        have hSm := Lib.hid (fun (w' : World) (hb : Below wr.heap.size wr w') => same_arg (hownh.out.keep hb) hnh.out hc1 (hbB.out w' (hbr.out.trans (hb.mono hbr.out.size))) (Nat.le_trans hbr.out.size hb.size))
        go_upto_region 12 with (go_at_call 11; refine (hAt0.out).mono ?_; rintro e w' ⟨rfl, rfl⟩)
        clear hAt0
        go_upto_region 17 with (first
          | (go_at_call 18; refine (hPk.out _).mono ?_; rintro e w' ⟨rfl, rfl⟩)
          | (go_at_call 19; refine (hNx.out _).mono ?_; rintro e w' ⟨rfl, rfl⟩)
          | (go_at_call 20; refine (hNu.out _).mono ?_; rintro e w' ⟨rfl, rfl⟩)
          | (go_at_call 8; refine (hUn.out _).mono ?_; rintro e w' ⟨rfl, rfl⟩)
          | (go_at_call 17; refine (hTx.out _).mono ?_; rintro e w' ⟨rfl, rfl⟩))
        clear hPk hNx hNu hUn hTx
        go_upto_region 19 with (first
          | (go_at_call 11; refine (hAn.out _).mono ?_; rintro e w' ⟨rfl, rfl⟩)
          | (go_at_call 21; refine (hSk.out _ _ _ _).mono ?_; rintro e w4 ⟨rfl, hb4⟩; have hb4h := Lib.hid (show Below wr.heap.size wr w4 from ((Below.refl wr.heap.size wr).alloc (Nat.le_refl _) _).trans (hb4.mono (by rw [sizeA']; exact Nat.le_succ _))); clear hb4)
          | (go_at_call 22; refine (hWd.out _).mono ?_; rintro e w' ⟨rfl, rfl⟩)
          | (go_at_call 16; refine (hRn.out _).mono ?_; rintro e w' ⟨rfl, rfl⟩))
        clear hAn hSk hWd hRn
        have hS4 := Lib.hid (hSm.out w4 hb4h.out)
        go_wp2_with (first
          | (go_at_call 15; refine (hS4.out).mono ?_; rintro e w5 ⟨rfl, hb5⟩; have hb5h := Lib.hid (show Below wr.heap.size wr w5 from hb4h.out.trans (hb5.mono hb4h.out.size)); have hAt5 := Lib.hid (hAt.out w5 hb5h.out); clear hb5)
          | (go_at_call 11; refine (hAt5.out).mono ?_; rintro e w6 ⟨rfl, rfl⟩)
          | (go_at_call 12; refine (hW.out _).mono ?_; rintro e w7 ⟨rfl, hb7⟩))
        go_ret
        have hbe : Below W.heap.size W w5 := hbr.out.trans (hb5h.out.mono hbr.out.size)
        exact ⟨rfl, hbe.trans (hb7.mono hbe.size)⟩
  · go_enter Try.func6, Try.ntmps6
    go_wp2_with (go_at_call 12; refine (hW.out _).mono ?_; rintro e w3 ⟨rfl, hb3⟩)
    go_ret
    exact ⟨rfl, hb3⟩
theorem contract (H : Type) (enc : TypeId × Value → H) (W : World) (base : Nat) (args : Array Value) (ds gs : List (DataW H)) (before : List MemPlace)
    (hval : ∀ (j : Nat) t v, Try.f6.params[j]? = some t → args[j]? = some v → Value.okWide Try.prog W .any base t v)
    (hW : DataW.Whole enc Try.prog Try.f6.params.toList Rows.scanWholeSpec.vars false W args.toList ds gs before) (hsh : W.ShapedOpen Try.prog) :
    Calls Try.prog 6 args W fun e W' => ∃ v, e = .returned v ∧ Rows.scanWholeSpec.post enc Try.prog Try.f6 false true false false W args v W' := by
  have hW' := hW
  obtain ⟨p, q, hA, hV, rfl, hfz, hnd⟩ := hW
  rw [Try.params6] at hA hval
  obtain ⟨v0, vs0, d0, ds0, p0, q0, hargs, rfl, rfl, h0, r0⟩ := trodAll_cons hA
  obtain ⟨rfl, rfl, rfl⟩ := trodAll_nil r0
  obtain rfl : args = #[v0] := by cases args; simp_all
  obtain ⟨rfl, rfl⟩ := trodVars_none hV
  obtain ⟨A0, n0, c0, l0, rfl, e0, k0, m0, x0⟩ := open_byt Try.underlying24 Try.underlying5 (by kernel_rfl) (hval 0 24 v0 rfl rfl) h0
  have hmx := max_of hsh
  exact (core W A0 n0 c0 l0 e0 k0 m0 x0 hmx).mono fun e W' ⟨he, hb⟩ => ⟨_, he, law_post hW' rfl (by kernel_rfl) (by kernel_rfl) rfl hb⟩

theorem laid_met (os : Os) : laidMetH Try.prog Rows.scanWholeRow.laid ((World.doorLaid Try.prog 4000 os).forCall (fun _ _ => 0) ⟨#[], #[.slice none 0 0], []⟩).memory :=
  laidMetH_of_parts3 (fuel := 8) (laidMet_of_run' 8 (by kernel_rfl) (by kernel_rfl)) (by kernel_rfl) (by kernel_rfl)
theorem reads (os : Os) {H : Type} (enc : TypeId × Value → H) : ∃ places, DataW.whole enc Try.prog ((World.doorLaid Try.prog 4000 os).forCall (fun _ _ => 0) ⟨#[], #[.slice none 0 0], []⟩).memory Try.f6.params.toList Rows.scanWholeSpec.vars false #[Value.slice none 0 0].toList 8 = some ([.nil], [], places) :=
  ⟨[], by kernel_rfl⟩

set_option maxRecDepth 100000 in
theorem lifted (os : Os) (started : os.Started) (H : Type) (enc : TypeId × Value → H) (F : Stop.Interp) :
    ReturnsInHanded {} Try.checked os 6 .any ((OpenSpec.ofChange Rows.scanWholeSpec).preRow enc Try.prog Try.f6 Rows.scanWholeRow.domain false Rows.scanWholeRow.laid) (((OpenSpec.ofChange Rows.scanWholeSpec).at F).post enc Try.prog Try.f6 false true false false) := by
  obtain ⟨places, hx⟩ := reads os enc
  refine returnsInHanded_of_row (C := Try.checked) (s := (OpenSpec.ofChange Rows.scanWholeSpec)) own started (by kernel_rfl) Try.func6
    (witness_row_at (enc := enc) (C := Try.checked) false (World.doorLaid Try.prog 4000 os) #[.slice none 0 0] rfl (by kernel_rfl) (by kernel_rfl) (by kernel_rfl)
      (OpenSpec.preRow_of_cond 8 hx (by kernel_rfl) (fun k hk => by cases hk) (by kernel_rfl) (laid_met os))) ?_
  intro W base args ds gs before hval hW _ _ _ _ hsh _
  exact contract H enc W base args ds gs before hval hW hsh

theorem said : Rows.ScanWholeSaid :=
  OpenClaim.holds_of_cond 6 Try.f6 rfl rfl rfl rfl rfl rfl rfl ⟨rfl, rfl, rfl, rfl, rfl⟩ rfl rfl rfl rfl rfl (by kernel_rfl) Try.func6 (by kernel_rfl)
    (of_decide_eq_true (by kernel_rfl)) (by unfold Func.isWrapper; first | (rw [if_pos (by decide +kernel)]; kernel_rfl) | (rw [if_neg (by decide +kernel)]; exact ⟨rfl, rfl⟩))
    (fun os started H enc _ F => by rw [OpenClaim.pre_eq_preRow]; exact lifted os started H enc F)

end Go.Proofs.Ytdjnlploddlkbaa.Whole14
