/- ScanUntil answers true of all bytes, and they read afterwards as they read before. Conditions: none. -/
import Derived.Test.YtdjnlploddlkbaaFrame
import Derived.Test.YtdjnlploddlkbaaScnK
import Derived.Test.YtdjnlploddlkbaaScnD
import Derived.Test.YtdjnlploddlkbaaScnE
import Derived.Test.YtdjnlploddlkbaaScnL
set_option linter.unusedVariables false
set_option linter.unusedSimpArgs false
set_option maxRecDepth 100000
namespace Go.Proofs.Ytdjnlploddlkbaa.Until14
open Go.ChangeShapes Go.WideShapes Go.ChangeAt Go.RowKit

theorem unt_bent {d : UInt8} (hd : dlm d = true) (l r : List UInt8) : untS d (bentL d l ++ [d] ++ r) = some (bentL d l).length := by
  have h92 : anyOf [d, 10] 92 = false := by
    cases h : anyOf [d, 10] 92 with
    | false => rfl
    | true =>
      unfold anyOf at h
      rw [List.contains_eq_mem, decide_eq_true_iff] at h
      simp only [List.mem_cons, List.not_mem_nil, or_false] at h
      rcases h with h | h
      · exact absurd h.symm (dlm_no92 hd)
      · exact absurd h (by decide)
  have hp : ∀ x, anyOf [d, 10] x = true → x = 10 ∨ x = d := by
    intro x h
    unfold anyOf at h
    rw [List.contains_eq_mem, decide_eq_true_iff] at h
    simp only [List.mem_cons, List.not_mem_nil, or_false] at h
    exact h.symm
  have h1 : plS (anyOf [d, 10]) (bentL d l ++ (d :: r)) = (bentL d l).length := plS_bent h92 hp l (d :: r) (by
    intro c hc
    simp only [List.head?_cons, Option.mem_def, Option.some.injEq] at hc
    subst hc
    unfold anyOf; simp)
  rw [List.append_assoc]
  exact untS_some h1 (by simp)
set_option maxHeartbeats 2000000 in
theorem core (W : World) (A1 : Option Addr) (n1 c1 : Nat) (l1 : List UInt8) (hn1 : n1 = l1.length) (hc1 : n1 ≤ c1) (hm1 : c1 ≤ maxLen) (h1 : Byt W W.heap.size A1 l1)
    (A2 : Option Addr) (n2 c2 : Nat) (l2 : List UInt8) (hn2 : n2 = l2.length) (hc2 : n2 ≤ c2) (hm2 : c2 ≤ maxLen) (h2 : Byt W W.heap.size A2 l2) (z : Int) (hz : (Lit.int .u8 z).wf = true) (hmx : Mx W) :
    Calls Try.prog 4 #[.slice A1 n1 c1, .slice A2 n2 c2, .int .u8 z] W fun e W' => e = .returned (.bool true) ∧ Below W.heap.size W W' := by
  obtain ⟨d, rfl⟩ := byte_arg hz
  clear hz
  have hW := Lib.hid (fun w => awake14_any w)
  have hR := Lib.hid (rIsDelim_any d W)
  by_cases hok : n1 ≤ 100 ∧ n2 ≤ 100 ∧ dlm d = true
  · obtain ⟨q1, q2, hd⟩ := hok
    rw [hd] at hR
    have hBe := Lib.hid (bent_any d hn1 hc1 hm1 (Nat.le_refl _) h1 (by omega))
    have hXl := Lib.hid (show (bentL d l1).length ≤ 200 from by have := bentL_len d l1; omega)
    have hU0 := Lib.hid (unt_bent hd l1 l2)
    have hn2h := Lib.hid hn2
    have hmore := Lib.hid (fun (w' : World) (hb : Below W.heap.size W w') => show BytV w' W.heap.size (.slice A2 n2 c2) l2 from ⟨A2, n2, c2, rfl, hn2, hc2, hm2, h2.below hb⟩)
    have hmoreB := Lib.hid (fun (w' : World) (hb : Below W.heap.size W w') => h2.below hb)
    have hl2 := Lib.hid (show l2.length ≤ 100 from by omega)
    have hone := Lib.hid (fun (wr : World) => show BytV (wr.alloc (.cells #[.int .u8 (d.toNat : Int)] 5)) (wr.heap.size + 1) (.slice (some ⟨wr.heap.size, 0, none⟩) 1 1) [d] from bytv_new wr [d] 1 rfl (by decide))
    have hmxh := Lib.hid (fun (w' : World) (hb : Below W.heap.size W w') => hmx.grow hb)
    have hdh := Lib.hid hd
    clear h1 h2 hn1 hn2 hm1 hm2 hmx hd
    generalize bentL d l1 = X at *
    obtain ⟨L, hL⟩ : ∃ L, Hid (X ++ [d] ++ l2 = L) := ⟨_, Lib.hid rfl⟩
    rw [hL.out] at hU0
    have hU := Lib.hid (fun w B C v (h : Cur w B C v L 0) => until_yes h d hdh.out (k := X.length) (t := X) hU0.out (by rw [List.drop_zero, ← hL.out, List.append_assoc, List.take_left]))
    have hdr := Lib.hid (show L.drop (X.length + 1) = l2 from by rw [← hL.out, show X.length + 1 = (X ++ [d]).length by simp, List.drop_left])
    obtain ⟨Y, hY⟩ : ∃ Y, Hid (lnOf l2 = Y) := ⟨_, Lib.hid rfl⟩
    have hLl := Lib.hid (show L.length ≤ 1000 from by have := hXl.out; have := hl2.out; rw [← hL.out]; simp only [List.length_append, List.length_singleton]; omega)
    have hX1 := Lib.hid (show X.length + ([d] : List UInt8).length ≤ 1000000000 from by have := hXl.out; simp only [List.length_singleton]; omega)
    have hX2 := Lib.hid (show (X ++ [d]).length + l2.length ≤ 1000000000 from by have := hXl.out; have := hl2.out; simp only [List.length_append, List.length_singleton]; omega)
    have hXi : (X.length : Int) ≤ 200 := by have := hXl.out; omega
    generalize hzd : (d.toNat : Int) = zd at *
    replace hzd := Lib.hid hzd
    go_enter Try.func4, Try.ntmps4
    go_upto_region 4 with (first
      | (go_at_call 9; refine (hR.out).mono ?_; rintro e w0 ⟨rfl, rfl⟩)
      | (go_at_call 13; refine (hBe.out).mono ?_; rintro e w1 ⟨⟨vx, rfl, hox⟩, hb1⟩; obtain ⟨Ax, cx, rfl, -⟩ := own_byt hox; have hoxh := Lib.hid hox; have hb1h := Lib.hid hb1; clear hox hb1))
    have hCp := Lib.hid (rCopyS_own hoxh.out (by have := hXl.out; omega))
    clear hR hBe
    go_upto_region 5 with (first
      | (go_at_call 14; refine (hCp.out).mono ?_; rintro e w2 ⟨⟨v2, rfl, ho2⟩, hb2⟩; have ho3 := Lib.hid (OwnB.keep ho2 ((Below.refl w2.heap.size w2).alloc (Nat.le_refl _) (.cells #[.int .u8 zd] 5))); have hb3 := Lib.hid (hb2.alloc hb2.size (.cells #[.int .u8 zd] 5)); clear ho2 hb2)
      | (at_builtin; refine wpList_app rfl (.tmp 29) (.tmp 31) rfl rfl ho3.out rfl (hone.out w2) hX1.out hb3.out.size ?_; intro v4 w4 h4 h4a; have ho4 := Lib.hid h4; have hb4 := Lib.hid (h4a.below _ hb3.out); clear h4 h4a)
      | (at_builtin; refine wpList_app rfl (.tmp 32) (.tmp 33) rfl rfl ho4.out rfl (hmore.out w4 (hb1h.out.trans (hb4.out.mono hb1h.out.size))) hX2.out hb4.out.size ?_; intro v5 w5 h5 h5a; rw [hL.out] at h5; obtain ⟨A5, c5, rfl, -, -, -, hB5⟩ := own_byt h5; have hO5 := Lib.hid (open_any (A := A5) (c := c5) rfl hB5 (Nat.le_refl _) (Nat.le_trans hLl.out (by decide))); have hb5 := Lib.hid (h5a.below _ hb4.out); clear h5 h5a hB5)
      | (go_at_call 7; refine (hO5.out).mono ?_; rintro e w6 ⟨⟨C, vc, rfl, hCge, hc6⟩, hb6⟩; have hb6h := Lib.hid (hb5.out.trans (hb6.mono hb5.out.size)); have hc6h := Lib.hid hc6; clear hb6 hc6))
    have hs5 := Lib.hid (show W.heap.size ≤ w5.heap.size from Nat.le_trans hb1h.out.size hb5.out.size)
    clear hCp ho3 hb3 ho4 hb4 hO5 hCge
    have hox6 := Lib.hid (hoxh.out.keep hb6h.out)
    have hU6 := Lib.hid (hU.out w6 _ C vc hc6h.out)
    clear hU
    go_upto_region 6 with (go_at_call 8; refine (hU6.out).mono ?_; rintro e w7 ⟨⟨Ay, cy, rfl, hoy⟩, hq7⟩)
    have hb7 := Lib.hid ((hb1h.out.trans (hb6h.out.mono hb1h.out.size)).trans ((hq7.below hc6h.out).mono hs5.out))
    have hox7 := Lib.hid (hq7.other hc6h.out hox6.out)
    have hoyh := Lib.hid hoy
    have hc7 := Lib.hid (show Cur w7 w5.heap.size C vc L (X.length + 1) from by have := hq7.cur; rwa [Nat.zero_add] at this)
    have hS1 := Lib.hid (same_own hoyh.out hox7.out)
    have hAt := Lib.hid (fun (w' : World) (hb : Below w7.heap.size w7 w') => show Calls Try.prog 11 #[.pointer (some ⟨C, 0, none⟩)] w' fun e w'' => e = .returned (.int .i64 ((X.length : Int) + 1)) ∧ w' = w'' from at_any (hc7.out.keep hb))
    have hO8 := Lib.hid (fun (w' : World) (hb : Below w7.heap.size w7 w') => open_any (w := w') (A := A2) (n := n2) (c := c2) (l := l2) (B := W.heap.size) hn2h.out (hmoreB.out w' (hb7.out.trans (hb.mono hb7.out.size))) (Nat.le_trans hb7.out.size hb.size) (Nat.le_trans hl2.out (by decide)))
    clear hU6 hoy hq7 hox6 hc6h hmore hmoreB hone
    go_wp2_with (first
      | (go_at_call_of 15 (Value.slice Ay X.length cy); refine (hS1.out).mono ?_; rintro e w8 ⟨rfl, hb8'⟩; have hb8 := Lib.hid hb8'; have hAt8 := Lib.hid (hAt.out _ hb8.out); have hOp8 := Lib.hid (hO8.out _ hb8.out); clear hb8')
      | (go_at_call 11; refine (hAt8.out).mono ?_; rintro e w8' ⟨rfl, rfl⟩)
      | (go_at_call 7; refine (hOp8.out).mono ?_; rintro e w9 ⟨⟨C2, v2, rfl, hCge, hc9⟩, hb9⟩; have hb9h := Lib.hid (show Below w7.heap.size w7 w9 from hb8.out.trans (hb9.mono hb8.out.size)); have hCg := Lib.hid (show w7.heap.size ≤ C2 from Nat.le_trans hb8.out.size hCge); have hc9h := Lib.hid hc9; have hs8 := Lib.hid (show w7.heap.size ≤ w8.heap.size from hb8.out.size); have hRe9 := Lib.hid (rest_at hc9 (hmxh.out _ (hb7.out.trans (hb9h.out.mono hb7.out.size))) (Y := Y) (by rw [List.drop_zero]; exact hY.out)); clear hc9 hb9 hCge)
      | (go_at_call_of 16 (Value.pointer (some ⟨C2, 0, none⟩)); refine (hRe9.out).mono ?_; rintro e w10 ⟨⟨Au, cu, rfl, hou⟩, a10, hq10⟩; have hQ10 := Lib.hid (CurQ.fresh hc7.out ((CurQ.refl hc7.out).keep hb9h.out) hq10.grown (fun k e => by cases e; exact hCg.out)); have hb10 := Lib.hid (show Below w7.heap.size w7 w10 from hb9h.out.trans ((hq10.below hc9h.out).mono hs8.out)); have houh := Lib.hid hou; have hRe10 := Lib.hid (rest_at hQ10.out.cur (hmxh.out _ (hb7.out.trans (hb10.out.mono hb7.out.size))) (Y := Y) (by rw [hdr.out]; exact hY.out)); clear hou hq10)
      | (go_at_call_of 16 (Value.pointer (some ⟨C, 0, none⟩)); refine (hRe10.out).mono ?_; rintro e w11 ⟨⟨Av, cv, rfl, hov⟩, a11, hq11⟩; have hS11 := Lib.hid (same_own (hq11.other hQ10.out.cur houh.out) hov); have hb11 := Lib.hid (show Below W.heap.size W w11 from (hb7.out.trans (hb10.out.mono hb7.out.size)).trans ((hq11.below hQ10.out.cur).mono hs5.out)); clear hov hq11)
      | (go_at_call_of 15 (Value.slice Au Y.length cu); refine (hS11.out).mono ?_; rintro e w12 ⟨rfl, hb12⟩; have hb12h := Lib.hid (show Below W.heap.size W w12 from hb11.out.trans (hb12.mono hb11.out.size)); clear hb12)
      | (go_at_call 12; refine (hW.out _).mono ?_; rintro e w13 ⟨rfl, hb13⟩))
    go_ret
    exact ⟨rfl, hb12h.out.trans (hb13.mono hb12h.out.size)⟩
  · by_cases q1 : n1 ≤ 100
    · by_cases q2 : n2 ≤ 100
      · have hd : dlm d = false := by cases h : dlm d with | false => rfl | true => exact absurd ⟨q1, q2, h⟩ hok
        rw [hd] at hR
        clear hok hd
        generalize (d.toNat : Int) = z at *
        go_enter Try.func4, Try.ntmps4
        go_wp2_with (first
          | (go_at_call 9; refine (hR.out).mono ?_; rintro e w0 ⟨rfl, rfl⟩)
          | (go_at_call 12; refine (hW.out _).mono ?_; rintro e w3 ⟨rfl, hb3⟩))
        go_ret
        exact ⟨rfl, hb3⟩
      · clear hok hR
        go_enter Try.func4, Try.ntmps4
        go_wp2_with (go_at_call 12; refine (hW.out _).mono ?_; rintro e w3 ⟨rfl, hb3⟩)
        go_ret
        exact ⟨rfl, hb3⟩
    · clear hok hR
      go_enter Try.func4, Try.ntmps4
      go_wp2_with (go_at_call 12; refine (hW.out _).mono ?_; rintro e w3 ⟨rfl, hb3⟩)
      go_ret
      exact ⟨rfl, hb3⟩
theorem contract (H : Type) (enc : TypeId × Value → H) (W : World) (base : Nat) (args : Array Value) (ds gs : List (DataW H)) (before : List MemPlace)
    (hval : ∀ (j : Nat) t v, Try.f4.params[j]? = some t → args[j]? = some v → Value.okWide Try.prog W .any base t v)
    (hW : DataW.Whole enc Try.prog Try.f4.params.toList Rows.scanUntilSpec.vars false W args.toList ds gs before) (hsh : W.ShapedOpen Try.prog) :
    Calls Try.prog 4 args W fun e W' => ∃ v, e = .returned v ∧ Rows.scanUntilSpec.post enc Try.prog Try.f4 false true false false W args v W' := by
  have hW' := hW
  obtain ⟨p, q, hA, hV, rfl, hfz, hnd⟩ := hW
  rw [Try.params4] at hA hval
  obtain ⟨v0, vs0, d0, ds0, p0, q0, hargs, rfl, rfl, h0, r0⟩ := trodAll_cons hA
  obtain ⟨v1, vs1, d1, ds1, p1, q1, rfl, rfl, rfl, h1, r1⟩ := trodAll_cons r0
  obtain ⟨v2, vs2, d2, ds2, p2, q2, rfl, rfl, rfl, h2, r2⟩ := trodAll_cons r1
  obtain ⟨rfl, rfl, rfl⟩ := trodAll_nil r2
  obtain rfl : args = #[v0, v1, v2] := by cases args; simp_all
  obtain ⟨rfl, rfl⟩ := trodVars_none hV
  obtain ⟨A0, n0, c0, l0, rfl, e0, k0, m0, x0⟩ := open_byt Try.underlying24 Try.underlying5 (by kernel_rfl) (hval 0 24 v0 rfl rfl) h0
  obtain ⟨A1, n1, c1, l1, rfl, e1, k1, m1, x1⟩ := open_byt Try.underlying24 Try.underlying5 (by kernel_rfl) (hval 1 24 v1 rfl rfl) h1
  obtain ⟨a2, rfl, rfl, rfl, w2⟩ := open_int Try.underlying5 (hval 2 5 v2 rfl rfl) h2
  have hmx := max_of hsh
  exact (core W A0 n0 c0 l0 e0 k0 m0 x0 A1 n1 c1 l1 e1 k1 m1 x1 a2 w2 hmx).mono fun e W' ⟨he, hb⟩ => ⟨_, he, law_post hW' rfl (by kernel_rfl) (by kernel_rfl) rfl hb⟩

theorem laid_met (os : Os) : laidMetH Try.prog Rows.scanUntilRow.laid ((World.doorLaid Try.prog 4000 os).forCall (fun _ _ => 0) ⟨#[], #[.slice none 0 0, .slice none 0 0, .int .u8 0], []⟩).memory :=
  laidMetH_of_parts3 (fuel := 8) (laidMet_of_run' 8 (by kernel_rfl) (by kernel_rfl)) (by kernel_rfl) (by kernel_rfl)
theorem reads (os : Os) {H : Type} (enc : TypeId × Value → H) : ∃ places, DataW.whole enc Try.prog ((World.doorLaid Try.prog 4000 os).forCall (fun _ _ => 0) ⟨#[], #[.slice none 0 0, .slice none 0 0, .int .u8 0], []⟩).memory Try.f4.params.toList Rows.scanUntilSpec.vars false #[Value.slice none 0 0, .slice none 0 0, .int .u8 0].toList 8 = some ([.nil, .nil, .lit (.int .u8 0)], [], places) :=
  ⟨[], by kernel_rfl⟩

set_option maxRecDepth 100000 in
theorem lifted (os : Os) (started : os.Started) (H : Type) (enc : TypeId × Value → H) (F : Stop.Interp) :
    ReturnsInHanded {} Try.checked os 4 .any ((OpenSpec.ofChange Rows.scanUntilSpec).preRow enc Try.prog Try.f4 Rows.scanUntilRow.domain false Rows.scanUntilRow.laid) (((OpenSpec.ofChange Rows.scanUntilSpec).at F).post enc Try.prog Try.f4 false true false false) := by
  obtain ⟨places, hx⟩ := reads os enc
  refine returnsInHanded_of_row (C := Try.checked) (s := (OpenSpec.ofChange Rows.scanUntilSpec)) own started (by kernel_rfl) Try.func4
    (witness_row_at (enc := enc) (C := Try.checked) false (World.doorLaid Try.prog 4000 os) #[.slice none 0 0, .slice none 0 0, .int .u8 0] rfl (by kernel_rfl) (by kernel_rfl) (by kernel_rfl)
      (OpenSpec.preRow_of_cond 8 hx (by kernel_rfl) (fun k hk => by cases hk) (by kernel_rfl) (laid_met os))) ?_
  intro W base args ds gs before hval hW _ _ _ _ hsh _
  exact contract H enc W base args ds gs before hval hW hsh

theorem said : Rows.ScanUntilSaid :=
  OpenClaim.holds_of_cond 4 Try.f4 rfl rfl rfl rfl rfl rfl rfl ⟨rfl, rfl, rfl, rfl, rfl⟩ rfl rfl rfl rfl rfl (by kernel_rfl) Try.func4 (by kernel_rfl)
    (of_decide_eq_true (by kernel_rfl)) (by unfold Func.isWrapper; first | (rw [if_pos (by decide +kernel)]; kernel_rfl) | (rw [if_neg (by decide +kernel)]; exact ⟨rfl, rfl⟩))
    (fun os started H enc _ F => by rw [OpenClaim.pre_eq_preRow]; exact lifted os started H enc F)

end Go.Proofs.Ytdjnlploddlkbaa.Until14
