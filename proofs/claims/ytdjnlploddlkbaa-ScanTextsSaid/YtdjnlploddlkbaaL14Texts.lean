/- ScanTexts answers true of all bytes, and they read afterwards as they read before. Conditions: none. -/
import Derived.Test.YtdjnlploddlkbaaFrame
import Derived.Test.YtdjnlploddlkbaaScnK
import Derived.Test.YtdjnlploddlkbaaScnE
import Derived.Test.YtdjnlploddlkbaaScnL
set_option linter.unusedVariables false
set_option linter.unusedSimpArgs false
set_option maxRecDepth 100000
namespace Go.Proofs.Ytdjnlploddlkbaa.Texts14
open Go.ChangeShapes Go.WideShapes Go.ChangeAt Go.RowKit

theorem ten_92 : anyOf [10] 92 = false := by decide
theorem ten_of : ∀ x, anyOf [10] x = true → x = 10 ∨ x = 10 := by
  intro x h
  unfold anyOf at h
  rw [List.contains_eq_mem, decide_eq_true_iff] at h
  simp only [List.mem_cons, List.not_mem_nil, or_false] at h
  exact .inl h
theorem pl_alone (l : List UInt8) : plS (anyOf [10]) (bentL 10 l) = (bentL 10 l).length := by
  have h := plS_bent ten_92 ten_of l [] (by intro c hc; cases hc)
  rwa [List.append_nil] at h
theorem pl_more (l r : List UInt8) : plS (anyOf [10]) (bentL 10 l ++ [10] ++ r) = (bentL 10 l).length := by
  rw [List.append_assoc]
  exact plS_bent ten_92 ten_of l ([10] ++ r) (by
    intro c hc
    simp only [List.cons_append, List.nil_append, List.head?_cons, Option.mem_def, Option.some.injEq] at hc
    subst hc
    decide)
set_option maxHeartbeats 4000000 in
theorem core (W : World) (A1 : Option Addr) (n1 c1 : Nat) (l1 : List UInt8) (hn1 : n1 = l1.length) (hc1 : n1 ≤ c1) (hm1 : c1 ≤ maxLen) (h1 : Byt W W.heap.size A1 l1)
    (A2 : Option Addr) (n2 c2 : Nat) (l2 : List UInt8) (hn2 : n2 = l2.length) (hc2 : n2 ≤ c2) (hm2 : c2 ≤ maxLen) (h2 : Byt W W.heap.size A2 l2) :
    Calls Try.prog 5 #[.slice A1 n1 c1, .slice A2 n2 c2] W fun e W' => e = .returned (.bool true) ∧ Below W.heap.size W W' := by
  have hW := Lib.hid (fun w => awake14_any w)
  by_cases hok : n1 ≤ 100 ∧ n2 ≤ 100
  · obtain ⟨q1, q2⟩ := hok
    have hBe := Lib.hid (show Calls Try.prog 13 #[.slice A1 n1 c1, .int .u8 10] W fun e w' => (∃ v, e = .returned v ∧ OwnB w' W.heap.size v (bentL 10 l1)) ∧ Below W.heap.size W w' from bent_any 10 hn1 hc1 hm1 (Nat.le_refl _) h1 (by omega))
    have hXl := Lib.hid (show (bentL 10 l1).length ≤ 200 from by have := bentL_len 10 l1; omega)
    have hp1 := Lib.hid (pl_alone l1)
    have hp2 := Lib.hid (pl_more l1 l2)
    have hmn := Lib.hid (mnS_bent 10 l1)
    have hl1 := Lib.hid (show l1.length ≤ 100 from by omega)
    have hl2 := Lib.hid (show l2.length ≤ 100 from by omega)
    have hCb := Lib.hid (fun (w' : World) (hb : Below W.heap.size W w') => rCopyS_any (w := w') (B := W.heap.size) hn1 hc1 hm1 (by omega) (h1.below hb) hb.size)
    have hmore := Lib.hid (fun (w' : World) (hb : Below W.heap.size W w') => show BytV w' W.heap.size (.slice A2 n2 c2) l2 from ⟨A2, n2, c2, rfl, hn2, hc2, hm2, h2.below hb⟩)
    have hten := Lib.hid (fun (wr : World) => show BytV (wr.alloc (.cells #[.int .u8 10] 5)) (wr.heap.size + 1) (.slice (some ⟨wr.heap.size, 0, none⟩) 1 1) [10] from bytv_new wr [10] 1 rfl (by decide))
    clear h1 h2 hn1 hn2 hm1 hm2
    generalize bentL 10 l1 = X at *
    obtain ⟨L, hL⟩ : ∃ L, Hid (X ++ [10] ++ l2 = L) := ⟨_, Lib.hid rfl⟩
    obtain ⟨Z, hZ⟩ : ∃ Z, Hid (l1 ++ [10] = Z) := ⟨_, Lib.hid rfl⟩
    rw [hL.out] at hp2
    have hLX := Lib.hid (show L.take X.length = X from by rw [← hL.out, List.append_assoc, List.take_left])
    have hLn := Lib.hid (show L.length = X.length + 1 + l2.length from by rw [← hL.out]; simp only [List.length_append, List.length_singleton])
    have hLl := Lib.hid (show L.length ≤ 1000 from by have := hXl.out; have := hl2.out; have := hLn.out; omega)
    have hT1 := Lib.hid (fun w B C v (h : Cur w B C v X 0) => text_yes h (t := l1) (Z := Z) (p := X.length) (by
      have : txtS (X.drop 0) = X := by unfold txtS; rw [List.drop_zero, hp1.out, List.take_length]
      rw [this]; exact hmn.out) hZ.out (by rw [List.drop_zero, hp1.out]; omega))
    have hT2 := Lib.hid (fun w B C v (h : Cur w B C v L 0) => text_yes h (t := l1) (Z := Z) (p := X.length + 1) (by
      have : txtS (L.drop 0) = X := by unfold txtS; rw [List.drop_zero, hp2.out, hLX.out]
      rw [this]; exact hmn.out) hZ.out (by rw [List.drop_zero, hp2.out, hLn.out]; omega))
    have hX1 := Lib.hid (show X.length + ([10] : List UInt8).length ≤ 1000000000 from by have := hXl.out; simp only [List.length_singleton]; omega)
    have hX2 := Lib.hid (show (X ++ [10]).length + l2.length ≤ 1000000000 from by have := hXl.out; have := hl2.out; simp only [List.length_append, List.length_singleton]; omega)
    have hX3 := Lib.hid (show l1.length + ([10] : List UInt8).length ≤ 1000000000 from by have := hl1.out; simp only [List.length_singleton]; omega)
    have hXi : (X.length : Int) ≤ 200 := by have := hXl.out; omega
    clear hp1 hp2 hLX hLn hmn
    go_enter Try.func5, Try.ntmps5
    go_upto_region 4 with (go_at_call 13; refine (hBe.out).mono ?_; rintro e w1 ⟨⟨vx, rfl, hox⟩, hb1⟩; obtain ⟨Ax, cx, rfl, -⟩ := own_byt hox; have hoxh := Lib.hid hox; have hb1h := Lib.hid hb1; clear hox hb1)
    have hC1 := Lib.hid (hCb.out w1 hb1h.out)
    clear hBe hCb
    go_upto_region 5 with (first
      | (go_at_call 14; refine (hC1.out).mono ?_; rintro e w2 ⟨⟨v2, rfl, ho2⟩, hb2⟩; have ho3 := Lib.hid (OwnB.keep ho2 ((Below.refl w2.heap.size w2).alloc (Nat.le_refl _) (.cells #[.int .u8 10] 5))); have hb3 := Lib.hid (hb2.alloc hb2.size (.cells #[.int .u8 10] 5)); clear ho2 hb2)
      | (at_builtin; refine wpList_app rfl (.tmp 24) (.tmp 25) rfl rfl ho3.out rfl (hten.out w2) hX3.out hb3.out.size ?_; intro v4 w4 h4 h4a; rw [hZ.out] at h4; obtain ⟨Aw, cw, rfl, -⟩ := own_byt h4; have how := Lib.hid h4; have hb4 := Lib.hid (h4a.below _ hb3.out); clear h4 h4a))
    have hox4 := Lib.hid (hoxh.out.keep hb4.out)
    have hb4W := Lib.hid (hb1h.out.trans (hb4.out.mono hb1h.out.size))
    have how4 := Lib.hid (show OwnB w4 W.heap.size (.slice Aw Z.length cw) Z from sw_base how.out hb1h.out.size)
    have hO4 := Lib.hid (by
      obtain ⟨_, _, e1, -, k1, k2, k3⟩ := own_byt hox4.out
      cases e1
      exact open_any (w := w4) (A := Ax) (n := X.length) (c := cx) rfl k3 (Nat.le_refl _) (Nat.le_trans hXl.out (by decide)))
    clear hC1 ho3 hb3 hb4 hoxh hb1h how
    go_upto_region 6 with (first
      | (go_at_call 7; refine (hO4.out).mono ?_; rintro e w5 ⟨⟨C1, v1, rfl, hCge, hc5⟩, hb5⟩; have hT5 := Lib.hid (hT1.out w5 _ C1 v1 hc5); have hb5h := Lib.hid hb5; have hc5h := Lib.hid hc5; clear hb5 hc5 hCge)
      | (go_at_call 17; refine (hT5.out).mono ?_; rintro e w6 ⟨⟨Ay, cy, rfl, hoy⟩, hq6⟩; have hoyh := Lib.hid hoy; have hq6h := Lib.hid hq6; clear hoy hq6))
    have hox6 := Lib.hid (hq6h.out.other hc5h.out (hox4.out.keep hb5h.out))
    have how6 := Lib.hid (hq6h.out.other hc5h.out (how4.out.keep hb5h.out))
    have hb6 := Lib.hid (show Below W.heap.size W w6 from (hb4W.out.trans (hb5h.out.mono hb4W.out.size)).trans ((hq6h.out.below hc5h.out).mono hb4W.out.size))
    have hoy6 := Lib.hid (show OwnB w6 W.heap.size (.slice Ay Z.length cy) Z from sw_base hoyh.out (Nat.le_trans hb4W.out.size hb5h.out.size))
    have hCp := Lib.hid (rCopyS_own hox6.out (by have := hXl.out; omega))
    clear hO4 hT1 hT5 hoyh hq6h hc5h hb5h hox4 how4 hb4W
    go_upto_region 7 with (first
      | (go_at_call 14; refine (hCp.out).mono ?_; rintro e w7 ⟨⟨v7, rfl, ho7⟩, hb7⟩; have ho8 := Lib.hid (OwnB.keep ho7 ((Below.refl w7.heap.size w7).alloc (Nat.le_refl _) (.cells #[.int .u8 10] 5))); have hb8 := Lib.hid (hb7.alloc hb7.size (.cells #[.int .u8 10] 5)); clear ho7 hb7)
      | (at_builtin; refine wpList_app rfl (.tmp 34) (.tmp 35) rfl rfl ho8.out rfl (hten.out w7) hX1.out hb8.out.size ?_; intro v9 w9 h9 h9a; have ho9 := Lib.hid h9; have hb9 := Lib.hid (h9a.below _ hb8.out); clear h9 h9a)
      | (at_builtin; refine wpList_app rfl (.tmp 36) (.tmp 37) rfl rfl ho9.out rfl (hmore.out w9 (hb6.out.trans (hb9.out.mono hb6.out.size))) hX2.out hb9.out.size ?_; intro v10 w10 h10 h10a; rw [hL.out] at h10; obtain ⟨A10, c10, rfl, -, -, -, hB10⟩ := own_byt h10; have hO10 := Lib.hid (open_any (A := A10) (c := c10) rfl hB10 (Nat.le_refl _) (Nat.le_trans hLl.out (by decide))); have hb10 := Lib.hid (h10a.below _ hb9.out); clear h10 h10a hB10)
      | (go_at_call 7; refine (hO10.out).mono ?_; rintro e w11 ⟨⟨C, vc, rfl, hCge, hc11⟩, hb11⟩; have hb11h := Lib.hid (hb10.out.trans (hb11.mono hb10.out.size)); have hc11h := Lib.hid hc11; clear hb11 hc11 hCge))
    have hs10 := Lib.hid (show W.heap.size ≤ w10.heap.size from Nat.le_trans hb6.out.size hb10.out.size)
    have hT11 := Lib.hid (hT2.out w11 _ C vc hc11h.out)
    clear hCp ho8 hb8 ho9 hb9 hO10 hT2
    go_upto_region 8 with (go_at_call 17; refine (hT11.out).mono ?_; rintro e w12 ⟨⟨Az, cz, rfl, hoz⟩, hq12⟩; have hozh := Lib.hid hoz; have hq12h := Lib.hid hq12; clear hoz hq12)
    have hb12 := Lib.hid (show Below W.heap.size W w12 from (hb6.out.trans (hb11h.out.mono hb6.out.size)).trans ((hq12h.out.below hc11h.out).mono hs10.out))
    have hoy12 := Lib.hid (hq12h.out.other hc11h.out (hoy6.out.keep hb11h.out))
    have how12 := Lib.hid (hq12h.out.other hc11h.out (how6.out.keep hb11h.out))
    have hS1 := Lib.hid (same_own hoy12.out how12.out)
    have hS2 := Lib.hid (fun (w' : World) (hb : Below w12.heap.size w12 w') => same_own (hozh.out.keep hb) (how12.out.keep hb))
    have hAt := Lib.hid (fun (w' : World) (hb : Below w12.heap.size w12 w') => show Calls Try.prog 11 #[.pointer (some ⟨C, 0, none⟩)] w' fun e w'' => e = .returned (.int .i64 ((X.length : Int) + 1)) ∧ w' = w'' from at_any (hq12h.out.cur.keep hb))
    clear hT11 hox6 how6 hoy6 hb11h hc11h hmore hten
    go_wp2_with (first
      | (go_at_call_of 15 (Value.slice Ay Z.length cy); refine (hS1.out).mono ?_; rintro e w13 ⟨rfl, hb13⟩; have hb13h := Lib.hid hb13; have hS13 := Lib.hid (hS2.out w13 hb13); clear hb13)
      | (go_at_call_of 15 (Value.slice Az Z.length cz); refine (hS13.out).mono ?_; rintro e w14 ⟨rfl, hb14⟩; have hb14h := Lib.hid (show Below w12.heap.size w12 w14 from hb13h.out.trans (hb14.mono hb13h.out.size)); have hAt14 := Lib.hid (hAt.out w14 hb14h.out); clear hb14)
      | (go_at_call 11; refine (hAt14.out).mono ?_; rintro e w15 ⟨rfl, rfl⟩)
      | (go_at_call 12; refine (hW.out _).mono ?_; rintro e w16 ⟨rfl, hb16⟩))
    go_ret
    have hbe : Below W.heap.size W w14 := hb12.out.trans (hb14h.out.mono hb12.out.size)
    exact ⟨rfl, hbe.trans (hb16.mono hbe.size)⟩
  · by_cases q1 : n1 ≤ 100
    · have q2 : ¬ n2 ≤ 100 := fun h => hok ⟨q1, h⟩
      clear hok
      go_enter Try.func5, Try.ntmps5
      go_wp2_with (go_at_call 12; refine (hW.out _).mono ?_; rintro e w3 ⟨rfl, hb3⟩)
      go_ret
      exact ⟨rfl, hb3⟩
    · clear hok
      go_enter Try.func5, Try.ntmps5
      go_wp2_with (go_at_call 12; refine (hW.out _).mono ?_; rintro e w3 ⟨rfl, hb3⟩)
      go_ret
      exact ⟨rfl, hb3⟩
theorem contract (H : Type) (enc : TypeId × Value → H) (W : World) (base : Nat) (args : Array Value) (ds gs : List (DataW H)) (before : List MemPlace)
    (hval : ∀ (j : Nat) t v, Try.f5.params[j]? = some t → args[j]? = some v → Value.okWide Try.prog W .any base t v)
    (hW : DataW.Whole enc Try.prog Try.f5.params.toList Rows.scanTextsSpec.vars false W args.toList ds gs before) :
    Calls Try.prog 5 args W fun e W' => ∃ v, e = .returned v ∧ Rows.scanTextsSpec.post enc Try.prog Try.f5 false true false false W args v W' := by
  have hW' := hW
  obtain ⟨p, q, hA, hV, rfl, hfz, hnd⟩ := hW
  rw [Try.params5] at hA hval
  obtain ⟨v0, vs0, d0, ds0, p0, q0, hargs, rfl, rfl, h0, r0⟩ := trodAll_cons hA
  obtain ⟨v1, vs1, d1, ds1, p1, q1, rfl, rfl, rfl, h1, r1⟩ := trodAll_cons r0
  obtain ⟨rfl, rfl, rfl⟩ := trodAll_nil r1
  obtain rfl : args = #[v0, v1] := by cases args; simp_all
  obtain ⟨rfl, rfl⟩ := trodVars_none hV
  obtain ⟨A0, n0, c0, l0, rfl, e0, k0, m0, x0⟩ := open_byt Try.underlying24 Try.underlying5 (by kernel_rfl) (hval 0 24 v0 rfl rfl) h0
  obtain ⟨A1, n1, c1, l1, rfl, e1, k1, m1, x1⟩ := open_byt Try.underlying24 Try.underlying5 (by kernel_rfl) (hval 1 24 v1 rfl rfl) h1
  exact (core W A0 n0 c0 l0 e0 k0 m0 x0 A1 n1 c1 l1 e1 k1 m1 x1).mono fun e W' ⟨he, hb⟩ => ⟨_, he, law_post hW' rfl (by kernel_rfl) (by kernel_rfl) rfl hb⟩

theorem laid_met (os : Os) : laidMetH Try.prog Rows.scanTextsRow.laid ((World.doorLaid Try.prog 4000 os).forCall (fun _ _ => 0) ⟨#[], #[.slice none 0 0, .slice none 0 0], []⟩).memory :=
  laidMetH_of_parts3 (fuel := 8) (laidMet_of_run' 8 (by kernel_rfl) (by kernel_rfl)) (by kernel_rfl) (by kernel_rfl)
theorem reads (os : Os) {H : Type} (enc : TypeId × Value → H) : ∃ places, DataW.whole enc Try.prog ((World.doorLaid Try.prog 4000 os).forCall (fun _ _ => 0) ⟨#[], #[.slice none 0 0, .slice none 0 0], []⟩).memory Try.f5.params.toList Rows.scanTextsSpec.vars false #[Value.slice none 0 0, .slice none 0 0].toList 8 = some ([.nil, .nil], [], places) :=
  ⟨[], by kernel_rfl⟩

set_option maxRecDepth 100000 in
theorem lifted (os : Os) (started : os.Started) (H : Type) (enc : TypeId × Value → H) (F : Stop.Interp) :
    ReturnsInHanded {} Try.checked os 5 .any ((OpenSpec.ofChange Rows.scanTextsSpec).preRow enc Try.prog Try.f5 Rows.scanTextsRow.domain false Rows.scanTextsRow.laid) (((OpenSpec.ofChange Rows.scanTextsSpec).at F).post enc Try.prog Try.f5 false true false false) := by
  obtain ⟨places, hx⟩ := reads os enc
  refine returnsInHanded_of_row (C := Try.checked) (s := (OpenSpec.ofChange Rows.scanTextsSpec)) own started (by kernel_rfl) Try.func5
    (witness_row_at (enc := enc) (C := Try.checked) false (World.doorLaid Try.prog 4000 os) #[.slice none 0 0, .slice none 0 0] rfl (by kernel_rfl) (by kernel_rfl) (by kernel_rfl)
      (OpenSpec.preRow_of_cond 8 hx (by kernel_rfl) (fun k hk => by cases hk) (by kernel_rfl) (laid_met os))) ?_
  intro W base args ds gs before hval hW _ _ _ _ _ _
  exact contract H enc W base args ds gs before hval hW

theorem said : Rows.ScanTextsSaid :=
  OpenClaim.holds_of_cond 5 Try.f5 rfl rfl rfl rfl rfl rfl rfl ⟨rfl, rfl, rfl, rfl, rfl⟩ rfl rfl rfl rfl rfl (by kernel_rfl) Try.func5 (by kernel_rfl)
    (of_decide_eq_true (by kernel_rfl)) (by unfold Func.isWrapper; first | (rw [if_pos (by decide +kernel)]; kernel_rfl) | (rw [if_neg (by decide +kernel)]; exact ⟨rfl, rfl⟩))
    (fun os started H enc _ F => by rw [OpenClaim.pre_eq_preRow]; exact lifted os started H enc F)

end Go.Proofs.Ytdjnlploddlkbaa.Texts14
