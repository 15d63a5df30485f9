/- DigitBack: what is written of a number is read as it, wherever it stands, if no digit stands behind it. For every number and all bytes around. -/
import Derived.Test.YtcflagjannphoaaDoorFrame
import Derived.Test.YtcflagjannphoaaDoorCards
import Derived.Test.YtcflagjannphoaaDoorTie
import Derived.Test.YtcflagjannphoaaDoorDigE
import Derived.Test.YtcflagjannphoaaDoorDigG
import Derived.Deep.RegionWith
namespace Go.Proofs.YtcflagjannphoaaDoor.digitBack
open Go.ChangeShapes Go.WideShapes Go.ChangeAt Go.RowKit
open Go.ChangeMaps (open_string shut_string)
set_option linter.unusedVariables false

theorem add_zero (a : Addr) : a.add 0 = a := by unfold Addr.add; simp
/-- What every way of the law needs at a call in a later world. -/
theorem calls (W : World) (ht : Tab W) (hg : 0 < W.heap.size) :
    (∀ w2, Below W.heap.size W w2 → Calls Tryd.prog 8 #[] w2 fun e w' => e = .returned (.bool true) ∧ Below W.heap.size W w') ∧
    (∀ (z : Int) w2, -9223372036854775808 ≤ z → z ≤ 9223372036854775807 → Below W.heap.size W w2 → Calls Tryd.prog 13 #[.int .i64 z] w2 fun e w' => e = .returned (.string ⟨(Lib.itoa z).toArray⟩) ∧ Below W.heap.size W w') ∧
    (∀ (z : Int) w2, -9223372036854775808 ≤ z → z ≤ 9223372036854775807 → Below W.heap.size W w2 → Calls Tryd.prog 14 #[.int .i64 z] w2 fun e w' => e = .returned (.string ⟨(Lib.itoa z).toArray⟩) ∧ Below W.heap.size W w') :=
  ⟨fun w2 hb => (awake_any w2 (ht.below hb hg) (Nat.lt_of_lt_of_le hg hb.size)).mono fun e w' ⟨he, hw⟩ => ⟨he, hb.trans (hw.mono hb.size)⟩,
   fun z w2 h0 h1 hb => (text_any z w2 h0 h1 (ht.below hb hg)).mono fun e w' ⟨he, hw⟩ => ⟨he, hb.trans (hw.mono hb.size)⟩,
   fun z w2 h0 h1 hb => (refText_any z w2 h0 h1).mono fun e w' ⟨he, hw⟩ => ⟨he, hb.trans (hw.mono hb.size)⟩⟩

set_option maxHeartbeats 1000000 in
set_option maxRecDepth 100000 in
theorem core (W : World) (z : Int) (hz : (Lit.int .i64 z).wf = true) (A1 : Option Addr) (n1 c1 : Nat) (l1 : List UInt8) (e1 : n1 = l1.length) (k1 : n1 ≤ c1) (m1 : c1 ≤ maxLen) (x1 : Byt W W.heap.size A1 l1)
    (A2 : Option Addr) (n2 c2 : Nat) (l2 : List UInt8) (e2 : n2 = l2.length) (k2 : n2 ≤ c2) (m2 : c2 ≤ maxLen) (x2 : Byt W W.heap.size A2 l2) (ht : Tab W) (hg : 0 < W.heap.size) :
    Calls Tryd.prog 5 #[.int .i64 z, .slice A1 n1 c1, .slice A2 n2 c2] W fun e w' => e = .returned (.bool true) ∧ Below W.heap.size W w' := by
  obtain ⟨hA0, hT0, hR0⟩ := calls W ht hg
  have HA := Lib.hid hA0
  have HT := Lib.hid hT0
  have HR := Lib.hid hR0
  have hE1 := Lib.hid e1
  have hE2 := Lib.hid e2
  have hX1 := Lib.hid x1
  have hX2 := Lib.hid x2
  obtain ⟨hz0, hz1⟩ := bounds_i64 hz
  have hb0 := Below.refl W.heap.size W
  clear hA0 hT0 hR0 ht hz e1 e2 x1 x2
  unfold maxLen at m1 m2
  by_cases hbig : 9 < n1 ∨ 9 < n2
  · go_enter Tryd.func5, Tryd.ntmps5
    go_wp2_with (go_at_call 8; refine (HA.out _ hb0).mono ?_; rintro e w2 ⟨rfl, hb⟩)
    all_goals
      go_ret
      exact ⟨rfl, hb⟩
  · have hs1 : n1 ≤ 9 := by omega
    have hs2 : n2 ≤ 9 := by omega
    clear hbig
    by_cases hneg : z < 0
    · go_enter Tryd.func5, Tryd.ntmps5
      go_wp2_with (first
        | (go_at_call 13; refine (HT.out z _ hz0 hz1 hb0).mono ?_; rintro e w2 ⟨rfl, hb2⟩)
        | (go_at_call 14; first | (refine (HR.out z _ hz0 hz1 hb3).mono ?_; rintro e w4 ⟨rfl, hb4⟩) | (refine (HR.out z _ hz0 hz1 hb2).mono ?_; rintro e w3 ⟨rfl, hb3⟩))
        | (go_at_call 8; refine (HA.out _ hb4).mono ?_; rintro e w5 ⟨rfl, hb⟩))
      go_ret
      exact ⟨rfl, hb⟩
    · obtain ⟨m, rfl⟩ := Int.eq_ofNat_of_zero_le (a := z) (by omega)
      obtain ⟨u, hu⟩ : ∃ u : ByteArray, (⟨(Lib.itoa m).toArray⟩ : ByteArray) = u := ⟨_, rfl⟩
      have hus : u.size ≤ 21 := by rw [← hu]; exact Lib.itoa_length_le m hz0 hz1
      have hul : Hid (u.data.toList = Lib.itoa m) := Lib.hid (by rw [← hu])
      have HT1 : Hid (∀ w2, Below W.heap.size W w2 → Calls Tryd.prog 13 #[.int .i64 m] w2 fun e w' => e = .returned (.string u) ∧ Below W.heap.size W w') := by
        rw [← hu]; exact Lib.hid fun w2 hb => HT.out m w2 hz0 hz1 hb
      have HR1 : Hid (∀ w2, Below W.heap.size W w2 → Calls Tryd.prog 14 #[.int .i64 m] w2 fun e w' => e = .returned (.string u) ∧ Below W.heap.size W w') := by
        rw [← hu]; exact Lib.hid fun w2 hb => HR.out m w2 hz0 hz1 hb
      clear HT HR hu
      by_cases hdig : ∃ h : 0 < l2.length, 48 ≤ ((l2[0]'h).toNat : Int) ∧ ((l2[0]'h).toNat : Int) ≤ 57
      · obtain ⟨h0, hd0, hd1⟩ := hdig
        obtain ⟨ad, hA, -⟩ := hX2.out.at_ h0
        subst hA
        have hc0 : Hid (∀ w2, Below W.heap.size W w2 → w2.cell? ad = some (.int .u8 ((l2[0]'h0).toNat : Int))) := Lib.hid fun w2 hb => by
          obtain ⟨ad', e, _, hc⟩ := (hX2.out.below hb).at_ h0
          injection e with e
          subst e
          rwa [add_zero] at hc
        have hn2 : 0 < n2 := by rw [hE2.out]; exact h0
        generalize l2[0]'h0 = b0 at *
        generalize (b0.toNat : Int) = d0 at *
        go_enter Tryd.func5, Tryd.ntmps5
        go_wp2_with (first
          | (go_at_call 13; refine (HT1.out _ hb0).mono ?_; rintro e w2 ⟨rfl, hb2⟩)
          | (go_at_call 14; refine (HR1.out _ hb2).mono ?_; rintro e w3 ⟨rfl, hb3⟩; have hcell := hc0.out _ hb3)
          | (go_at_call 8; refine (HA.out _ hb3).mono ?_; rintro e w5 ⟨rfl, hb⟩))
        go_ret
        exact ⟨rfl, hb⟩
      · have hhead : ∀ c ∈ l2.head?, cDigit c.toNat = false := by
          intro c hc
          cases l2 with
          | nil => cases hc
          | cons x r =>
            simp at hc
            subst hc
            cases hcd : cDigit (x.toNat : Int) with
            | false => rfl
            | true => exact absurd ⟨by simp, cDigit_bd hcd⟩ hdig
        have hnum : ∀ most : Int, numS (l1 ++ (Lib.itoa m ++ l2)) n1 most = if (m : Int) ≤ most then ((m : Int), ((n1 + u.size : Nat) : Int), 0) else (0, 0, 3) := by
          intro most
          have h := numS_mid l1 l2 m most hhead
          rw [← hE1.out, ← hul.out, len_toList, hul.out] at h
          exact h
        have hN : ∀ (A : Option Addr) (cap N : Nat) (B : Nat) (w : World) (most : Int), N = n1 + u.size + n2 → N ≤ cap → Byt w B A (l1 ++ (Lib.itoa m ++ l2)) → -9223372036854775808 ≤ most → most ≤ 9223372036854775807 →
            Calls Tryd.prog 11 #[.slice A N cap, .int .i64 (n1 : Int), .int .i64 most] w fun e w' => e = three (if (m : Int) ≤ most then ((m : Int), ((n1 + u.size : Nat) : Int), 0) else (0, 0, 3)) ∧ w = w' := by
          intro A cap N B w most hNn hNc hbt h0 h1
          rw [← hnum most]
          exact num_any A cap _ N n1 most B w (by rw [List.length_append, List.length_append, ← hE1.out, ← hE2.out, ← hul.out, len_toList]; omega) hbt (by unfold maxLen; omega) hNc h0 h1
        have HN1 : Hid (∀ (A : Option Addr) (cap N : Nat) (B : Nat) (w : World), N = n1 + u.size + n2 → N ≤ cap → Byt w B A (l1 ++ (Lib.itoa m ++ l2)) →
            Calls Tryd.prog 11 #[.slice A N cap, .int .i64 (n1 : Int), .int .i64 (m : Int)] w fun e w' => e = .returned (.tuple #[.int .i64 (m : Int), .int .i64 ((n1 : Int) + u.size), .int .i64 0]) ∧ w = w') := Lib.hid fun A cap N B w hNn hNc hbt => by
          have h := hN A cap N B w m hNn hNc hbt hz0 hz1
          rw [if_pos (Int.le_refl _)] at h
          exact h
        have HN2 : Hid (∀ (A : Option Addr) (cap N : Nat) (B : Nat) (w : World), N = n1 + u.size + n2 → N ≤ cap → Byt w B A (l1 ++ (Lib.itoa m ++ l2)) →
            Calls Tryd.prog 11 #[.slice A N cap, .int .i64 (n1 : Int), .int .i64 ((m : Int) - 1)] w fun e w' => e = .returned (.tuple #[.int .i64 0, .int .i64 0, .int .i64 3]) ∧ w = w') := Lib.hid fun A cap N B w hNn hNc hbt => by
          have h := hN A cap N B w ((m : Int) - 1) hNn hNc hbt (by omega) (by omega)
          rw [if_neg (by omega)] at h
          exact h
        have hbv : Hid (bv l1 ++ Lib.strCells u ++ bv l2 = bv (l1 ++ (Lib.itoa m ++ l2))) := by
          rw [strCells_bv, hul.out, bv_append, bv_append, List.append_assoc]; exact Lib.hid rfl
        clear hN hnum hhead
        obtain ⟨i0, hi, hi0, hi1, hi2⟩ := info_parts byte_info
        have HC : Hid (∀ w3, Below W.heap.size W w3 → Calls Tryd.prog 15 #[.slice A1 n1 c1] w3 (Owned w3.heap.size 5 n1 l1 w3)) :=
          Lib.hid fun w3 hb => copy_any A1 c1 n1 l1 W.heap.size w3 hE1.out (hX1.out.below hb) hb.size (by omega)
        by_cases hn2 : 0 < n2
        · have h0 : 0 < l2.length := by rw [← hE2.out]; exact hn2
          have hnd : ¬ (48 ≤ ((l2[0]'h0).toNat : Int) ∧ ((l2[0]'h0).toNat : Int) ≤ 57) := fun h => hdig ⟨h0, h⟩
          obtain ⟨ad, hA, -⟩ := hX2.out.at_ h0
          subst hA
          have hc0 : Hid (∀ w2, Below W.heap.size W w2 → w2.cell? ad = some (.int .u8 ((l2[0]'h0).toNat : Int))) := Lib.hid fun w2 hb => by
            obtain ⟨ad', e, _, hc⟩ := (hX2.out.below hb).at_ h0
            injection e with e
            subst e
            rwa [add_zero] at hc
          clear hdig
          obtain ⟨d0, hd0⟩ : ∃ d0 : Int, ((l2[0]'h0).toNat : Int) = d0 := ⟨_, rfl⟩
          rw [hd0] at hnd hc0
          clear hd0
          by_cases h48 : 48 ≤ d0
          · have h57 : 57 < d0 := by omega
            clear hnd
            go_enter Tryd.func5, Tryd.ntmps5
            go_wp2_with (first
              | (go_at_call 13; refine (HT1.out _ hb0).mono ?_; rintro e w2 ⟨rfl, hb2⟩)
              | (go_at_call 14; refine (HR1.out _ hb2).mono ?_; rintro e w3 ⟨rfl, hb3⟩; have hcell := hc0.out _ hb3)
              | (go_at_call 15; refine (HC.out _ hb3).mono ?_; rintro e w4 ⟨v4, rfl, hown4, hb4⟩)
              | (at_builtin; refine Lib.wpList_append_own_string _ rfl _ _ 26 9 rfl w3.heap.size 5 i0 Tryd.underlying26 Tryd.underlying9 hi hi0 hi1 hi2 v4 n1 (bv l1) rfl hown4 u rfl (by unfold maxLen; omega) (by omega) hb4.size ?_; intro v5 w5 hown5 hg5 _; have hb5 := below_append hb4 hown4 hb4.size hg5)
              | (at_builtin; refine wpList_append_vals rfl _ _ 26 rfl w3.heap.size 5 i0 (.int .u8 0) 1 Tryd.underlying26 hi hi0 hi1 hi2 rfl v5 (n1 + u.size) (bv l1 ++ Lib.strCells u) rfl hown5 W.heap.size (some ad) n2 c2 (bv l2) rfl (by rw [bv_length]; exact hE2.out) (hX2.out.below (hb3.trans (hb5.mono hb3.size))).vals (bv_one l2) (by unfold maxLen; omega) (by omega) hb5.size ?_; intro v6 w6 hown6 hg6; have hb6 := hb3.trans ((below_append hb5 hown5 hb5.size hg6).mono hb3.size); rw [hbv.out] at hown6; obtain ⟨A6, c6, rfl, -, hc6, -, hx6⟩ := own_byt hown6; clear hown6 hg6)
              | (go_at_call_of 11 (Value.int IntKind.i64 (m : Int)); refine (HN1.out _ _ _ _ _ rfl hc6 hx6).mono ?_; rintro e w7 ⟨rfl, rfl⟩)
              | (go_at_call 11; refine (HN2.out _ _ _ _ _ rfl hc6 hx6).mono ?_; rintro e w7 ⟨rfl, rfl⟩)
              | (go_at_call 8; refine (HA.out _ hb6).mono ?_; rintro e w8 ⟨rfl, hb⟩))
            go_ret
            exact ⟨rfl, hb⟩
          · clear hnd
            go_enter Tryd.func5, Tryd.ntmps5
            go_wp2_with (first
              | (go_at_call 13; refine (HT1.out _ hb0).mono ?_; rintro e w2 ⟨rfl, hb2⟩)
              | (go_at_call 14; refine (HR1.out _ hb2).mono ?_; rintro e w3 ⟨rfl, hb3⟩; have hcell := hc0.out _ hb3)
              | (go_at_call 15; refine (HC.out _ hb3).mono ?_; rintro e w4 ⟨v4, rfl, hown4, hb4⟩)
              | (at_builtin; refine Lib.wpList_append_own_string _ rfl _ _ 26 9 rfl w3.heap.size 5 i0 Tryd.underlying26 Tryd.underlying9 hi hi0 hi1 hi2 v4 n1 (bv l1) rfl hown4 u rfl (by unfold maxLen; omega) (by omega) hb4.size ?_; intro v5 w5 hown5 hg5 _; have hb5 := below_append hb4 hown4 hb4.size hg5)
              | (at_builtin; refine wpList_append_vals rfl _ _ 26 rfl w3.heap.size 5 i0 (.int .u8 0) 1 Tryd.underlying26 hi hi0 hi1 hi2 rfl v5 (n1 + u.size) (bv l1 ++ Lib.strCells u) rfl hown5 W.heap.size (some ad) n2 c2 (bv l2) rfl (by rw [bv_length]; exact hE2.out) (hX2.out.below (hb3.trans (hb5.mono hb3.size))).vals (bv_one l2) (by unfold maxLen; omega) (by omega) hb5.size ?_; intro v6 w6 hown6 hg6; have hb6 := hb3.trans ((below_append hb5 hown5 hb5.size hg6).mono hb3.size); rw [hbv.out] at hown6; obtain ⟨A6, c6, rfl, -, hc6, -, hx6⟩ := own_byt hown6; clear hown6 hg6)
              | (go_at_call_of 11 (Value.int IntKind.i64 (m : Int)); refine (HN1.out _ _ _ _ _ rfl hc6 hx6).mono ?_; rintro e w7 ⟨rfl, rfl⟩)
              | (go_at_call 11; refine (HN2.out _ _ _ _ _ rfl hc6 hx6).mono ?_; rintro e w7 ⟨rfl, rfl⟩)
              | (go_at_call 8; refine (HA.out _ hb6).mono ?_; rintro e w8 ⟨rfl, hb⟩))
            go_ret
            exact ⟨rfl, hb⟩
        · go_enter Tryd.func5, Tryd.ntmps5
          go_wp2_with (first
            | (go_at_call 13; refine (HT1.out _ hb0).mono ?_; rintro e w2 ⟨rfl, hb2⟩)
            | (go_at_call 14; refine (HR1.out _ hb2).mono ?_; rintro e w3 ⟨rfl, hb3⟩)
            | (go_at_call 15; refine (HC.out _ hb3).mono ?_; rintro e w4 ⟨v4, rfl, hown4, hb4⟩)
            | (at_builtin; refine Lib.wpList_append_own_string _ rfl _ _ 26 9 rfl w3.heap.size 5 i0 Tryd.underlying26 Tryd.underlying9 hi hi0 hi1 hi2 v4 n1 (bv l1) rfl hown4 u rfl (by unfold maxLen; omega) (by omega) hb4.size ?_; intro v5 w5 hown5 hg5 _; have hb5 := below_append hb4 hown4 hb4.size hg5)
            | (at_builtin; refine wpList_append_vals rfl _ _ 26 rfl w3.heap.size 5 i0 (.int .u8 0) 1 Tryd.underlying26 hi hi0 hi1 hi2 rfl v5 (n1 + u.size) (bv l1 ++ Lib.strCells u) rfl hown5 W.heap.size A2 n2 c2 (bv l2) rfl (by rw [bv_length]; exact hE2.out) (hX2.out.below (hb3.trans (hb5.mono hb3.size))).vals (bv_one l2) (by unfold maxLen; omega) (by omega) hb5.size ?_; intro v6 w6 hown6 hg6; have hb6 := hb3.trans ((below_append hb5 hown5 hb5.size hg6).mono hb3.size); rw [hbv.out] at hown6; obtain ⟨A6, c6, rfl, -, hc6, -, hx6⟩ := own_byt hown6; clear hown6 hg6)
            | (go_at_call_of 11 (Value.int IntKind.i64 (m : Int)); refine (HN1.out _ _ _ _ _ rfl hc6 hx6).mono ?_; rintro e w7 ⟨rfl, rfl⟩)
            | (go_at_call 11; refine (HN2.out _ _ _ _ _ rfl hc6 hx6).mono ?_; rintro e w7 ⟨rfl, rfl⟩)
            | (go_at_call 8; refine (HA.out _ hb6).mono ?_; rintro e w8 ⟨rfl, hb⟩))
          go_ret
          exact ⟨rfl, hb⟩

theorem tab_of {W : World} (h : laidMetH Tryd.prog Rows.digitBackRow.laid W) : Tab W ∧ 0 < W.heap.size := by
  rw [MakeChecks.laidMetH_plain _ _ _ (by kernel_rfl)] at h
  have h3 := h.tail.tail
  have ht : Tab W := Lib.tabIs_of_head (rest := []) gPow0 (by kernel_rfl) Tryd.underlying68 Tryd.underlying58 (by kernel_rfl) (by kernel_rfl) h3
  exact ⟨ht, World.block_lt_of_cell? _ _ (ht.cell gPow0 0 (by decide))⟩

theorem contract (H : Type) (enc : TypeId × Value → H) (W : World) (base : Nat) (args : Array Value) (ds gs : List (DataW H)) (before : List MemPlace)
    (hval : ∀ (j : Nat) t v, Tryd.f5.params[j]? = some t → args[j]? = some v → Value.okWide Tryd.prog W .any base t v)
    (hW : DataW.Whole enc Tryd.prog Tryd.f5.params.toList Rows.digitBackSpec.vars false W args.toList ds gs before) (hL : laidMetH Tryd.prog Rows.digitBackRow.laid W) :
    Calls Tryd.prog 5 args W fun e W' => ∃ v, e = .returned v ∧ Rows.digitBackSpec.post enc Tryd.prog Tryd.f5 false true false false W args v W' := by
  have hW' := hW
  obtain ⟨p, q, hA, hV, rfl, hfz, hnd⟩ := hW
  rw [Tryd.params5] at hA hval
  obtain ⟨v0, vs0, d0, ds0, p0, q0, hargs, rfl, rfl, h0, r0⟩ := trodAll_cons hA
  obtain ⟨v1, vs1, d1, ds1, p1, q1, rfl, rfl, rfl, h1, r1⟩ := trodAll_cons r0
  obtain ⟨v2, vs2, d2, ds2, p2, q2, rfl, rfl, rfl, h2, r2⟩ := trodAll_cons r1
  obtain ⟨rfl, rfl, rfl⟩ := trodAll_nil r2
  obtain rfl : args = #[v0, v1, v2] := by cases args; simp_all
  obtain ⟨rfl, rfl⟩ := trodVars_none hV
  obtain ⟨a0, rfl, rfl, rfl, w0⟩ := open_int Tryd.underlying3 (hval 0 3 v0 rfl rfl) h0
  obtain ⟨A1, n1, c1, l1, rfl, e1, k1, m1, x1⟩ := open_byt Tryd.underlying26 Tryd.underlying5 (by kernel_rfl) (hval 1 26 v1 rfl rfl) h1
  obtain ⟨A2, n2, c2, l2, rfl, e2, k2, m2, x2⟩ := open_byt Tryd.underlying26 Tryd.underlying5 (by kernel_rfl) (hval 2 26 v2 rfl rfl) h2
  obtain ⟨ht, hg⟩ := tab_of hL
  exact (core W a0 w0 A1 n1 c1 l1 e1 k1 m1 x1 A2 n2 c2 l2 e2 k2 m2 x2 ht hg).mono fun e W' ⟨he, hb⟩ => ⟨_, he, law_post hW' rfl (by kernel_rfl) (by kernel_rfl) rfl hb⟩

theorem laid_met (os : Os) : laidMetH Tryd.prog Rows.digitBackRow.laid ((World.doorLaid Tryd.prog 4000 os).forCall (fun _ _ => 0) ⟨#[], #[.int .i64 0, .slice none 0 0, .slice none 0 0], []⟩).memory :=
  laidMetH_of_parts3 (fuel := 8) (laidMet_of_run' 8 (by kernel_rfl) (by kernel_rfl)) (by kernel_rfl) (by kernel_rfl)
theorem reads (os : Os) {H : Type} (enc : TypeId × Value → H) : ∃ places, DataW.whole enc Tryd.prog ((World.doorLaid Tryd.prog 4000 os).forCall (fun _ _ => 0) ⟨#[], #[.int .i64 0, .slice none 0 0, .slice none 0 0], []⟩).memory Tryd.f5.params.toList Rows.digitBackSpec.vars false #[Value.int .i64 0, .slice none 0 0, .slice none 0 0].toList 8 = some ([.lit (.int .i64 0), .nil, .nil], [], places) :=
  ⟨[], by kernel_rfl⟩

set_option maxRecDepth 100000 in
theorem lifted (os : Os) (started : os.Started) (H : Type) (enc : TypeId × Value → H) (F : Stop.Interp) :
    ReturnsInHanded {} Tryd.checked os 5 .any ((OpenSpec.ofChange Rows.digitBackSpec).preRow enc Tryd.prog Tryd.f5 Rows.digitBackRow.domain false Rows.digitBackRow.laid) (((OpenSpec.ofChange Rows.digitBackSpec).at F).post enc Tryd.prog Tryd.f5 false true false false) := by
  obtain ⟨places, hx⟩ := reads os enc
  refine returnsInHanded_of_row (C := Tryd.checked) (s := (OpenSpec.ofChange Rows.digitBackSpec)) own started (by kernel_rfl) Tryd.func5
    (witness_row_at (enc := enc) (C := Tryd.checked) false (World.doorLaid Tryd.prog 4000 os) #[.int .i64 0, .slice none 0 0, .slice none 0 0] rfl (by kernel_rfl) (by kernel_rfl) (by kernel_rfl)
      (OpenSpec.preRow_of_cond 8 hx (by kernel_rfl) (fun k hk => by cases hk) (by kernel_rfl) (laid_met os))) ?_
  intro W base args ds gs before hval hW _ _ _ hL _ _
  exact contract H enc W base args ds gs before hval hW hL

theorem said : Rows.DigitBackSaid :=
  OpenClaim.holds_of_cond 5 Tryd.f5 rfl rfl rfl rfl rfl rfl rfl ⟨rfl, rfl, rfl, rfl, rfl⟩ rfl rfl rfl rfl rfl (by kernel_rfl) Tryd.func5 (by kernel_rfl)
    (of_decide_eq_true (by kernel_rfl)) (by unfold Func.isWrapper; first | (rw [if_pos (by decide +kernel)]; kernel_rfl) | (rw [if_neg (by decide +kernel)]; exact ⟨rfl, rfl⟩))
    (fun os started H enc _ F => by rw [OpenClaim.pre_eq_preRow]; exact lifted os started H enc F)

theorem plain (f : FuncId) (fn : Func) (hf : Tryd.pinned.checked.prog.funcNamed "palinode/palinodelaw01.DigitBack" = some f) (hfn : Tryd.pinned.checked.prog.funcs[f]? = some fn) :
    false = Tryd.pinned.checked.prog.looks [] ∧ ∀ (j : Nat) t, fn.params[j]? = some t → Tryd.pinned.checked.prog.wantsStandIn t = false := by
  obtain rfl : f = 5 := Option.some.inj ((show Tryd.prog.funcNamed "palinode/palinodelaw01.DigitBack" = some 5 by kernel_rfl).symm.trans hf) |>.symm
  obtain rfl : fn = Tryd.f5 := (Option.some.inj (Tryd.func5.symm.trans hfn)).symm
  refine ⟨by kernel_rfl, fun j t ht => ?_⟩
  rw [Tryd.params5] at ht
  have hm : t ∈ [3, 26] := by simpa using Array.mem_of_getElem? ht
  have hall : ([3, 26].all fun u => !Tryd.prog.wantsStandIn u) = true := by kernel_rfl
  exact (show Tryd.prog.wantsStandIn t = false by simpa using List.all_eq_true.1 hall t hm)

theorem card : Rows.DigitBackCardSaid :=
  Claim7.holds_tied_plain_at .later [] _ _ _ _ said (fun _ h => by cases h) (by kernel_rfl) (fun _ h => by cases h) digitBack_row_tie rfl ⟨rfl, rfl⟩ (by kernel_rfl) rfl plain (by kernel_rfl)

end Go.Proofs.YtcflagjannphoaaDoor.digitBack
