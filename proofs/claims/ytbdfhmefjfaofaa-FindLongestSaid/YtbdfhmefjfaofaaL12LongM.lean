/- FindLongest answers true at every regular expression and text, and they read afterwards as they read before. Conditions: none. -/
import Derived.Test.YtbdfhmefjfaofaaM55
set_option linter.unusedVariables false
set_option linter.unusedSimpArgs false
set_option maxRecDepth 100000
namespace Go.Proofs.Ytbdfhmefjfaofaa.Long
open Go.ChangeShapes Go.WideShapes Go.ChangeAt Go.RowKit

theorem all_two {w w' : World} {ns : List Nod} {g : Int} {t : List UInt8} {e : Ending} (hok : rightN ns g = true) (h : AllQ w ns g t 3000 e w') : ∃ xs A c left en, e = .returned (.tuple #[.slice A xs.length c, .int .i64 left, .int .i64 en]) ∧ (en = 18 ∨ (en = 0 ∧ Row12 ns t g 0 (-1) xs ∧ HRow w' A xs ∧ xs.length ≤ maxLen)) := by
  rcases h with ⟨h, -⟩ | ⟨-, h, rfl⟩ | ⟨-, xs, left, v, h, rfl, hrow⟩
  · exact absurd ⟨hok, by omega⟩ h
  · exact ⟨[], none, 0, 0, 18, rfl, .inl rfl⟩
  · have hmx : xs.length ≤ maxLen := by
      obtain ⟨hl, ⟨h0, h1⟩ | ⟨g, cap, cur, h0, _, hh, hnc, hcm, hsz, htake⟩⟩ := id hrow
      · omega
      · omega
    obtain ⟨A, c, rfl, -, hr⟩ := own_hrow hrow
    exact ⟨xs, A, c, left, 0, rfl, .inr ⟨rfl, ⟨3000, left, Int.le_refl _, h⟩, hr, hmx⟩⟩
def SLn (G1 o1 G2 o2 : Nat) (L : List Value) (w' : World) : Prop := w'.rangeAt G1 o1 L ∧ w'.rangeAt G2 o2 L
theorem wpList_load_hit2 {ops : Array Oper} {rest : List Oper} {o : Oper} {a : Act} {w : World} {Q : Exit → Act → World → Prop} (hw : Region.wanted o (yielded ops a.tmps) = true) (x : Operand) (ho : o.op = .load 31 x) (H : Nat) (hx : a.eval x = .pointer (some ⟨H, 0, none⟩)) (C : Array Value) (hs : C.size = 20) (hh : Held w H 31 C)
    (h : wpList Try.prog ops Q rest (a.put o.dst (.agg C)) w) : wpList Try.prog ops Q (o :: rest) a w :=
  wpList_step fun K hK => by
    simp only [hw, if_true]
    exact wp_load_mid 31 x ho H 0 hx C.toList _ hh.range Try.underlying31 rfl (by rw [Array.length_toList, hs]; exact size_hit) (hK _ _ h)
set_option maxHeartbeats 16000000 in
theorem bad (W : World) (A1 : Option Addr) (n1 c1 : Nat) (l1 : List Nod) (g1 : Int) (hn1 : n1 = l1.length) (hc1 : n1 ≤ c1) (hm1 : c1 ≤ maxLen) (h1 : Nods W W.heap.size A1 l1)
    (A2 : Option Addr) (n2 c2 : Nat) (l2 : List UInt8) (hn2 : n2 = l2.length) (hc2 : n2 ≤ c2) (hm2 : c2 ≤ maxLen) (h2 : Byt W W.heap.size A2 l2) (big1 : ¬ 12 < n1) (big2 : ¬ 5 < n2) (k1 : rightN l1 g1 = false) :
    Calls Try.prog 7 #[.agg #[.slice A1 n1 c1, .int .i64 g1], .slice A2 n2 c2] W fun e W' => e = .returned (.bool true) ∧ Below W.heap.size W W' := by
  have hW := Lib.hid awake12_any
  have hb0 := Lib.hid ((Below.refl W.heap.size W).alloc (Nat.le_refl _) (.cells #[.slice A1 n1 c1, .int .i64 g1] 24))
  have e1 : decide ((12 : Int) < (n1 : Int)) = false := decide_eq_false (by omega)
  have e2 : decide ((5 : Int) < (n2 : Int)) = false := decide_eq_false (by omega)
  have hRe := Lib.hid (held_new W 24 #[.slice A1 n1 c1, .int .i64 g1])
  have hIn := Lib.hid (fun (w' : World) (hb : Below W.heap.size W w') => show AtIn w' W.heap.size A1 n1 c1 A2 n2 c2 l1 l2 from ⟨hn1, hc1, hm1, hb.size, h1.below hb, hn2, hc2, hm2, by omega, h2.below hb⟩)
  have hRt := Lib.hid (fun w' (hb : Below W.heap.size W w') => refRight_any A1 n1 c1 l1 g1 W.heap.size w' hn1 hc1 hm1 hb.size (h1.below hb))
  rw [k1] at hRt
  clear h1 h2 hn2 hm1 hm2 hn1
  go_enter Try.func7, Try.ntmps7
  go_wp2_with (first
    | (refine wpList_load_row rfl 24 (.tmp 2) rfl W.heap.size rfl 24 _ (0, 0) _ hRe.out Try.underlying24 rfl (by kernel_rfl) ?_)
    | (go_at_call 11; refine (hRt.out _ hb0.out).mono ?_; rintro e w2 ⟨rfl, hb1⟩; have hb2 := Lib.hid (hb0.out.trans (hb1.mono hb0.out.size)))
    | (go_at_call 14; refine (hW.out _).mono ?_; rintro e w3 ⟨rfl, hb3⟩))
  go_ret
  exact ⟨rfl, hb2.out.trans (hb3.mono hb2.out.size)⟩
set_option maxHeartbeats 16000000 in
theorem good (W : World) (A1 : Option Addr) (n1 c1 : Nat) (l1 : List Nod) (g1 : Int) (hn1 : n1 = l1.length) (hc1 : n1 ≤ c1) (hm1 : c1 ≤ maxLen) (h1 : Nods W W.heap.size A1 l1)
    (A2 : Option Addr) (n2 c2 : Nat) (l2 : List UInt8) (hn2 : n2 = l2.length) (hc2 : n2 ≤ c2) (hm2 : c2 ≤ maxLen) (h2 : Byt W W.heap.size A2 l2) (big1 : ¬ 12 < n1) (big2 : ¬ 5 < n2) (k1 : rightN l1 g1 = true) :
    Calls Try.prog 7 #[.agg #[.slice A1 n1 c1, .int .i64 g1], .slice A2 n2 c2] W fun e W' => e = .returned (.bool true) ∧ Below W.heap.size W W' := by
  have hW := Lib.hid awake12_any
  have hb0 := Lib.hid ((Below.refl W.heap.size W).alloc (Nat.le_refl _) (.cells #[.slice A1 n1 c1, .int .i64 g1] 24))
  have e1 : decide ((12 : Int) < (n1 : Int)) = false := decide_eq_false (by omega)
  have e2 : decide ((5 : Int) < (n2 : Int)) = false := decide_eq_false (by omega)
  have hRe := Lib.hid (held_new W 24 #[.slice A1 n1 c1, .int .i64 g1])
  have hIn := Lib.hid (fun (w' : World) (hb : Below W.heap.size W w') => show AtIn w' W.heap.size A1 n1 c1 A2 n2 c2 l1 l2 from ⟨hn1, hc1, hm1, hb.size, h1.below hb, hn2, hc2, hm2, by omega, h2.below hb⟩)
  have hRt := Lib.hid (fun w' (hb : Below W.heap.size W w') => refRight_any A1 n1 c1 l1 g1 W.heap.size w' hn1 hc1 hm1 hb.size (h1.below hb))
  rw [k1] at hRt
  have hAl := Lib.hid (fun w' (hb : Below W.heap.size W w') => findAll_any (g := g1) 3000 (hIn.out w' hb) (by omega))
  have hStp := Lib.hid (fun (k : Nat) (e : Int) (rest : List Spn) (h : Row12 l1 l2 g1 k e rest) (hk : k ≤ n2) => Row12.step (B := W.heap.size) (A := A1) (n := n1) (c := c1) (A2 := A2) (n2 := n2) (c2 := c2) k1 (by omega) (by omega) h (by omega))
  have hn2h := Lib.hid hn2
  have hHd := Lib.hid (fun (k : Nat) (e : Int) (s : Spn) (r : List Spn) (h : Row12 l1 l2 g1 k e (s :: r)) => show (k : Int) ≤ (s 0).1 ∧ (s 0).1 ≤ n2 from by have := Row12.head k1 h; omega)
  clear h1 h2 hn2 hm1 hm2 hn1
  go_enter Try.func7, Try.ntmps7
  go_upto_region 4 with (first
    | (go_at_call 11; refine (hRt.out _ hb0.out).mono ?_; rintro e w2 ⟨rfl, hb1⟩; have hb2 := Lib.hid (hb0.out.trans (hb1.mono hb0.out.size)); have hRe2 := Lib.hid (hRe.out.keep hb1); have r0 : w2.cell? ⟨W.heap.size, 0, none⟩ = some (.slice A1 n1 c1) := hRe2.out.at_ rfl; have r1 : w2.cell? ⟨W.heap.size, 1, none⟩ = some (.int .i64 g1) := hRe2.out.at_ rfl; clear hb1)
    | (go_at_call 17; refine (hAl.out w2 hb2.out).mono ?_; rintro e w3 ⟨hP, hb3⟩; obtain ⟨xs, Ax, cx, left, en, rfl, hQ⟩ := all_two k1 hP; have hQh := Lib.hid hQ; have hRe3 := Lib.hid (hRe2.out.keep hb3); have hb4 := Lib.hid (hb2.out.trans (hb3.mono hb2.out.size)); clear hP hQ hb3 r0 r1))
  rcases hQh.out with rfl | ⟨rfl, hRow, hHr, hmx⟩
  · clear hStp hHd
    go_wp2_with (go_at_call 14; refine (hW.out _).mono ?_; rintro e w5 ⟨rfl, hb6⟩)
    go_ret
    exact ⟨rfl, hb4.out.trans (hb6.mono hb4.out.size)⟩
  · have hHrh := Lib.hid hHr
    have hRow0 := Lib.hid hRow
    obtain ⟨nx, hnx⟩ : ∃ nx, xs.length = nx := ⟨_, rfl⟩
    rw [hnx] at hmx ⊢
    unfold maxLen at hmx
    have hnxh := Lib.hid hnx
    have hnw := Lib.hid (fun (w : World) => show Held (w.alloc (.cells #[.int .i64 0, .int .i64 0, .int .i64 0, .int .i64 0, .int .i64 0, .int .i64 0, .int .i64 0, .int .i64 0, .int .i64 0, .int .i64 0, .int .i64 0, .int .i64 0, .int .i64 0, .int .i64 0, .int .i64 0, .int .i64 0, .int .i64 0, .int .i64 0, .int .i64 0, .int .i64 0] 31)) w.heap.size 31 #[.int .i64 0, .int .i64 0, .int .i64 0, .int .i64 0, .int .i64 0, .int .i64 0, .int .i64 0, .int .i64 0, .int .i64 0, .int .i64 0, .int .i64 0, .int .i64 0, .int .i64 0, .int .i64 0, .int .i64 0, .int .i64 0, .int .i64 0, .int .i64 0, .int .i64 0, .int .i64 0] from held_new w _ _)
    clear hRow hHr hnx hQh
    go_wp2
    go_loopw [8, 9, 10] (fun vn vl vi wr => ∃ (k : Nat) (e : Int) (i : Nat), vn = .int .i64 (k : Nat) ∧ vl = .int .i64 e ∧ vi = .int .i64 (i : Nat) ∧ i ≤ nx ∧ Row12 l1 l2 g1 k e (xs.drop i) ∧ (-1 ≤ e ∧ e ≤ k ∧ k ≤ n2 + 1) ∧ Below w3.heap.size w3 wr) (fun _ _ i _ => nx + 1 - (intOf i).toNat)
    case atStart => exact ⟨0, -1, 0, rfl, rfl, rfl, Nat.zero_le _, by rw [List.drop_zero]; exact hRow0.out, ⟨by omega, by omega, by omega⟩, Below.refl _ _⟩
    case round =>
      obtain ⟨k, e, i, rfl, rfl, rfl, hi, hRw, he, hbk⟩ := hrel
      have hRwh := Lib.hid hRw
      have hbkh := Lib.hid hbk
      clear hRw hbk
      obtain ⟨Wk, hWk⟩ : ∃ z, z = wr := ⟨_, rfl⟩
      subst hWk
      have hn5 : n2 ≤ 5 := by omega
      have hwt : IntKind.i64.wrap ((n2 : Int) + 1) = ((n2 + 1 : Nat) : Int) := by rw [show (n2 : Int) + 1 = ((n2 + 1 : Nat) : Int) by omega]; exact IntWalk.i64_in _ (by omega)
      obtain ⟨n21, hn21⟩ : ∃ z, n2 + 1 = z := ⟨_, rfl⟩
      rw [hn21] at hwt
      by_cases hlt : i < nx
      · have hix : i < xs.length := by rw [hnxh.out]; exact hlt
        have hR0 : Row12 l1 l2 g1 k e ((xs[i]'hix) :: xs.drop (i + 1)) := by have := hRwh.out; rwa [List.drop_eq_getElem_cons hix] at this
        have hpart := Lib.hid (fun j u hj => hitsL_part xs i hix j u hj)
        generalize hs0 : xs[i]'hix = s0 at *
        obtain ⟨i1, hi1⟩ : ∃ z, i + 1 = z := ⟨_, rfl⟩
        rw [hi1] at hR0
        generalize hrr : xs.drop i1 = rr at *
        have hh := hHd.out k e s0 rr hR0
        have hR0h := Lib.hid hR0
        obtain ⟨tau, htau⟩ : ∃ z : Nat, (s0 0).1 = (z : Int) := Int.eq_ofNat_of_zero_le (by omega)
        have hz : (hitL s0)[0]? = some (.int .i64 (tau : Int)) := by rw [← htau]; rfl
        obtain ⟨G, rfl, hGlt, -⟩ := hHrh.out (i * 20 + 0) _ (hpart.out 0 _ hz)
        have hrn := Lib.hid (fun (wx : World) (hb : Below w3.heap.size w3 wx) => show wx.rangeAt G (i * 20) (hitL s0) from fun j u hj => by
          obtain ⟨G', e', _, hc⟩ := (hHrh.out.keep hb) (i * 20 + j) u (hpart.out j u hj)
          cases e'; exact hc)
        have c0 : Wk.cell? ⟨G, i * 20, none⟩ = some (.int .i64 (tau : Int)) := hrn.out Wk hbkh.out 0 _ hz
        have hkt : k ≤ tau := by omega
        have htn : tau ≤ n2 := by omega
        have hiI : (i : Int) < (nx : Int) := by omega
        have hii : ((i : Int) == (nx : Int)) = false := by rw [beq_eq_false_iff_ne]; omega
        have hwi : IntKind.i64.wrap ((i : Int) + 1) = (i1 : Int) := by rw [show (i : Int) + 1 = (i1 : Int) by omega]; exact IntWalk.i64_in _ (by omega)
        have hms := Lib.hid (show nx + 1 - i1 < nx + 1 - i ∧ i1 ≤ nx from by omega)
        replace hs0 := Lib.hid hs0
        replace hrr := Lib.hid hrr
        replace hi1 := Lib.hid hi1
        replace hn21 := Lib.hid hn21
        replace htau := Lib.hid htau
        replace hz := Lib.hid hz
        clear hR0 hh
        go_wp2
        go_loopw [12] (fun va wi => ∃ j : Nat, va = .int .i64 (j : Nat) ∧ k ≤ j ∧ j ≤ tau ∧ Row12 l1 l2 g1 j e (s0 :: rr) ∧ Below Wk.heap.size Wk wi) (fun a _ => tau - (intOf a).toNat)
        case atStart => exact ⟨k, rfl, Nat.le_refl _, hkt, hR0h.out, Below.refl _ _⟩
        case round =>
          obtain ⟨j, rfl, hkj, hjt, hRj, hbi⟩ := hrel
          have hRjh := Lib.hid hRj
          have hbih := Lib.hid hbi
          have hbw := Lib.hid (hbkh.out.trans (hbi.mono hbkh.out.size))
          have hbW := Lib.hid (hb4.out.trans (hbw.out.mono hb4.out.size))
          clear hRj hbi
          have hRei := hRe3.out.keep hbw.out
          have r0 : wr.cell? ⟨W.heap.size, 0, none⟩ = some (.slice A1 n1 c1) := hRei.at_ rfl
          have r1 : wr.cell? ⟨W.heap.size, 1, none⟩ = some (.int .i64 g1) := hRei.at_ rfl
          clear hRei
          by_cases hjl : j < tau
          · obtain ⟨b, hS, hCb⟩ := hStp.out j e (s0 :: rr) hRjh.out (by omega)
            have hBb := Lib.hid (hCb wr (hIn.out wr hbW.out))
            have hjI : (j : Int) < (tau : Int) := by omega
            obtain ⟨j1, hj1⟩ : ∃ j1, j + 1 = j1 := ⟨_, rfl⟩
            have hw2 : IntKind.i64.wrap ((j : Int) + 1) = (j1 : Int) := by rw [show (j : Int) + 1 = (j1 : Int) by omega]; exact IntWalk.i64_in _ (by omega)
            clear hCb
            rcases hS with ⟨rfl, hr⟩ | ⟨s2, rfl, hs, hk2, hr⟩ | ⟨s2, r2, b2, rfl, hx2, hs, hk2, hb2', hr⟩ | ⟨rfl, hx2, hr⟩
            · have hRn := Lib.hid (show Row12 l1 l2 g1 j1 e (s0 :: rr) from by rw [← hj1]; exact hr)
              clear hr
              replace hj1 := Lib.hid hj1
              have hsz := Lib.hid (hitC_size (ansS none))
              have hone := Lib.hid (hit_cells (ansS none))
              have hC1 := Lib.hid (show (hitC (ansS none))[1]? = some (.int .i64 0) from rfl)
              generalize hCM : hitC (ansS none) = CM at *
              replace hCM := Lib.hid hCM
              go_wp2_with (first
                | (go_at_call 13; refine (hBb.out).mono ?_; rintro e6 w6 ⟨rfl, hb6⟩; have hb7 := Lib.hid (hbih.out.trans (hb6.mono hbih.out.size)); clear hb6)
                | (have _h := hb7; refine wpList_store_row rfl 31 (.tmp 13) (.tmp 77) rfl w6.heap.size CM rfl rfl 31 _ (hnw.out w6) (by rw [hsz.out]; exact size_hit) (by rw [hsz.out]; rfl) hone.out ?_; have hK8 := Lib.hid ((hnw.out w6).row CM); have hb8 := Lib.hid (below_row (hb7.out.alloc hb7.out.size (.cells #[.int .i64 0, .int .i64 0, .int .i64 0, .int .i64 0, .int .i64 0, .int .i64 0, .int .i64 0, .int .i64 0, .int .i64 0, .int .i64 0, .int .i64 0, .int .i64 0, .int .i64 0, .int .i64 0, .int .i64 0, .int .i64 0, .int .i64 0, .int .i64 0, .int .i64 0, .int .i64 0] 31)) hb7.out.size CM); generalize hw8 : (w6.alloc (.cells #[.int .i64 0, .int .i64 0, .int .i64 0, .int .i64 0, .int .i64 0, .int .i64 0, .int .i64 0, .int .i64 0, .int .i64 0, .int .i64 0, .int .i64 0, .int .i64 0, .int .i64 0, .int .i64 0, .int .i64 0, .int .i64 0, .int .i64 0, .int .i64 0, .int .i64 0, .int .i64 0] 31)).setRow w6.heap.size CM = w8 at *; clear hw8; generalize hKK : w6.heap.size = K at *; replace hKK := Lib.hid hKK; have k8 := hK8.out.at_ hC1.out))
              go_roundw
              case rel => exact ⟨j1, rfl, by have := hj1.out; omega, by have := hj1.out; omega, hRn.out, hb8.out⟩
              case measure => have := hj1.out; simp [intOf]; omega
            · have hRn := Lib.hid (show Row12 l1 l2 g1 j1 e (s0 :: rr) from by rw [← hj1]; exact hr)
              clear hr
              replace hj1 := Lib.hid hj1
              obtain ⟨x2, hx2⟩ : ∃ x2, (s2 0).2 = x2 := ⟨_, rfl⟩
              have hgx : decide ((j : Int) < x2) = false := decide_eq_false (by omega)
              have hne : ((j : Int) != e) = false := by rw [bne_eq_false_iff_eq]; omega
              have hsz := Lib.hid (hitC_size (ansS (some s2)))
              have hone := Lib.hid (hit_cells (ansS (some s2)))
              have hC1 := Lib.hid (show (hitC (ansS (some s2)))[1]? = some (.int .i64 x2) from by rw [← hx2]; rfl)
              replace hx2 := Lib.hid hx2
              clear hs hk2
              generalize hCM : hitC (ansS (some s2)) = CM at *
              replace hCM := Lib.hid hCM
              go_wp2_with (first
                | (go_at_call 13; refine (hBb.out).mono ?_; rintro e6 w6 ⟨rfl, hb6⟩; have hb7 := Lib.hid (hbih.out.trans (hb6.mono hbih.out.size)); clear hb6)
                | (have _h := hb7; refine wpList_store_row rfl 31 (.tmp 13) (.tmp 77) rfl w6.heap.size CM rfl rfl 31 _ (hnw.out w6) (by rw [hsz.out]; exact size_hit) (by rw [hsz.out]; rfl) hone.out ?_; have hK8 := Lib.hid ((hnw.out w6).row CM); have hb8 := Lib.hid (below_row (hb7.out.alloc hb7.out.size (.cells #[.int .i64 0, .int .i64 0, .int .i64 0, .int .i64 0, .int .i64 0, .int .i64 0, .int .i64 0, .int .i64 0, .int .i64 0, .int .i64 0, .int .i64 0, .int .i64 0, .int .i64 0, .int .i64 0, .int .i64 0, .int .i64 0, .int .i64 0, .int .i64 0, .int .i64 0, .int .i64 0] 31)) hb7.out.size CM); generalize hw8 : (w6.alloc (.cells #[.int .i64 0, .int .i64 0, .int .i64 0, .int .i64 0, .int .i64 0, .int .i64 0, .int .i64 0, .int .i64 0, .int .i64 0, .int .i64 0, .int .i64 0, .int .i64 0, .int .i64 0, .int .i64 0, .int .i64 0, .int .i64 0, .int .i64 0, .int .i64 0, .int .i64 0, .int .i64 0] 31)).setRow w6.heap.size CM = w8 at *; clear hw8; generalize hKK : w6.heap.size = K at *; replace hKK := Lib.hid hKK; have k8 := hK8.out.at_ hC1.out))
              go_roundw
              case rel => exact ⟨j1, rfl, by have := hj1.out; omega, by have := hj1.out; omega, hRn.out, hb8.out⟩
              case measure => have := hj1.out; simp [intOf]; omega
            · exfalso
              injection hx2 with q1 q2
              subst q1
              have q := hk2.1
              have := htau.out
              omega
            · exact absurd hx2 (by intro h; cases h)
          · obtain rfl : j = tau := by omega
            obtain ⟨b, hS, hCb⟩ := hStp.out j e (s0 :: rr) hRjh.out (by omega)
            have hBb := Lib.hid (hCb wr (hIn.out wr hbW.out))
            clear hCb
            rcases hS with ⟨rfl, hr⟩ | ⟨s2, rfl, hs, hk2, hr⟩ | ⟨s2, r2, b2, rfl, hx2, hs, hk2, hb2', hr⟩ | ⟨rfl, hx2, hr⟩
            · exfalso
              have q := (hHd.out _ _ _ _ hr).1
              have := htau.out
              omega
            · exfalso
              have q := (hHd.out _ _ _ _ hr).1
              have := htau.out
              omega
            rotate_left
            · exact absurd hx2 (by intro h; cases h)
            · injection hx2 with q1 q2
              subst q1
              subst q2
              obtain ⟨x, hx⟩ : ∃ z : Nat, (s0 0).2 = (z : Int) := Int.eq_ofNat_of_zero_le (by omega)
              obtain ⟨x1, hx1⟩ : ∃ z, x + 1 = z := ⟨_, rfl⟩
              rw [hx] at hr hb2' hk2
              have hxl : x ≤ n2 := by have := hn2h.out; omega
              have hwx : IntKind.i64.wrap ((x : Int) + 1) = (x1 : Int) := by rw [show (x : Int) + 1 = (x1 : Int) by omega]; exact IntWalk.i64_in _ (by omega)
              have hC1 := Lib.hid (show (hitL s0).toArray[1]? = some (.int .i64 (x : Int)) from by rw [← hx]; rfl)
              have hE : ∀ w, (binOp .neq 31 (.agg (hitC s0)) (.agg (hitC s0))).run Try.prog w = .ok (.bool false) w := fun w => by
                have := hit_neq w s0 s0
                rw [same10B_self] at this
                exact this
              have hGq : ∀ op p q w, (eqGuard op 31 p q (.agg (hitC s0)) (.agg (hitC s0))).run Try.prog w = .ok () w := fun op p q w => hit_guard w op p q s0 s0
              have hLl := Lib.hid (hitL_len s0)
              have hsz := Lib.hid (hitC_size s0)
              have hone := Lib.hid (hit_cells s0)
              have hCe := Lib.hid (show hitC (ansS (some s0)) = (hitL s0).toArray from rfl)
              rw [hCe.out] at hBb
              rw [show hitC s0 = (hitL s0).toArray from rfl] at hE hGq hsz hone
              have hRn := Lib.hid (show Row12 l1 l2 g1 b2 (x : Int) (xs.drop i1) from by rw [hrr.out]; exact hr)
              have hxj := Lib.hid (show (x = j → b2 = x1) ∧ (x ≠ j → b2 = x) from by
                constructor
                · intro h; omega
                · intro h; omega)
              have hxn := Lib.hid (show x ≤ n2 ∧ j ≤ x ∧ b2 ≤ n2 + 1 ∧ x ≤ b2 from by omega)
              clear hCe hs hr hb2' hk2
              replace hx := Lib.hid hx
              replace hx1 := Lib.hid hx1
              generalize hitL s0 = L at *
              go_upto_region 21 with (first
                | (go_at_call 13; refine (hBb.out).mono ?_; rintro e6 w6 ⟨rfl, hb6⟩; have hb7 := Lib.hid (hbih.out.trans (hb6.mono hbih.out.size)); clear hb6)
                | (have _h := hb7; refine wpList_store_row rfl 31 (.tmp 15) (.tmp 102) rfl w6.heap.size L.toArray rfl rfl 31 _ (hnw.out w6) (by rw [hsz.out]; exact size_hit) (by rw [hsz.out]; rfl) hone.out ?_; have hK8 := Lib.hid ((hnw.out w6).row L.toArray); have hb8 := Lib.hid (below_row (hb7.out.alloc hb7.out.size (.cells #[.int .i64 0, .int .i64 0, .int .i64 0, .int .i64 0, .int .i64 0, .int .i64 0, .int .i64 0, .int .i64 0, .int .i64 0, .int .i64 0, .int .i64 0, .int .i64 0, .int .i64 0, .int .i64 0, .int .i64 0, .int .i64 0, .int .i64 0, .int .i64 0, .int .i64 0, .int .i64 0] 31)) hb7.out.size L.toArray); generalize hw8 : (w6.alloc (.cells #[.int .i64 0, .int .i64 0, .int .i64 0, .int .i64 0, .int .i64 0, .int .i64 0, .int .i64 0, .int .i64 0, .int .i64 0, .int .i64 0, .int .i64 0, .int .i64 0, .int .i64 0, .int .i64 0, .int .i64 0, .int .i64 0, .int .i64 0, .int .i64 0, .int .i64 0, .int .i64 0] 31)).setRow w6.heap.size L.toArray = w8 at *; clear hw8; generalize hKK : w6.heap.size = K at *; replace hKK := Lib.hid hKK; have k8 := hK8.out.at_ hC1.out))
              have hbf := Lib.hid (show Below w3.heap.size w3 w8.drew from below_drewN (hbkh.out.trans (hb8.out.mono hbkh.out.size)) 1)
              have hKd := Lib.hid (show Held w8.drew K 31 L.toArray from hK8.out.drew)
              have hSd := Lib.hid (show SLn K 0 G (i * 20) L w8.drew from ⟨hKd.out.range, hrn.out _ hbf.out⟩)
              clear r0 r1 k8
              go_wp2
              refine wp_region_held_drew (S := SLn K 0 G (i * 20) L) (by kernel_rfl) hSd.out (fun hS => ?_)
              generalize w8.drew = wd at *
              refine wpAnyH_take (i := 0) (v := ?_) rfl (by kernel_rfl) (by kernel_rfl) (by kernel_rfl) (fun _ _ _ h => h) (Or.inl ⟨by rfl, ?_⟩) hS ?_
              rotate_left
              · (intro w' hS'; go_simp; try with_reducible rfl)
              (try simp only [Act.put, List.getElem_toArray, List.getElem_cons_zero, List.getElem_cons_succ, List.setIfInBounds_toArray, List.set_cons_zero, List.set_cons_succ])
              refine wpAnyH_take (i := 1) (v := ?_) rfl (by kernel_rfl) (by kernel_rfl) (by kernel_rfl) (fun _ _ _ h => h) (Or.inl ⟨by rfl, ?_⟩) hS ?_
              rotate_left
              · (intro w' hS'; go_simp; try with_reducible rfl)
              (try simp only [Act.put, List.getElem_toArray, List.getElem_cons_zero, List.getElem_cons_succ, List.setIfInBounds_toArray, List.set_cons_zero, List.set_cons_succ])
              refine wpAnyH_take (i := 2) (v := ?_) rfl (by kernel_rfl) (by kernel_rfl) (by kernel_rfl) (fun _ _ _ h => h) (Or.inl ⟨by rfl, ?_⟩) hS ?_
              rotate_left
              · (intro w' hS'; go_simp; try with_reducible rfl)
              (try simp only [Act.put, List.getElem_toArray, List.getElem_cons_zero, List.getElem_cons_succ, List.setIfInBounds_toArray, List.set_cons_zero, List.set_cons_succ])
              refine wpAnyH_take (i := 3) (v := _) rfl (by kernel_rfl) (by kernel_rfl) (by kernel_rfl) (fun _ _ _ h => h) (yieldsIf_load_mid (by rfl) _ _ rfl (K) 0 rfl (L) _ (fun _ hS' => hS'.1) Try.underlying31 rfl (by rw [hLl.out]; exact size_hit)) hS ?_
              (try simp only [Act.put, List.getElem_toArray, List.getElem_cons_zero, List.getElem_cons_succ, List.setIfInBounds_toArray, List.set_cons_zero, List.set_cons_succ])
              refine wpAnyH_take (i := 4) (v := ?_) rfl (by kernel_rfl) (by kernel_rfl) (by kernel_rfl) (fun _ _ _ h => h) (Or.inl ⟨by rfl, ?_⟩) hS ?_
              rotate_left
              · (intro w' hS'; go_simp; try with_reducible rfl)
              (try simp only [Act.put, List.getElem_toArray, List.getElem_cons_zero, List.getElem_cons_succ, List.setIfInBounds_toArray, List.set_cons_zero, List.set_cons_succ])
              refine wpAnyH_take (i := 5) (v := ?_) rfl (by kernel_rfl) (by kernel_rfl) (by kernel_rfl) (fun _ _ _ h => h) (Or.inl ⟨by rfl, ?_⟩) hS ?_
              rotate_left
              · (intro w' hS'; go_simp; try with_reducible rfl)
              (try simp only [Act.put, List.getElem_toArray, List.getElem_cons_zero, List.getElem_cons_succ, List.setIfInBounds_toArray, List.set_cons_zero, List.set_cons_succ])
              refine wpAnyH_take (i := 6) (v := ?_) rfl (by kernel_rfl) (by kernel_rfl) (by kernel_rfl) (fun _ _ _ h => h) (Or.inl ⟨by rfl, ?_⟩) hS ?_
              rotate_left
              · (intro w' hS'; go_simp; try with_reducible rfl)
              (try simp only [Act.put, List.getElem_toArray, List.getElem_cons_zero, List.getElem_cons_succ, List.setIfInBounds_toArray, List.set_cons_zero, List.set_cons_succ])
              refine wpAnyH_take (i := 7) (v := _) rfl (by kernel_rfl) (by kernel_rfl) (by kernel_rfl) (fun _ _ _ h => h) (yieldsIf_load_mid (by rfl) _ _ rfl (G) (i * 20) rfl (L) _ (fun _ hS' => hS'.2) Try.underlying31 rfl (by rw [hLl.out]; exact size_hit)) hS ?_
              (try simp only [Act.put, List.getElem_toArray, List.getElem_cons_zero, List.getElem_cons_succ, List.setIfInBounds_toArray, List.set_cons_zero, List.set_cons_succ])
              refine wpAnyH_take (i := 8) (v := ?_) rfl (by kernel_rfl) (by kernel_rfl) (by kernel_rfl) (fun _ _ _ h => h) (Or.inl ⟨by rfl, ?_⟩) hS ?_
              rotate_left
              · (intro w' hS'; go_simp; try with_reducible rfl)
              (try simp only [Act.put, List.getElem_toArray, List.getElem_cons_zero, List.getElem_cons_succ, List.setIfInBounds_toArray, List.set_cons_zero, List.set_cons_succ])
              refine wpAnyH_take (i := 9) (v := ?_) rfl (by kernel_rfl) (by kernel_rfl) (by kernel_rfl) (fun _ _ _ h => h) (Or.inl ⟨by rfl, ?_⟩) hS ?_
              rotate_left
              · (intro w' hS'; go_simp; try with_reducible rfl)
              (try simp only [Act.put, List.getElem_toArray, List.getElem_cons_zero, List.getElem_cons_succ, List.setIfInBounds_toArray, List.set_cons_zero, List.set_cons_succ])
              refine wpAnyH_done (by kernel_rfl) ?_ _
              have k8 := hKd.out.at_ hC1.out
              by_cases hxe : x = j
              · have exj : ((x : Int) == (j : Int)) = true := by rw [beq_iff_eq]; omega
                have hb2e := hxj.out.1 hxe
                subst hb2e
                replace hxe := Lib.hid hxe
                go_wp2
                go_roundw
                case rel => exact ⟨_, (x : Int), i1, rfl, rfl, rfl, hms.out.2, hRn.out, ⟨by have := hxn.out; omega, by have := hxn.out; omega, by have := hxn.out; omega⟩, hbf.out⟩
                case measure => have := hms.out.1; simp [intOf]; omega
              · have exj : ((x : Int) == (j : Int)) = false := by rw [beq_eq_false_iff_ne]; omega
                have hb2e := hxj.out.2 hxe
                subst hb2e
                replace hxe := Lib.hid hxe
                go_wp2
                go_roundw
                case rel => exact ⟨_, _, i1, rfl, rfl, rfl, hms.out.2, hRn.out, ⟨by have := hxn.out; omega, by have := hxn.out; omega, by have := hxn.out; omega⟩, hbf.out⟩
                case measure => have := hms.out.1; simp [intOf]; omega
      · obtain rfl : i = nx := by omega
        have hR0 := Lib.hid (show Row12 l1 l2 g1 k e [] from by have := hRwh.out; rwa [List.drop_eq_nil_of_le (by rw [hnxh.out]; exact Nat.le_refl _)] at this)
        obtain ⟨tau, htau⟩ : ∃ z, z = n21 := ⟨_, rfl⟩
        have htau' : tau = n2 + 1 := by omega
        subst htau
        replace hn21 := Lib.hid hn21
        replace htau' := Lib.hid htau'
        have htl : tau ≤ n2 + 1 := by rw [htau'.out]; exact Nat.le_refl _
        have hii : ((i : Int) == (i : Int)) = true := by simp
        go_wp2
        go_loopw [12] (fun va wi => ∃ j : Nat, va = .int .i64 (j : Nat) ∧ k ≤ j ∧ j ≤ tau ∧ Row12 l1 l2 g1 j e [] ∧ Below Wk.heap.size Wk wi) (fun a _ => tau - (intOf a).toNat)
        case atStart => exact ⟨k, rfl, Nat.le_refl _, by have := htau'.out; omega, hR0.out, Below.refl _ _⟩
        case round =>
          obtain ⟨j, rfl, hkj, hjt, hRj, hbi⟩ := hrel
          have hRjh := Lib.hid hRj
          have hbih := Lib.hid hbi
          have hbw := Lib.hid (hbkh.out.trans (hbi.mono hbkh.out.size))
          have hbW := Lib.hid (hb4.out.trans (hbw.out.mono hb4.out.size))
          clear hRj hbi
          have hRei := hRe3.out.keep hbw.out
          have r0 : wr.cell? ⟨W.heap.size, 0, none⟩ = some (.slice A1 n1 c1) := hRei.at_ rfl
          have r1 : wr.cell? ⟨W.heap.size, 1, none⟩ = some (.int .i64 g1) := hRei.at_ rfl
          clear hRei
          by_cases hjl : j < tau
          · obtain ⟨b, hS, hCb⟩ := hStp.out j e ([]) hRjh.out (by omega)
            have hBb := Lib.hid (hCb wr (hIn.out wr hbW.out))
            have hjI : (j : Int) < (tau : Int) := by omega
            obtain ⟨j1, hj1⟩ : ∃ j1, j + 1 = j1 := ⟨_, rfl⟩
            have hw2 : IntKind.i64.wrap ((j : Int) + 1) = (j1 : Int) := by rw [show (j : Int) + 1 = (j1 : Int) by omega]; exact IntWalk.i64_in _ (by omega)
            clear hCb
            rcases hS with ⟨rfl, hr⟩ | ⟨s2, rfl, hs, hk2, hr⟩ | ⟨s2, r2, b2, rfl, hx2, hs, hk2, hb2', hr⟩ | ⟨rfl, hx2, hr⟩
            · have hRn := Lib.hid (show Row12 l1 l2 g1 j1 e ([]) from by rw [← hj1]; exact hr)
              clear hr
              replace hj1 := Lib.hid hj1
              have hsz := Lib.hid (hitC_size (ansS none))
              have hone := Lib.hid (hit_cells (ansS none))
              have hC1 := Lib.hid (show (hitC (ansS none))[1]? = some (.int .i64 0) from rfl)
              generalize hCM : hitC (ansS none) = CM at *
              replace hCM := Lib.hid hCM
              go_wp2_with (first
                | (go_at_call 13; refine (hBb.out).mono ?_; rintro e6 w6 ⟨rfl, hb6⟩; have hb7 := Lib.hid (hbih.out.trans (hb6.mono hbih.out.size)); clear hb6)
                | (have _h := hb7; refine wpList_store_row rfl 31 (.tmp 13) (.tmp 77) rfl w6.heap.size CM rfl rfl 31 _ (hnw.out w6) (by rw [hsz.out]; exact size_hit) (by rw [hsz.out]; rfl) hone.out ?_; have hK8 := Lib.hid ((hnw.out w6).row CM); have hb8 := Lib.hid (below_row (hb7.out.alloc hb7.out.size (.cells #[.int .i64 0, .int .i64 0, .int .i64 0, .int .i64 0, .int .i64 0, .int .i64 0, .int .i64 0, .int .i64 0, .int .i64 0, .int .i64 0, .int .i64 0, .int .i64 0, .int .i64 0, .int .i64 0, .int .i64 0, .int .i64 0, .int .i64 0, .int .i64 0, .int .i64 0, .int .i64 0] 31)) hb7.out.size CM); generalize hw8 : (w6.alloc (.cells #[.int .i64 0, .int .i64 0, .int .i64 0, .int .i64 0, .int .i64 0, .int .i64 0, .int .i64 0, .int .i64 0, .int .i64 0, .int .i64 0, .int .i64 0, .int .i64 0, .int .i64 0, .int .i64 0, .int .i64 0, .int .i64 0, .int .i64 0, .int .i64 0, .int .i64 0, .int .i64 0] 31)).setRow w6.heap.size CM = w8 at *; clear hw8; generalize hKK : w6.heap.size = K at *; replace hKK := Lib.hid hKK; have k8 := hK8.out.at_ hC1.out))
              go_roundw
              case rel => exact ⟨j1, rfl, by have := hj1.out; omega, by have := hj1.out; omega, hRn.out, hb8.out⟩
              case measure => have := hj1.out; simp [intOf]; omega
            · have hRn := Lib.hid (show Row12 l1 l2 g1 j1 e ([]) from by rw [← hj1]; exact hr)
              clear hr
              replace hj1 := Lib.hid hj1
              obtain ⟨x2, hx2⟩ : ∃ x2, (s2 0).2 = x2 := ⟨_, rfl⟩
              have hgx : decide ((j : Int) < x2) = false := decide_eq_false (by omega)
              have hne : ((j : Int) != e) = false := by rw [bne_eq_false_iff_eq]; omega
              have hsz := Lib.hid (hitC_size (ansS (some s2)))
              have hone := Lib.hid (hit_cells (ansS (some s2)))
              have hC1 := Lib.hid (show (hitC (ansS (some s2)))[1]? = some (.int .i64 x2) from by rw [← hx2]; rfl)
              replace hx2 := Lib.hid hx2
              clear hs hk2
              generalize hCM : hitC (ansS (some s2)) = CM at *
              replace hCM := Lib.hid hCM
              go_wp2_with (first
                | (go_at_call 13; refine (hBb.out).mono ?_; rintro e6 w6 ⟨rfl, hb6⟩; have hb7 := Lib.hid (hbih.out.trans (hb6.mono hbih.out.size)); clear hb6)
                | (have _h := hb7; refine wpList_store_row rfl 31 (.tmp 13) (.tmp 77) rfl w6.heap.size CM rfl rfl 31 _ (hnw.out w6) (by rw [hsz.out]; exact size_hit) (by rw [hsz.out]; rfl) hone.out ?_; have hK8 := Lib.hid ((hnw.out w6).row CM); have hb8 := Lib.hid (below_row (hb7.out.alloc hb7.out.size (.cells #[.int .i64 0, .int .i64 0, .int .i64 0, .int .i64 0, .int .i64 0, .int .i64 0, .int .i64 0, .int .i64 0, .int .i64 0, .int .i64 0, .int .i64 0, .int .i64 0, .int .i64 0, .int .i64 0, .int .i64 0, .int .i64 0, .int .i64 0, .int .i64 0, .int .i64 0, .int .i64 0] 31)) hb7.out.size CM); generalize hw8 : (w6.alloc (.cells #[.int .i64 0, .int .i64 0, .int .i64 0, .int .i64 0, .int .i64 0, .int .i64 0, .int .i64 0, .int .i64 0, .int .i64 0, .int .i64 0, .int .i64 0, .int .i64 0, .int .i64 0, .int .i64 0, .int .i64 0, .int .i64 0, .int .i64 0, .int .i64 0, .int .i64 0, .int .i64 0] 31)).setRow w6.heap.size CM = w8 at *; clear hw8; generalize hKK : w6.heap.size = K at *; replace hKK := Lib.hid hKK; have k8 := hK8.out.at_ hC1.out))
              go_roundw
              case rel => exact ⟨j1, rfl, by have := hj1.out; omega, by have := hj1.out; omega, hRn.out, hb8.out⟩
              case measure => have := hj1.out; simp [intOf]; omega
            · exact absurd hx2 (by intro h; cases h)
            · have hRn := Lib.hid (show Row12 l1 l2 g1 j1 e [] from by rw [← hj1]; exact hr)
              clear hr
              replace hj1 := Lib.hid hj1
              have hsz := Lib.hid (hitC_size (ansS none))
              have hone := Lib.hid (hit_cells (ansS none))
              have hC1 := Lib.hid (show (hitC (ansS none))[1]? = some (.int .i64 0) from rfl)
              generalize hCM : hitC (ansS none) = CM at *
              replace hCM := Lib.hid hCM
              go_wp2_with (first
                | (go_at_call 13; refine (hBb.out).mono ?_; rintro e6 w6 ⟨rfl, hb6⟩; have hb7 := Lib.hid (hbih.out.trans (hb6.mono hbih.out.size)); clear hb6)
                | (have _h := hb7; refine wpList_store_row rfl 31 (.tmp 13) (.tmp 77) rfl w6.heap.size CM rfl rfl 31 _ (hnw.out w6) (by rw [hsz.out]; exact size_hit) (by rw [hsz.out]; rfl) hone.out ?_; have hK8 := Lib.hid ((hnw.out w6).row CM); have hb8 := Lib.hid (below_row (hb7.out.alloc hb7.out.size (.cells #[.int .i64 0, .int .i64 0, .int .i64 0, .int .i64 0, .int .i64 0, .int .i64 0, .int .i64 0, .int .i64 0, .int .i64 0, .int .i64 0, .int .i64 0, .int .i64 0, .int .i64 0, .int .i64 0, .int .i64 0, .int .i64 0, .int .i64 0, .int .i64 0, .int .i64 0, .int .i64 0] 31)) hb7.out.size CM); generalize hw8 : (w6.alloc (.cells #[.int .i64 0, .int .i64 0, .int .i64 0, .int .i64 0, .int .i64 0, .int .i64 0, .int .i64 0, .int .i64 0, .int .i64 0, .int .i64 0, .int .i64 0, .int .i64 0, .int .i64 0, .int .i64 0, .int .i64 0, .int .i64 0, .int .i64 0, .int .i64 0, .int .i64 0, .int .i64 0] 31)).setRow w6.heap.size CM = w8 at *; clear hw8; generalize hKK : w6.heap.size = K at *; replace hKK := Lib.hid hKK; have k8 := hK8.out.at_ hC1.out))
              go_roundw
              case rel => exact ⟨j1, rfl, by have := hj1.out; omega, by have := hj1.out; omega, hRn.out, hb8.out⟩
              case measure => have := hj1.out; simp [intOf]; omega
          · obtain rfl : j = tau := by omega
            go_wp2_with (go_at_call 14; refine (hW.out _).mono ?_; rintro e5 w5 ⟨rfl, hb6⟩)
            go_ret
            exact ⟨rfl, hbW.out.trans (hb6.mono hbW.out.size)⟩

set_option maxHeartbeats 16000000 in
theorem core (W : World) (A1 : Option Addr) (n1 c1 : Nat) (l1 : List Nod) (g1 : Int) (hn1 : n1 = l1.length) (hc1 : n1 ≤ c1) (hm1 : c1 ≤ maxLen) (h1 : Nods W W.heap.size A1 l1)
    (A2 : Option Addr) (n2 c2 : Nat) (l2 : List UInt8) (hn2 : n2 = l2.length) (hc2 : n2 ≤ c2) (hm2 : c2 ≤ maxLen) (h2 : Byt W W.heap.size A2 l2) :
    Calls Try.prog 7 #[.agg #[.slice A1 n1 c1, .int .i64 g1], .slice A2 n2 c2] W fun e W' => e = .returned (.bool true) ∧ Below W.heap.size W W' := by
  by_cases big1 : 12 < n1
  · have hW := Lib.hid awake12_any
    have hb0 := Lib.hid ((Below.refl W.heap.size W).alloc (Nat.le_refl _) (.cells #[.slice A1 n1 c1, .int .i64 g1] 24))
    have e0 := True.intro
    clear hn1 h1 hn2 h2
    unfold maxLen at hm1 hm2
    go_enter Try.func7, Try.ntmps7
    go_wp2_with (go_at_call 14; refine (hW.out _).mono ?_; rintro e w1 ⟨rfl, hb1⟩)
    go_ret
    exact ⟨rfl, hb0.out.trans (hb1.mono hb0.out.size)⟩
  by_cases big2 : 5 < n2
  · have hW := Lib.hid awake12_any
    have hb0 := Lib.hid ((Below.refl W.heap.size W).alloc (Nat.le_refl _) (.cells #[.slice A1 n1 c1, .int .i64 g1] 24))
    have e0 := True.intro
    clear hn1 h1 hn2 h2
    unfold maxLen at hm1 hm2
    go_enter Try.func7, Try.ntmps7
    go_wp2_with (go_at_call 14; refine (hW.out _).mono ?_; rintro e w1 ⟨rfl, hb1⟩)
    go_ret
    exact ⟨rfl, hb0.out.trans (hb1.mono hb0.out.size)⟩
  cases k1 : rightN l1 g1 with
  | false => exact bad W A1 n1 c1 l1 g1 hn1 hc1 hm1 h1 A2 n2 c2 l2 hn2 hc2 hm2 h2 big1 big2 k1
  | true => exact good W A1 n1 c1 l1 g1 hn1 hc1 hm1 h1 A2 n2 c2 l2 hn2 hc2 hm2 h2 big1 big2 k1
theorem contract (H : Type) (enc : TypeId × Value → H) (W : World) (base : Nat) (args : Array Value) (ds gs : List (DataW H)) (before : List MemPlace)
    (hval : ∀ (j : Nat) t v, Try.f7.params[j]? = some t → args[j]? = some v → Value.okWide Try.prog W .any base t v)
    (hW : DataW.Whole enc Try.prog Try.f7.params.toList Rows.findLongestSpec.vars false W args.toList ds gs before) :
    Calls Try.prog 7 args W fun e W' => ∃ v, e = .returned v ∧ Rows.findLongestSpec.post enc Try.prog Try.f7 false true false false W args v W' := by
  have hW' := hW
  obtain ⟨p, q, hA, hV, rfl, hfz, hnd⟩ := hW
  rw [Try.params7] at hA hval
  obtain ⟨v0, vs0, d0, ds0, p0, q0, hargs, rfl, rfl, h0, r0⟩ := trodAll_cons hA
  obtain ⟨v1, vs1, d1, ds1, p1, q1, rfl, rfl, rfl, h1, r1⟩ := trodAll_cons r0
  obtain ⟨rfl, rfl, rfl⟩ := trodAll_nil r1
  obtain rfl : args = #[v0, v1] := by cases args; simp_all
  obtain ⟨rfl, rfl⟩ := trodVars_none hV
  obtain ⟨A0, n0, c0, l0, g0, rfl, e0, k0, m0, x0⟩ := open_re (hval 0 24 v0 rfl rfl) h0
  obtain ⟨A1, n1, c1, l1, rfl, e1, k1, m1, x1⟩ := open_byt Try.underlying25 Try.underlying5 (by kernel_rfl) (hval 1 25 v1 rfl rfl) h1
  exact (core W A0 n0 c0 l0 g0 e0 k0 m0 x0 A1 n1 c1 l1 e1 k1 m1 x1).mono fun e W' ⟨he, hb⟩ => ⟨_, he, law_post hW' rfl (by kernel_rfl) (by kernel_rfl) rfl hb⟩

theorem laid_met (os : Os) : laidMetH Try.prog Rows.findLongestRow.laid ((World.doorLaid Try.prog 4000 os).forCall (fun _ _ => 0) ⟨#[], #[.agg #[.slice none 0 0, .int .i64 0], .slice none 0 0], []⟩).memory :=
  laidMetH_of_parts3 (fuel := 8) (laidMet_of_run' 8 (by kernel_rfl) (by kernel_rfl)) (by kernel_rfl) (by kernel_rfl)
theorem reads (os : Os) {H : Type} (enc : TypeId × Value → H) : ∃ places, DataW.whole enc Try.prog ((World.doorLaid Try.prog 4000 os).forCall (fun _ _ => 0) ⟨#[], #[.agg #[.slice none 0 0, .int .i64 0], .slice none 0 0], []⟩).memory Try.f7.params.toList Rows.findLongestSpec.vars false #[Value.agg #[.slice none 0 0, .int .i64 0], .slice none 0 0].toList 8 = some ([.agg [.nil, .lit (.int .i64 0)], .nil], [], places) :=
  ⟨[], by kernel_rfl⟩

set_option maxRecDepth 100000 in
theorem lifted (os : Os) (started : os.Started) (H : Type) (enc : TypeId × Value → H) (F : Stop.Interp) :
    ReturnsInHanded {} Try.checked os 7 .any ((OpenSpec.ofChange Rows.findLongestSpec).preRow enc Try.prog Try.f7 Rows.findLongestRow.domain false Rows.findLongestRow.laid) (((OpenSpec.ofChange Rows.findLongestSpec).at F).post enc Try.prog Try.f7 false true false false) := by
  obtain ⟨places, hx⟩ := reads os enc
  refine returnsInHanded_of_row (C := Try.checked) (s := (OpenSpec.ofChange Rows.findLongestSpec)) own started (by kernel_rfl) Try.func7
    (witness_row_at (enc := enc) (C := Try.checked) false (World.doorLaid Try.prog 4000 os) #[.agg #[.slice none 0 0, .int .i64 0], .slice none 0 0] rfl (by kernel_rfl) (by kernel_rfl) (by kernel_rfl)
      (OpenSpec.preRow_of_cond 8 hx (by kernel_rfl) (fun k hk => by cases hk) (by kernel_rfl) (laid_met os))) ?_
  intro W base args ds gs before hval hW _ _ _ _ _ _
  exact contract H enc W base args ds gs before hval hW

theorem said : Rows.FindLongestSaid :=
  OpenClaim.holds_of_cond 7 Try.f7 rfl rfl rfl rfl rfl rfl rfl ⟨rfl, rfl, rfl, rfl, rfl⟩ rfl rfl rfl rfl rfl (by kernel_rfl) Try.func7 (by kernel_rfl)
    (of_decide_eq_true (by kernel_rfl)) (by unfold Func.isWrapper; first | (rw [if_pos (by decide +kernel)]; kernel_rfl) | (rw [if_neg (by decide +kernel)]; exact ⟨rfl, rfl⟩))
    (fun os started H enc _ F => by rw [OpenClaim.pre_eq_preRow]; exact lifted os started H enc F)

end Go.Proofs.Ytbdfhmefjfaofaa.Long
