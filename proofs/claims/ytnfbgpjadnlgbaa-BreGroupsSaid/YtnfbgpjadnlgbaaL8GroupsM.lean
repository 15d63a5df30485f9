/- The statement BreGroups: the law returns true for every slice of bytes and every byte, and changes nothing that was there. No condition. -/
import Derived.Test.YtnfbgpjadnlgbaaM01
import Derived.Test.YtnfbgpjadnlgbaaM44
import Derived.Test.YtnfbgpjadnlgbaaM45
set_option linter.unusedVariables false
set_option linter.unusedSimpArgs false
set_option maxRecDepth 100000
namespace Go.Proofs.Ytnfbgpjadnlgbaa.Groups
open Go.ChangeShapes Go.WideShapes Go.ChangeAt Go.RowKit

def RelG (w2 : World) (l : List UInt8) (k : Nat) (tv i : Value) (wr : World) : Prop :=
  ∃ j : Nat, j ≤ k ∧ i = .int .i64 (j : Int) ∧ ∃ A' n' c', tv = .slice A' n' c' ∧ n' = (wrapT j l).length ∧ n' ≤ c' ∧ c' ≤ maxLen ∧ Byt wr wr.heap.size A' (wrapT j l) ∧ Below w2.heap.size w2 wr
theorem RelG.mk {w2 : World} {l : List UInt8} {k : Nat} {tv i : Value} {wr : World} (h : ∃ j : Nat, j ≤ k ∧ i = .int .i64 (j : Int) ∧ ∃ A' n' c', tv = .slice A' n' c' ∧ n' = (wrapT j l).length ∧ n' ≤ c' ∧ c' ≤ maxLen ∧ Byt wr wr.heap.size A' (wrapT j l) ∧ Below w2.heap.size w2 wr) : RelG w2 l k tv i wr := h
theorem fin_out {w w' : World} {ns : List Nod} {g N : Nat} {e : Ending} (h : FinR w ns g N e w') : ∃ A7 c7, e = .returned (.tuple #[.agg #[.slice A7 N c7, .int .i64 (g : Int)], .int .i64 0, .int .i64 0]) ∧ N ≤ c7 ∧ c7 ≤ maxLen ∧ Below w.heap.size w w' := by
  obtain ⟨q, c, e1, ho, hb, h1, h2⟩ := h
  exact ⟨_, c, e1, h1, h2, hb⟩
theorem wrap_cells (j : Nat) (l : List UInt8) : [Value.int .u8 92, .int .u8 40] ++ bv (wrapT j l) ++ bv [92, 41] = bv (wrapT (j + 1) l) := by
  rw [wrap_succ, bv_append, bv_append]; rfl
def overS : ByteArray := ⟨#[92, 40, 92, 40, 92, 40, 92, 40, 92, 40, 92, 40, 92, 40, 92, 40, 92, 40, 92, 40, 97]⟩
theorem overS_size : overS.size = 21 := rfl
theorem own_none (w : World) : (w.alloc (.cells #[] 5)).ownsRow w.heap.size 5 1 (.slice (some ⟨w.heap.size, 0, none⟩) 0 0) 0 (bv []) :=
  World.ownsRow_made w #[] 0 (Nat.le_refl _) (by simp [maxLen]) rfl

set_option maxHeartbeats 16000000 in
theorem core (W : World) (A : Option Addr) (n c : Nat) (l : List UInt8) (hn : n = l.length) (hnc : n ≤ c) (hcm : c ≤ maxLen) (hb : Byt W W.heap.size A l) (a1 : Int) (ha1 : (Lit.int .u8 a1).wf = true) (hm : Mx W) :
    Calls Try.prog 5 #[.slice A n c, .int .u8 a1] W fun e w' => e = .returned (.bool true) ∧ Below W.heap.size W w' := by
  have hAw := Lib.hid (fun (w : World) (hm : Mx w) => awake_any w hm)
  have hm' := Lib.hid hm
  have hn' := Lib.hid hn
  by_cases hbig : 60 < n
  · clear hn hb hnc hcm ha1 hm
    go_enter Try.func5, Try.ntmps5
    go_wp2_with (go_at_call 7; refine (hAw.out _ hm'.out).mono ?_; rintro e w1 ⟨rfl, hb1⟩)
    go_ret
    exact ⟨rfl, hb1⟩
  have b1 : 0 ≤ a1 ∧ a1 ≤ 255 := bounds_u8 ha1
  clear ha1 hm
  obtain ⟨k, hj⟩ : ∃ k : Nat, a1.tmod 10 = (k : Int) := ⟨(a1.tmod 10).toNat, by have := Int.tmod_nonneg 10 b1.1; omega⟩
  have hk9 : k ≤ 9 := by have := Int.tmod_lt_of_pos a1 (show (0 : Int) < 10 by decide); omega
  have hjm : a1 % 10 = (k : Int) := by rw [← hj, Int.tmod_eq_emod_of_nonneg b1.1]
  have hwa : IntKind.i64.wrap a1 = a1 := IntWalk.i64_in _ (by omega)
  have hI := Inp.of hm'.out hn hnc hcm (by omega) hb
  by_cases hp : ∃ ns, Ends l cf0 (.fin ns 0)
  rotate_left
  · by_cases hf : ∃ ns g, Ends l cf0 (.fin ns g)
    · obtain ⟨ns, g, he⟩ := hf
      have hg0 : g ≠ 0 := by rintro rfl; exact hp ⟨ns, he⟩
      have hP := Lib.hid (bparse_fin hI he rfl)
      generalize ns.length = N at hP
      have hd : decide (0 < (g : Int)) = true := decide_eq_true (by omega)
      have hd' : 0 < (g : Int) := by omega
      have hd2 : 0 < g := by omega
      have hd3 : decide (0 < g) = true := decide_eq_true hd2
      clear hn hb hnc hcm hI he hp hg0
      go_enter Try.func5, Try.ntmps5
      go_wp2_with (first
        | (go_at_call 8; refine (hP.out).mono ?_; intro e w1 hy; obtain ⟨A7, c7, rfl, hc3, hc4, hb1⟩ := fin_out hy; clear hy; unfold maxLen at hc4; have hR := Lib.hid (held_new w1 27 #[.slice A7 N c7, .int .i64 (g : Int)]); have z0 := hR.out.at_ (i := 1) rfl; replace hb1 := Lib.hid (hb1.alloc hb1.size (.cells #[.slice A7 N c7, .int .i64 (g : Int)] 27)))
        | (go_at_call 7; refine (hAw.out _ (hm'.out.grow hb1.out)).mono ?_; rintro e w2 ⟨rfl, hb2⟩; replace hb2 := Lib.hid (hb1.out.trans (hb2.mono hb1.out.size))))
      go_ret
      exact ⟨rfl, hb2.out⟩
    · by_cases hq : ∃ p q : Nat, q ≠ 0 ∧ Ends l cf0 (.bad p q)
      · obtain ⟨p, q, hq0, he⟩ := hq
        have hP := Lib.hid (bparse_bad hI he)
        have hd : ((q : Int) != 0) = true := by simp; omega
        clear hn hb hnc hcm hI he hp hf
        go_enter Try.func5, Try.ntmps5
        go_wp2_with (first
          | (go_at_call 8; refine (hP.out).mono ?_; rintro e w1 ⟨rfl, hb1⟩; have hR := Lib.hid (held_new w1 27 #[.slice none 0 0, .int .i64 0]); have z0 := hR.out.at_ (i := 1) rfl; replace hb1 := Lib.hid (hb1.alloc hb1.size (.cells #[.slice none 0 0, .int .i64 0] 27)))
          | (go_at_call 7; refine (hAw.out _ (hm'.out.grow hb1.out)).mono ?_; rintro e w2 ⟨rfl, hb2⟩; replace hb2 := Lib.hid (hb1.out.trans (hb2.mono hb1.out.size))))
        go_ret
        exact ⟨rfl, hb2.out⟩
      · have hP := Lib.hid (bparse_any hI)
        have hno := Lib.hid (show ∀ e w', ¬ PRes W l e w' from fun e w' h => by
          rcases h with ⟨v, ns, g, _, h, _⟩ | ⟨p, q, h0, _, h, _⟩
          · exact hf ⟨ns, g, h⟩
          · exact hq ⟨p, q, h0, h⟩)
        clear hn hb hnc hcm hI hp hf hq
        go_enter Try.func5, Try.ntmps5
        go_wp2_with (go_at_call 8; refine (hP.out).mono ?_; intro e w1 hy; exact absurd hy (hno.out e w1))
  · obtain ⟨ns, he⟩ := hp
    obtain ⟨N, hN⟩ : ∃ N, N = ns.length := ⟨_, rfl⟩
    have hP := Lib.hid (show Calls Try.prog 8 #[.slice A n c] W fun e w' => FinR W ns 0 N e w' ∧ N ≤ 1000 from (bparse_any hI).mono fun e w' hh => by
      subst hN
      rcases hh with ⟨v, ns', g', e1, h1, h2, h3, h4⟩ | ⟨p, q, _, _, h1, _⟩
      · have := h1.det he
        injection this with e2 e3
        subst e2
        subst e3
        obtain ⟨q, cap, rfl, _, h5, h6⟩ := own_at h3 (rightN_len h2).1
        exact ⟨⟨q, cap, e1, h3, h4, h5, h6⟩, (rightN_len h2).2.1⟩
      · cases h1.det he)
    have hl60 : l.length ≤ 60 := by omega
    obtain ⟨m, hml, he2⟩ := groups_fin he hl60 hk9
    have he3 := groups_over he hl60 hk9
    obtain ⟨M, hM⟩ : ∃ M, M = N + k := ⟨_, rfl⟩
    obtain ⟨T, hT⟩ : ∃ T, T = n + 4 * k + 2 * (9 - k) := ⟨_, rfl⟩
    obtain ⟨L, hL⟩ : ∃ L, L = n + 4 * k := ⟨_, rfl⟩
    have hlenk : Hid ((wrapT k l).length = L) := Lib.hid (by rw [wrap_len]; omega)
    rw [show l.length + 4 * k + 2 * (9 - k) = T by omega] at he3
    have hP2 := Lib.hid (show ∀ (w : World) (A' : Option Addr) (n' c' : Nat), Inp w A' n' c' (wrapT k l) → Calls Try.prog 8 #[.slice A' n' c'] w (FinR w m k M) from fun w A' n' c' h => bparse_fin h he2 (by omega))
    have hP3 := Lib.hid (show ∀ (w : World) (A' : Option Addr) (n' c' : Nat), Inp w A' n' c' (wrapT k l ++ (opens 10 ++ [97])) → Calls Try.prog 8 #[.slice A' n' c'] w fun e w' => e = .returned (.tuple #[.agg #[.slice none 0 0, .int .i64 0], .int .i64 (T : Int), .int .i64 17]) ∧ Below w.heap.size w w' from fun w A' n' c' h => bparse_bad h he3)
    have hwk := Lib.hid (show N ≤ 1000 → IntKind.i64.wrap ((N : Int) + (k : Int)) = (M : Int) from fun h => by rw [IntWalk.i64_in _ (by omega)]; omega)
    have hw1 : IntKind.i64.wrap (9 - (k : Int)) = 9 - (k : Int) := IntWalk.i64_in _ (by omega)
    have hw2 : IntKind.i64.wrap (2 * (9 - (k : Int))) = 2 * (9 - (k : Int)) := IntWalk.i64_in _ (by omega)
    have hw3 : IntKind.i64.wrap ((L : Int) + 2 * (9 - (k : Int))) = (T : Int) := by rw [IntWalk.i64_in _ (by omega)]; omega
    obtain ⟨i0, hi, hz0, hi1, hi2⟩ := info_parts u8_info
    have hI1 := Lib.hid hi1
    have hI2 := Lib.hid hi2
    have kc := fun (w : World) (C : Array Value) (n c : Nat) => Lib.run_convert_bytes_const (P := Try.prog) w 24 5 C n c Try.underlying24 Try.underlying5
    have hSrc := Lib.hid (fun w2 (h : Below W.heap.size W w2) => (hb.below h).vals.src)
    have hbl : Hid ((bv l).length = n) := Lib.hid (by rw [bv_length]; exact hn.symm)
    have hstage0 : True := trivial
    have hnl := Lib.hid hn
    have hn60 : n ≤ 60 := by omega
    have hL1 : L ≤ 96 := by omega
    clear hn hb hI he he2 he3 hml hN hi1 hi2 hl60 b1 hT
    unfold maxLen at hcm
    replace hM := Lib.hid hM
    replace hL := Lib.hid hL
    go_enter Try.func5, Try.ntmps5
    go_wp2_with (first
      | (go_at_call 8; with_reducible show Calls _ _ _ W _; refine (hP.out).mono ?_; intro e w1 hy; obtain ⟨hy, hN3⟩ := hy; have hwk2 := hwk.out hN3; obtain ⟨A7, c7, rfl, hc3, hc4, hb1⟩ := fin_out hy; clear hy; unfold maxLen at hc4; have hR := Lib.hid (held_new w1 27 #[.slice A7 N c7, .int .i64 0]); have z0 := hR.out.at_ (i := 0) rfl; have z1 := hR.out.at_ (i := 1) rfl; replace hb1 := Lib.hid (hb1.alloc hb1.size (.cells #[.slice A7 N c7, .int .i64 0] 27)))
      | (at_builtin; have _h0 := hstage0; have hs2 : (w1.alloc (.cells #[.slice A7 N c7, .int .i64 0] 27)).heap.size = w1.heap.size + 1 := sizeA' _ _; generalize hw2e : w1.alloc (.cells #[.slice A7 N c7, .int .i64 0] 27) = w2 at *; clear hw2e; generalize w1.heap.size = G at *; rw [← hs2]; clear hs2; refine wpList_append_at rfl _ _ 24 rfl w2.heap.size 5 i0 (.int .u8 0) 1 1 Try.underlying24 hi hz0 hI1.out hI2.out rfl (by decide) (.slice (some ⟨w2.heap.size, 0, none⟩) 0 0) 0 (bv []) rfl (own_none w2) A n c (bv l) rfl (by rw [Nat.mul_one]; exact hbl.out) (hSrc.out _ (hb1.out.alloc hb1.out.size _)) (bv_one _) (by unfold maxLen; omega) (by omega) (by rw [sizeA']; omega) ?_; intro v3 w3 hown3 hg3 _; have hB3 := Lib.hid (below_append ((Below.refl w2.heap.size w2).alloc (Nat.le_refl _) (.cells #[] 5)) (own_none w2) (by rw [sizeA']; omega) hg3); rw [Nat.zero_add, show bv [] ++ bv l = bv l from rfl] at hown3; obtain ⟨A3, c3, rfl, hn3, hnc3, hcm3, hby3⟩ := own_byt hown3; replace hby3 := Lib.hid hby3; replace hn3 := Lib.hid hn3; clear hown3 hg3 hstage0))
    go_loopw [9, 10] (fun tv i wr => RelG w2 l k tv i wr) (fun _ i _ => k - (intOf i).toNat)
    case atStart => exact RelG.mk ⟨0, by omega, rfl, A3, n, c3, rfl, by rw [wrap_zero]; exact hn3.out, hnc3, hcm3, by rw [wrap_zero]; exact hby3.out, hB3.out⟩
    case round =>
      obtain ⟨j, hjk, rfl, A', n', c', rfl, hn', hnc', hcm', hby', hW⟩ := hrel
      by_cases hlt : j < k
      · have hn2 := Lib.hid hn'
        have hW' := Lib.hid hW
        have hby2 := Lib.hid (fun (w : World) (h : Below wr.heap.size wr w) => (hby'.below h).vals.src)
        have hws := Lib.hid (wrap_cells j l)
        have hbl2 : Hid ((bv (wrapT j l)).length = n') := Lib.hid (by rw [bv_length]; exact hn'.symm)
        have hn96 : n' ≤ 96 := by rw [hn', wrap_len]; have := hnl.out; omega
        clear hby' hn' hW
        go_wp2_with (first
          | (at_builtin; refine wpList_append_lit rfl _ _ 24 rfl wr.heap.size 5 i0 (.int .u8 0) Try.underlying24 hi hz0 hI1.out hI2.out rfl _ 2 [.int .u8 92, .int .u8 40] rfl (litOwn_new wr [.int .u8 92, .int .u8 40] 5 (2, 3) 2 rfl (by decide)) A' n' c' (bv (wrapT j l)) rfl hbl2.out (hby2.out _ ((Below.refl wr.heap.size wr).alloc (Nat.le_refl _) _)) (bv_one _) (by unfold maxLen; omega) (by omega) (by rw [sizeA']; omega) ?_; intro v5 w5 hown5 hg5; have hB5 := Lib.hid (((Below.refl wr.heap.size wr).alloc (Nat.le_refl _) (.cells [Value.int .u8 92, .int .u8 40].toArray 5 (2, 3))).grown hg5 (by rw [sizeA']; omega) (litOwn_new wr [.int .u8 92, .int .u8 40] 5 (2, 3) 2 rfl (by decide)).lt); replace hown5 := Lib.hid hown5; clear hg5)
          | (at_builtin; refine wpList_append_lit_string rfl _ _ 24 9 rfl wr.heap.size 5 i0 Try.underlying24 Try.underlying9 hi hz0 hI1.out hI2.out v5 (2 + n') ([.int .u8 92, .int .u8 40] ++ bv (wrapT j l)) rfl hown5.out ⟨#[92, 41]⟩ rfl 2 [92, 41] rfl rfl (by decide) (by unfold maxLen; omega) (by omega) hB5.out.size ?_; intro v6 w6 hown6 hg6; have hB6 := Lib.hid (hW'.out.trans ((hB5.out.grown hg6 hB5.out.size hown5.out.lt).mono hW'.out.size)); rw [hws.out] at hown6; obtain ⟨A6, c6, rfl, e6, e7, e8, e9⟩ := own_byt hown6; have hfin := Lib.hid (show RelG w2 l k (.slice A6 (2 + n' + 2) c6) (.int .i64 ((j : Int) + 1)) w6 from RelG.mk ⟨j + 1, hlt, by rw [Int.natCast_add]; rfl, A6, _, c6, rfl, e6, e7, e8, e9, hB6.out⟩); clear hown6 hg6 e6 e7 e8 e9))
        go_roundw
        case rel => exact hfin.out
        case measure => simp [intOf]; omega
      · obtain rfl : j = k := by omega
        obtain rfl : n' = L := by rw [hn']; exact hlenk.out
        have hW3 := Lib.hid (hb1.out.trans (hW.mono hb1.out.size))
        have hG3 := Lib.hid (hR.out.below hW hR.out.lt)
        have hI3 := Lib.hid (Inp.of (hm'.out.grow hW3.out) hn' hnc' hcm' (by omega) hby')
        have hby2 := Lib.hid (fun (w : World) (h : Below wr.heap.size wr w) => (hby'.below h).vals.src)
        have hbl2 : Hid ((bv (wrapT j l)).length = n') := Lib.hid (by rw [bv_length]; exact hn'.symm)
        have hstage1 : True := trivial
        clear hby' hn' hW hlt hjk hb1 hR hSrc hbl hby3 hn3 hB3
        have c0 := hG3.out.at_ (i := 0) rfl
        have hos := overS_size
        go_wp2_with (first
          | (go_at_call 8; with_reducible show Calls _ _ _ wr _; refine (hP2.out _ _ _ _ hI3.out).mono ?_; intro e w4 hy; obtain ⟨A8, c8, rfl, hc5, hc6, hb4⟩ := fin_out hy; clear hy; unfold maxLen at hc6; have hW4 := hW3.out.trans (hb4.mono hW3.out.size); have hR5 := Lib.hid (held_new w4 27 #[.slice A8 M c8, .int .i64 (j : Int)]); have hG5 := Lib.hid ((hG3.out.keep hb4).alloc (.cells #[.slice A8 M c8, .int .i64 (j : Int)] 27)); replace hW4 := Lib.hid (hW4.alloc hW4.size (.cells #[.slice A8 M c8, .int .i64 (j : Int)] 27)); have hb5 := Lib.hid (hb4.alloc hb4.size (.cells #[.slice A8 M c8, .int .i64 (j : Int)] 27)); clear hb4)
          | (at_builtin; have _h1 := hstage1; have hs5 : (w4.alloc (.cells #[.slice A8 M c8, .int .i64 (j : Int)] 27)).heap.size = w4.heap.size + 1 := sizeA' _ _; generalize hw5e : w4.alloc (.cells #[.slice A8 M c8, .int .i64 (j : Int)] 27) = w5 at *; clear hw5e; generalize w4.heap.size = G5 at *; rw [← hs5]; clear hs5; refine wpList_append_at rfl _ _ 24 rfl w5.heap.size 5 i0 (.int .u8 0) 1 1 Try.underlying24 hi hz0 hI1.out hI2.out rfl (by decide) (.slice (some ⟨w5.heap.size, 0, none⟩) 0 0) 0 (bv []) rfl (own_none w5) A' n' c' (bv (wrapT j l)) rfl (by rw [Nat.mul_one]; exact hbl2.out) (hby2.out _ (hb5.out.alloc hb5.out.size _)) (bv_one _) (by unfold maxLen; omega) (by omega) (by rw [sizeA']; omega) ?_; intro v6 w6 hown6 hg6 _; have hB6 := Lib.hid (below_append ((Below.refl w5.heap.size w5).alloc (Nat.le_refl _) (.cells #[] 5)) (own_none w5) (by rw [sizeA']; omega) hg6); rw [Nat.zero_add, show bv [] ++ bv (wrapT j l) = bv (wrapT j l) from rfl] at hown6; replace hown6 := Lib.hid hown6; clear hg6 hstage1)
          | (at_builtin; refine Lib.wpList_append_own_string _ rfl _ _ 24 9 rfl w5.heap.size 5 i0 Try.underlying24 Try.underlying9 hi hz0 hI1.out hI2.out v6 n' (bv (wrapT j l)) rfl hown6.out overS rfl (by unfold maxLen; omega) (by omega) hB6.out.size ?_; intro v7 w7 hown7 hg7 _; have hB7 := Lib.hid (hB6.out.grown hg7 hB6.out.size (fun k hk => (hown6.out.lt k hk).1)); rw [show bv (wrapT j l) ++ Lib.strCells overS = bv (wrapT j l ++ (opens 10 ++ [97])) from by rw [bv_append]; rfl] at hown7; obtain ⟨A7', c7', rfl, e6, e7, e8, e9⟩ := own_byt hown7; have hW7 := Lib.hid (hW4.out.trans (hB7.out.mono hW4.out.size)); rw [hos] at e6 e7; have hI7 := Lib.hid (Inp.of (hm'.out.grow hW7.out) e6 e7 e8 (by omega) e9); have hR7 := Lib.hid (hR5.out.below hB7.out hR5.out.lt); have hG7 := Lib.hid (hG5.out.below hB7.out hG5.out.lt); clear hown7 hg7 e6 e7 e8 e9)
          | (go_at_call 8; with_reducible show Calls _ _ _ w7 _; refine (hP3.out _ _ _ _ hI7.out).mono ?_; rintro e w8 ⟨rfl, hb8⟩; have hW8 := hW7.out.trans (hb8.mono hW7.out.size); have hR8 := hR7.out.keep hb8; have hG8 := hG7.out.keep hb8; have hR9 := hR8.alloc (.cells #[.slice none 0 0, .int .i64 0] 27); have hG9 := hG8.alloc (.cells #[.slice none 0 0, .int .i64 0] 27); replace hW8 := Lib.hid (hW8.alloc hW8.size (.cells #[.slice none 0 0, .int .i64 0] 27)); have d0 := hR9.at_ (i := 0) rfl; have d1 := hR9.at_ (i := 1) rfl; have d2 := hG9.at_ (i := 0) rfl; replace hR9 := Lib.hid hR9; replace hG9 := Lib.hid hG9)
          | (go_at_call 7; refine (hAw.out _ (hm'.out.grow hW8.out)).mono ?_; rintro e w9 ⟨rfl, hb9⟩; replace hb9 := Lib.hid (hW8.out.trans (hb9.mono hW8.out.size))))
        go_ret
        exact ⟨rfl, hb9.out⟩
theorem contract (H : Type) (enc : TypeId × Value → H) (W : World) (base : Nat) (args : Array Value) (ds gs : List (DataW H)) (before : List MemPlace)
    (hval : ∀ (j : Nat) t v, Try.f5.params[j]? = some t → args[j]? = some v → Value.okWide Try.prog W .any base t v)
    (hW : DataW.Whole enc Try.prog Try.f5.params.toList Rows.breGroupsSpec.vars false W args.toList ds gs before) (hsh : W.ShapedOpen Try.prog) :
    Calls Try.prog 5 args W fun e W' => ∃ v, e = .returned v ∧ Rows.breGroupsSpec.post enc Try.prog Try.f5 false true false false W args v W' := by
  have hW' := hW
  obtain ⟨p, q, hA, hV, rfl, hfz, hnd⟩ := hW
  rw [Try.params5] at hA hval
  obtain ⟨v0, vs0, d0, ds0, p0, q0, hargs, rfl, rfl, h0, r0⟩ := trodAll_cons hA
  obtain ⟨v1, vs1, d1, ds1, p1, q1, rfl, rfl, rfl, h1, r1⟩ := trodAll_cons r0
  obtain ⟨rfl, rfl, rfl⟩ := trodAll_nil r1
  obtain rfl : args = #[v0, v1] := by cases args; simp_all
  obtain ⟨rfl, rfl⟩ := trodVars_none hV
  obtain ⟨A0, n0, c0, l0, rfl, e0, k0, m0, x0⟩ := open_byt Try.underlying24 Try.underlying5 (by kernel_rfl) (hval 0 24 v0 rfl rfl) h0
  obtain ⟨a1, rfl, rfl, rfl, w1⟩ := open_int Try.underlying5 (hval 1 5 v1 rfl rfl) h1
  have hmx := max_of hsh
  exact (core W A0 n0 c0 l0 e0 k0 m0 x0 a1 w1 hmx).mono fun e W' ⟨he, hb⟩ => ⟨_, he, law_post hW' rfl (by kernel_rfl) (by kernel_rfl) rfl hb⟩

theorem laid_met (os : Os) : laidMetH Try.prog Rows.breGroupsRow.laid ((World.doorLaid Try.prog 4000 os).forCall (fun _ _ => 0) ⟨#[], #[.slice none 0 0, .int .u8 0], []⟩).memory :=
  laidMetH_of_parts3 (fuel := 8) (laidMet_of_run' 8 (by kernel_rfl) (by kernel_rfl)) (by kernel_rfl) (by kernel_rfl)
theorem reads (os : Os) {H : Type} (enc : TypeId × Value → H) : ∃ places, DataW.whole enc Try.prog ((World.doorLaid Try.prog 4000 os).forCall (fun _ _ => 0) ⟨#[], #[.slice none 0 0, .int .u8 0], []⟩).memory Try.f5.params.toList Rows.breGroupsSpec.vars false #[Value.slice none 0 0, .int .u8 0].toList 8 = some ([.nil, .lit (.int .u8 0)], [], places) :=
  ⟨[], by kernel_rfl⟩

set_option maxRecDepth 100000 in
theorem lifted (os : Os) (started : os.Started) (H : Type) (enc : TypeId × Value → H) (F : Stop.Interp) :
    ReturnsInHanded {} Try.checked os 5 .any ((OpenSpec.ofChange Rows.breGroupsSpec).preRow enc Try.prog Try.f5 Rows.breGroupsRow.domain false Rows.breGroupsRow.laid) (((OpenSpec.ofChange Rows.breGroupsSpec).at F).post enc Try.prog Try.f5 false true false false) := by
  obtain ⟨places, hx⟩ := reads os enc
  refine returnsInHanded_of_row (C := Try.checked) (s := (OpenSpec.ofChange Rows.breGroupsSpec)) own started (by kernel_rfl) Try.func5
    (witness_row_at (enc := enc) (C := Try.checked) false (World.doorLaid Try.prog 4000 os) #[.slice none 0 0, .int .u8 0] rfl (by kernel_rfl) (by kernel_rfl) (by kernel_rfl)
      (OpenSpec.preRow_of_cond 8 hx (by kernel_rfl) (fun k hk => by cases hk) (by kernel_rfl) (laid_met os))) ?_
  intro W base args ds gs before hval hW _ _ _ _ hsh _
  exact contract H enc W base args ds gs before hval hW hsh

theorem said : Rows.BreGroupsSaid :=
  OpenClaim.holds_of_cond 5 Try.f5 rfl rfl rfl rfl rfl rfl rfl ⟨rfl, rfl, rfl, rfl, rfl⟩ rfl rfl rfl rfl rfl (by kernel_rfl) Try.func5 (by kernel_rfl)
    (of_decide_eq_true (by kernel_rfl)) (by unfold Func.isWrapper; first | (rw [if_pos (by decide +kernel)]; kernel_rfl) | (rw [if_neg (by decide +kernel)]; exact ⟨rfl, rfl⟩))
    (fun os started H enc _ F => by rw [OpenClaim.pre_eq_preRow]; exact lifted os started H enc F)

end Go.Proofs.Ytnfbgpjadnlgbaa.Groups
