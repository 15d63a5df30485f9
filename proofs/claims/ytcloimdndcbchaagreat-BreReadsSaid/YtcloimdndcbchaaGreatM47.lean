/- The contract of the reference's Parse, whole. Contracts of the reference: Any, Bracket. -/
import Derived.Test.YtcloimdndcbchaaGreatM45
import Derived.Test.YtcloimdndcbchaaGreatM46
import Derived.Test.YtcloimdndcbchaaGreatM40
set_option maxRecDepth 100000
namespace Go.Proofs.YtcloimdndcbchaaGreat
open Go.RowKit

theorem refParse_any (A : Option Addr) (n c : Nat) (l : List UInt8) (w : World) (hn : n = l.length) (hnc : n ≤ c) (hns : n ≤ 100000) (hbt : Byt w w.heap.size A l) (k : Nat) (hk : k ≤ n) :
    Calls Tryz.prog 60 #[.slice A n c, .int .i64 (k : Int)] w fun e w' => e = .returned (.tuple #[.agg (setC (told (readB l k)).1), .int .i64 ((told (readB l k)).2.1 : Int), .int .i64 ((told (readB l k)).2.2 : Int)]) ∧ Below w.heap.size w w' := by
  cases hx : bg [94] (l.drop k) with
  | true => exact refParse_true A n c l w hn hnc hns hbt k hk hx
  | false => exact refParse_false A n c l w hn hnc hns hbt k hk hx
end Go.Proofs.YtcloimdndcbchaaGreat

set_option linter.unusedVariables false
set_option maxRecDepth 100000
namespace Go.Proofs.YtcloimdndcbchaaGreat
open Go.RowKit

theorem num_full (m : Nat) : num (fun _ => true) m = 2 ^ m - 1 := by
  apply Nat.eq_of_testBit_eq
  intro i
  rw [num_bit, Nat.testBit_two_pow_sub_one]; simp
theorem setC_all : setC allS = #[.int .u64 18446744073709551615, .int .u64 18446744073709551615, .int .u64 18446744073709551615, .int .u64 18446744073709551615] := by
  have h : ∀ k, wd allS k = 18446744073709551615 := fun k => by
    unfold wd
    rw [show (fun i => allS (64 * k + i)) = fun _ => true from by funext i; simp [allS, ofL]]
    exact num_full 64
  unfold setC
  rw [h, h, h, h]; rfl
set_option maxHeartbeats 4000000 in
theorem refAny_any (w : World) : Calls Tryz.prog 43 #[] w fun e w' => e = .returned (.agg (setC allS)) ∧ Below w.heap.size w w' := by
  rw [setC_all]
  go_enter Tryz.func43, Tryz.ntmps43
  go_wp2
  exact bodyPost_ret (results_cell_row Tryz.results43 _ _ w.heap.size 37 _ (0, 0) _ rfl (held_new w 37 _) Tryz.underlying37 rfl (by kernel_rfl)) rfl ⟨rfl, (Below.refl w.heap.size w).alloc (Nat.le_refl _) _⟩

section
variable {w : World} {B T : Nat} {A : Option Addr} {n c : Nat} {l : List UInt8} {v : Value} {ns : List Nod} {g i : Nat} {cl : Nat → Bool} (h : Rdr w B T A n c l v ns g i cl 0) {inG : Bool}
include h
theorem Rdr.two : w.cell? ⟨T, 0, none⟩ = some (.slice A n c) ∧ w.cell? ⟨T, 1, none⟩ = some (.int .i64 (i : Int)) := ⟨h.c0, h.c1⟩
theorem rparse_at {k : Nat} (hk : k ≤ n) : Calls Tryz.prog 60 #[.slice A n c, .int .i64 (k : Int)] w fun e w' => e = .returned (.tuple #[.agg (setC (told (readB l k)).1), .int .i64 ((told (readB l k)).2.1 : Int), .int .i64 ((told (readB l k)).2.2 : Int)]) ∧ Below w.heap.size w w' :=
  refParse_any A n c l w h.inp.1 h.inp.2.1 h.inp.2.2.2.1 h.inp.2.2.2.2.1 k hk

set_option maxHeartbeats 8000000 in
theorem rbracket_no (hi : i < n) {e : Nat} (hv : readB l (i + 1) = .error e) : Calls Tryz.prog 41 #[.pointer (some ⟨T, 0, none⟩)] w (RBad w B T A n c l v i e) := by
  have c0 := h.c0
  have c1 := h.c1
  have hns : n ≤ 100000 := h.txt.2.2.2.1
  have hTl := h.lt
  have hTG : T ≠ w.heap.size := by omega
  have he : ((e : Int) != 0) = true := by have := readB_wrong hv; rw [bne_iff_ne]; omega
  have hP := Lib.hid (fun w1 (hb : Below w.heap.size w w1) => rparse_at (h.keep hb) (k := i + 1) (by omega))
  rw [hv] at hP
  rw [show told (.error e) = (noneF, 0, e) from rfl] at hP
  simp only at hP
  rw [show setC noneF = #[.int .u64 0, .int .u64 0, .int .u64 0, .int .u64 0] from setC_noneF, show (((i + 1 : Nat)) : Int) = (i : Int) + 1 by omega] at hP
  have hx := Lib.hid (show Below w.heap.size w w from Below.refl _ _)
  have hx2 := Lib.hid (show Below w.heap.size w (w.alloc (.cells #[.int .u64 0, .int .u64 0, .int .u64 0, .int .u64 0] 37)) from (Below.refl _ _).alloc (Nat.le_refl _) _)
  have hR := Lib.hid (fun w1 (hb : Below w.heap.size w w1) => h.keep hb)
  have hK := Lib.hid (fun w1 (hb : Below w.heap.size w w1) => (h.keep hb).two)
  have hZ := Lib.hid (held_new w 37 #[.int .u64 0, .int .u64 0, .int .u64 0, .int .u64 0])
  have hi1 : i + 1 ≤ n := hi
  have hw1 : IntKind.i64.wrap ((i : Int) + 1) = (i : Int) + 1 := IntWalk.i64_in _ (by omega)
  have hKa := Lib.hid (hK.out _ hx.out.drew)
  have hKb := Lib.hid (hK.out _ hx2.out.drew)
  have hPa := Lib.hid (hP.out _ hx.out.drew)
  have hPb := Lib.hid (hP.out _ hx2.out.drew)
  clear h hv hP
  go_enter Tryz.func41, Tryz.ntmps41
  go_wp2
  go_region_held3 (fun w' => w'.cell? ⟨T, 0, none⟩ = some (.slice A n c) ∧ w'.cell? ⟨T, 1, none⟩ = some (.int .i64 (i : Int)))
    (first | with_reducible exact hKa.out | with_reducible exact hKb.out | with_reducible exact hK1.out | with_reducible exact ⟨cell_far4 hK1.out.1 hTG, cell_far4 hK1.out.2 hTG⟩ | go_keep)
    (first
    | (go_at_call 60; (with_reducible refine (hPa.out).mono ?_); rintro y w1 ⟨rfl, hb1⟩; replace hb1 := hx.out.drew.trans hb1; have hK1 := Lib.hid (hK.out _ hb1); replace hb1 := Lib.hid hb1)
    | (go_at_call 60; (with_reducible refine (hPb.out).mono ?_); rintro y w1 ⟨rfl, hb1⟩; have hZ1 := hZ.out.drew.keep hb1; have z := hZ1.cells4; have y0 := hZ1.thawed 0; have y1 := hZ1.thawed 1; have y2 := hZ1.thawed 2; have y3 := hZ1.thawed 3; replace hZ1 := Lib.hid hZ1; replace hb1 := hx2.out.drew.trans (hb1.mono hx2.out.drew.size); have hK1 := Lib.hid (hK.out _ hb1); replace hb1 := Lib.hid hb1))
  · have hB4 := hb1.out.alloc hb1.out.size (.cells #[.int .u64 0, .int .u64 0, .int .u64 0, .int .u64 0] 37)
    generalize w1.alloc (.cells #[.int .u64 0, .int .u64 0, .int .u64 0, .int .u64 0] 37) = w4 at *
    have h4 := hR.out _ hB4
    have k2 := h4.c2
    have t2 := h4.thawed 2
    have h5 := Lib.hid (h4.erred e (z := (e : Int)) rfl)
    have k5 := Lib.hid ((ChP.of_below (T := T) (v := v) hB4).trans (ChP.store w4 T 2 (.int .i64 (e : Int)) v))
    clear hKa hKb hPa hPb hK1 hZ hx hx2 hb1 h4 hB4
    go_wp2
    go_ret
    exact ⟨0, v, _, _, _, rfl, h5.out, k5.out⟩
  · have hB4 := (((hb1.out.setCell (p := ⟨w.heap.size, 0, none⟩) (Nat.le_refl _) (.int .u64 0)).setCell (p := ⟨w.heap.size, 1, none⟩) (Nat.le_refl _) (.int .u64 0)).setCell (p := ⟨w.heap.size, 2, none⟩) (Nat.le_refl _) (.int .u64 0)).setCell (p := ⟨w.heap.size, 3, none⟩) (Nat.le_refl _) (.int .u64 0)
    generalize (((w1.setCell ⟨w.heap.size, 0, none⟩ (.int .u64 0)).setCell ⟨w.heap.size, 1, none⟩ (.int .u64 0)).setCell ⟨w.heap.size, 2, none⟩ (.int .u64 0)).setCell ⟨w.heap.size, 3, none⟩ (.int .u64 0) = w4 at *
    have h4 := hR.out _ hB4
    have k2 := h4.c2
    have t2 := h4.thawed 2
    have h5 := Lib.hid (h4.erred e (z := (e : Int)) rfl)
    have k5 := Lib.hid ((ChP.of_below (T := T) (v := v) hB4).trans (ChP.store w4 T 2 (.int .i64 (e : Int)) v))
    clear hKa hKb hPa hPb hK1 hZ hx hx2 hb1 h4 hB4
    go_wp2
    go_ret
    exact ⟨0, v, _, _, _, rfl, h5.out, k5.out⟩

set_option maxHeartbeats 8000000 in
theorem rbracket_yes (hi : i < n) {f : Nat → Bool} {j : Nat} (hv : readB l (i + 1) = .ok (f, j)) : Calls Tryz.prog 41 #[.pointer (some ⟨T, 0, none⟩)] w (RPut w B T A n c l v ns g j cl (setN f)) := by
  have c0 := h.c0
  have c1 := h.c1
  have hns : n ≤ 100000 := h.txt.2.2.2.1
  have hTl := h.lt
  have hTG : T ≠ w.heap.size := by omega
  have hnl := h.hn
  have hj := readB_size (by omega) hv
  have hjn : j ≤ n := by omega
  have hP := Lib.hid (fun w1 (hb : Below w.heap.size w w1) => rparse_at (h.keep hb) (k := i + 1) (by omega))
  rw [hv] at hP
  rw [show told (.ok (f, j)) = (f, j, 0) from rfl] at hP
  simp only at hP
  rw [show (((i + 1 : Nat)) : Int) = (i : Int) + 1 by omega] at hP
  have hU := Lib.hid (fun w1 (h1 : Rdr w1 B T A n c l v ns g j cl 0) => rput_any h1 (setN f) (fits_set _ _ _))
  obtain ⟨s0, s1, s2, s3, es, en⟩ := set_lit f
  rw [es] at hP
  rw [en] at hU
  clear es en
  have hx := Lib.hid (show Below w.heap.size w w from Below.refl _ _)
  have hx2 := Lib.hid (show Below w.heap.size w (w.alloc (.cells #[.int .u64 0, .int .u64 0, .int .u64 0, .int .u64 0] 37)) from (Below.refl _ _).alloc (Nat.le_refl _) _)
  have hR := Lib.hid (fun w1 (hb : Below w.heap.size w w1) => h.keep hb)
  have hK := Lib.hid (fun w1 (hb : Below w.heap.size w w1) => (h.keep hb).two)
  have hZ := Lib.hid (held_new w 37 #[.int .u64 0, .int .u64 0, .int .u64 0, .int .u64 0])
  have hi1 : i + 1 ≤ n := hi
  have hw1 : IntKind.i64.wrap ((i : Int) + 1) = (i : Int) + 1 := IntWalk.i64_in _ (by omega)
  have hKa := Lib.hid (hK.out _ hx.out.drew)
  have hKb := Lib.hid (hK.out _ hx2.out.drew)
  have hPa := Lib.hid (hP.out _ hx.out.drew)
  have hPb := Lib.hid (hP.out _ hx2.out.drew)
  clear h hv hP hj hnl
  go_enter Tryz.func41, Tryz.ntmps41
  go_wp2
  go_region_held3 (fun w' => w'.cell? ⟨T, 0, none⟩ = some (.slice A n c) ∧ w'.cell? ⟨T, 1, none⟩ = some (.int .i64 (i : Int)))
    (first | with_reducible exact hKa.out | with_reducible exact hKb.out | with_reducible exact hK1.out | with_reducible exact hKc.out | with_reducible exact ⟨cell_far4 hK1.out.1 hTG, cell_far4 hK1.out.2 hTG⟩ | go_keep)
    (first
    | (go_at_call 60; (with_reducible refine (hPa.out).mono ?_); rintro y w1 ⟨rfl, hb1⟩; replace hb1 := hx.out.drew.trans hb1; have hK1 := Lib.hid (hK.out _ hb1); have hKc := Lib.hid (hK.out _ (hb1.alloc hb1.size (.cells #[.int .u64 (s0 : Int), .int .u64 (s1 : Int), .int .u64 (s2 : Int), .int .u64 (s3 : Int)] 37))); replace hb1 := Lib.hid hb1)
    | (go_at_call 60; (with_reducible refine (hPb.out).mono ?_); rintro y w1 ⟨rfl, hb1⟩; have hZ1 := hZ.out.drew.keep hb1; have z := hZ1.cells4; have y0 := hZ1.thawed 0; have y1 := hZ1.thawed 1; have y2 := hZ1.thawed 2; have y3 := hZ1.thawed 3; replace hZ1 := Lib.hid hZ1; replace hb1 := hx2.out.drew.trans (hb1.mono hx2.out.drew.size); have hK1 := Lib.hid (hK.out _ hb1); replace hb1 := Lib.hid hb1))
  · have hQ := Lib.hid (show StS w (w1.alloc (.cells #[.int .u64 (s0 : Int), .int .u64 (s1 : Int), .int .u64 (s2 : Int), .int .u64 (s3 : Int)] 37)) w1.heap.size #[.int .u64 (s0 : Int), .int .u64 (s1 : Int), .int .u64 (s2 : Int), .int .u64 (s3 : Int)] from
      ⟨hb1.out.alloc hb1.out.size _, held_new _ _ _, hb1.out.size⟩)
    generalize w1.alloc (.cells #[.int .u64 (s0 : Int), .int .u64 (s1 : Int), .int .u64 (s2 : Int), .int .u64 (s3 : Int)] 37) = w4 at *
    generalize w1.heap.size = G at *
    have h4 := hR.out _ hQ.out.low
    have k1 := h4.c1
    have t1 := h4.thawed 1
    have h5 := Lib.hid (h4.goto hjn (z := (j : Int)) rfl)
    have k5 := Lib.hid ((ChP.of_below (T := T) (v := v) hQ.out.low).trans (ChP.store w4 T 1 (.int .i64 (j : Int)) v))
    have hGT : G ≠ T := by have := hQ.out.new; omega
    clear hKa hKb hPa hPb hK1 hKc hZ hx hx2 hb1 h4
    obtain ⟨q0, q1, q2, q3⟩ := hQ.out.s.cells4
    go_wp2_with (go_at_call 25; refine (hU.out _ h5.out).mono ?_; intro y w6 hy; obtain ⟨z, rfl, hy⟩ := hy.ret; replace hy := Lib.hid (hy.from k5.out))
    go_ret
    exact hy.out
  · have hQ := Lib.hid (show StS w ((((w1.setCell ⟨w.heap.size, 0, none⟩ (.int .u64 (s0 : Int))).setCell ⟨w.heap.size, 1, none⟩ (.int .u64 (s1 : Int))).setCell ⟨w.heap.size, 2, none⟩ (.int .u64 (s2 : Int))).setCell ⟨w.heap.size, 3, none⟩ (.int .u64 (s3 : Int))) w.heap.size #[.int .u64 (s0 : Int), .int .u64 (s1 : Int), .int .u64 (s2 : Int), .int .u64 (s3 : Int)] from
      ⟨(((hb1.out.setCell (p := ⟨w.heap.size, 0, none⟩) (Nat.le_refl _) _).setCell (p := ⟨w.heap.size, 1, none⟩) (Nat.le_refl _) _).setCell (p := ⟨w.heap.size, 2, none⟩) (Nat.le_refl _) _).setCell (p := ⟨w.heap.size, 3, none⟩) (Nat.le_refl _) _, (((hZ1.out.put 0 _).put 1 _).put 2 _).put 3 _, Nat.le_refl _⟩)
    generalize (((w1.setCell ⟨w.heap.size, 0, none⟩ (.int .u64 (s0 : Int))).setCell ⟨w.heap.size, 1, none⟩ (.int .u64 (s1 : Int))).setCell ⟨w.heap.size, 2, none⟩ (.int .u64 (s2 : Int))).setCell ⟨w.heap.size, 3, none⟩ (.int .u64 (s3 : Int)) = w4 at *
    have h4 := hR.out _ hQ.out.low
    have k1 := h4.c1
    have t1 := h4.thawed 1
    have h5 := Lib.hid (h4.goto hjn (z := (j : Int)) rfl)
    have k5 := Lib.hid ((ChP.of_below (T := T) (v := v) hQ.out.low).trans (ChP.store w4 T 1 (.int .i64 (j : Int)) v))
    have hGT : w.heap.size ≠ T := by omega
    clear hKa hKb hPa hPb hK1 hZ hx hx2 hb1 h4
    obtain ⟨q0, q1, q2, q3⟩ := hQ.out.s.cells4
    go_wp2_with (go_at_call 25; refine (hU.out _ h5.out).mono ?_; intro y w6 hy; obtain ⟨z, rfl, hy⟩ := hy.ret; replace hy := Lib.hid (hy.from k5.out))
    go_ret
    exact hy.out
theorem rbracket_any {r : List UInt8} (hx : l.drop i = 91 :: r) (hc : inG = true → bg [92, 41] (l.drop i) = false) :
    Calls Tryz.prog 41 #[.pointer (some ⟨T, 0, none⟩)] w (RNode false w B T A n c l v ns g i cl inG) := by
  obtain ⟨hi, hx1, -⟩ := drop_at hx
  have hnl := h.hn
  have hin : i < n := by omega
  have ha : atomA l i = brkA l i := by rw [atom_at hx]; rfl
  cases hv : readB l (i + 1) with
  | error e =>
    have he := readB_wrong hv
    exact (rbracket_no h hin hv).mono fun _ _ y => y.node hi hc (fun ps lv => by rw [ha]; unfold brkA; rw [hv]; rfl) (by omega)
  | ok p =>
    obtain ⟨f, j⟩ := p
    have hj := readB_size (by omega) hv
    exact (rbracket_yes h hin hv).mono fun _ _ y => y.node hi hc (by rw [ha]; unfold brkA; rw [hv]) (by omega)
end
end Go.Proofs.YtcloimdndcbchaaGreat
