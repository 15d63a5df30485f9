/- Contracts of the parser: bracket. -/
import Derived.Test.YtnfbgpjadnlgbabM39
set_option linter.unusedVariables false
set_option maxRecDepth 100000
namespace Go.Proofs.Ytnfbgpjadnlgbab
open Go.RowKit

theorem setC_lit (f : Nat → Bool) : setC f = #[.int .u64 (wd f 0 : Nat), .int .u64 (wd f 1 : Nat), .int .u64 (wd f 2 : Nat), .int .u64 (wd f 3 : Nat)] := rfl

theorem cell_far4 {w : World} {a : Addr} {G : Nat} {u0 u1 u2 u3 v : Value} (h : w.cell? a = some v) (hne : a.block ≠ G) : ((((w.setCell ⟨G, 0, none⟩ u0).setCell ⟨G, 1, none⟩ u1).setCell ⟨G, 2, none⟩ u2).setCell ⟨G, 3, none⟩ u3).cell? a = some v := by
  rw [World.cell?_of_block ((heap_setCell_other _ ⟨G, 3, none⟩ a.block u3 hne).trans ((heap_setCell_other _ ⟨G, 2, none⟩ a.block u2 hne).trans ((heap_setCell_other _ ⟨G, 1, none⟩ a.block u1 hne).trans (heap_setCell_other w ⟨G, 0, none⟩ a.block u0 hne))))]
  exact h
section
variable {w : World} {B T : Nat} {A : Option Addr} {n c : Nat} {l : List UInt8} {v : Value} {ns : List Nod} {g i : Nat} {cl : Nat → Bool} (h : Psr w B T A n c l v ns g i cl 0)
include h
theorem Psr.two : w.cell? ⟨T, 2, none⟩ = some (.slice A n c) ∧ w.cell? ⟨T, 3, none⟩ = some (.int .i64 (i : Int)) := ⟨h.c2, h.c3⟩

set_option maxHeartbeats 8000000 in
theorem bracket_no (hi : i < n) {e : Nat} (hv : readB l (i + 1) = .error e) : Calls Try.prog 55 #[.pointer (some ⟨T, 0, none⟩)] w (YBad w B T A n c l v i e) := by
  have c2 := h.c2
  have c3 := h.c3
  have hns : n ≤ 100000 := h.txt.2.2.2.1
  have hTl := h.lt
  have hTG : T ≠ w.heap.size := by omega
  have he : ((e : Int) != 0) = true := by have := readB_wrong hv; rw [bne_iff_ne]; omega
  have hP := Lib.hid (fun w1 (hb : Below w.heap.size w w1) => parse_any (h.keep hb).inp (i + 1) (by omega))
  rw [hv] at hP
  rw [show told (.error e) = (noneF, 0, e) from rfl] at hP
  simp only at hP
  rw [show setC noneF = #[.int .u64 0, .int .u64 0, .int .u64 0, .int .u64 0] from setC_noneF, show (((i + 1 : Nat)) : Int) = (i : Int) + 1 by omega] at hP
  have hx := Lib.hid (show Below w.heap.size w w from Below.refl _ _)
  have hx2 := Lib.hid (show Below w.heap.size w (w.alloc (.cells #[.int .u64 0, .int .u64 0, .int .u64 0, .int .u64 0] 32)) from (Below.refl _ _).alloc (Nat.le_refl _) _)
  have hW := Lib.hid (fun w1 (hb : Below w.heap.size w w1) => wrong_at (h.keep hb) e (e : Int) rfl)
  have hK := Lib.hid (fun w1 (hb : Below w.heap.size w w1) => (h.keep hb).two)
  have hZ := Lib.hid (held_new w 32 #[.int .u64 0, .int .u64 0, .int .u64 0, .int .u64 0])
  have hi1 : i + 1 ≤ n := hi
  have hw1 : IntKind.i64.wrap ((i : Int) + 1) = (i : Int) + 1 := IntWalk.i64_in _ (by omega)
  have hKa := Lib.hid (hK.out _ hx.out.drew)
  have hKb := Lib.hid (hK.out _ hx2.out.drew)
  have hPa := Lib.hid (hP.out _ hx.out.drew)
  have hPb := Lib.hid (hP.out _ hx2.out.drew)
  clear h hv hP
  go_enter Try.func55, Try.ntmps55
  go_wp2
  go_region_held3 (fun w' => w'.cell? ⟨T, 2, none⟩ = some (.slice A n c) ∧ w'.cell? ⟨T, 3, none⟩ = some (.int .i64 (i : Int)))
    (first | with_reducible exact hKa.out | with_reducible exact hKb.out | with_reducible exact hK1.out | with_reducible exact ⟨cell_far4 hK1.out.1 hTG, cell_far4 hK1.out.2 hTG⟩ | go_keep)
    (first
    | (go_at_call 61; (with_reducible refine (hPa.out).mono ?_); rintro y w1 ⟨rfl, hb1⟩; replace hb1 := hx.out.drew.trans hb1; have hK1 := Lib.hid (hK.out _ hb1); replace hb1 := Lib.hid hb1)
    | (go_at_call 61; (with_reducible refine (hPb.out).mono ?_); rintro y w1 ⟨rfl, hb1⟩; have hZ1 := hZ.out.drew.keep hb1; have z := hZ1.cells4; have y0 := hZ1.thawed 0; have y1 := hZ1.thawed 1; have y2 := hZ1.thawed 2; have y3 := hZ1.thawed 3; replace hZ1 := Lib.hid hZ1; replace hb1 := hx2.out.drew.trans (hb1.mono hx2.out.drew.size); have hK1 := Lib.hid (hK.out _ hb1); replace hb1 := Lib.hid hb1))
  · have hB4 := hb1.out.alloc hb1.out.size (.cells #[.int .u64 0, .int .u64 0, .int .u64 0, .int .u64 0] 32)
    generalize w1.alloc (.cells #[.int .u64 0, .int .u64 0, .int .u64 0, .int .u64 0] 32) = w4 at *
    have k3 := (hK.out _ hB4).2
    replace hB4 := Lib.hid hB4
    clear hKa hKb hPa hPb hK1 hZ hx hx2 hb1
    go_wp2_with (go_at_call 25; (with_reducible refine (hW.out _ hB4.out).mono ?_); rintro y w' ⟨v', ns', g', cl', rfl, h2, h3⟩; replace h2 := Lib.hid h2; replace h3 := Lib.hid ((ChP.of_below hB4.out).trans h3))
    go_ret
    exact ⟨v', ns', g', cl', rfl, h2.out, h3.out⟩
  · have hB4 := (((hb1.out.setCell (p := ⟨w.heap.size, 0, none⟩) (Nat.le_refl _) (.int .u64 0)).setCell (p := ⟨w.heap.size, 1, none⟩) (Nat.le_refl _) (.int .u64 0)).setCell (p := ⟨w.heap.size, 2, none⟩) (Nat.le_refl _) (.int .u64 0)).setCell (p := ⟨w.heap.size, 3, none⟩) (Nat.le_refl _) (.int .u64 0)
    generalize (((w1.setCell ⟨w.heap.size, 0, none⟩ (.int .u64 0)).setCell ⟨w.heap.size, 1, none⟩ (.int .u64 0)).setCell ⟨w.heap.size, 2, none⟩ (.int .u64 0)).setCell ⟨w.heap.size, 3, none⟩ (.int .u64 0) = w4 at *
    have k3 := (hK.out _ hB4).2
    replace hB4 := Lib.hid hB4
    clear hKa hKb hPa hPb hK1 hZ hx hx2 hb1
    go_wp2_with (go_at_call 25; (with_reducible refine (hW.out _ hB4.out).mono ?_); rintro y w' ⟨v', ns', g', cl', rfl, h2, h3⟩; replace h2 := Lib.hid h2; replace h3 := Lib.hid ((ChP.of_below hB4.out).trans h3))
    go_ret
    exact ⟨v', ns', g', cl', rfl, h2.out, h3.out⟩

omit h in
theorem YPut.ret {w' : World} {j : Nat} {nd : Nod} {e : Ending} (h : YPut w B T A n c l v ns g cl j nd e w') : ∃ z, e = .returned (.int .i64 z) ∧ YPut w B T A n c l v ns g cl j nd (.returned (.int .i64 z)) w' := by
  rcases h with ⟨a, v', rfl, k, m⟩ | ⟨a, v', rfl, k, m⟩
  · exact ⟨_, rfl, .inl ⟨a, v', rfl, k, m⟩⟩
  · exact ⟨_, rfl, .inr ⟨a, v', rfl, k, m⟩⟩
/-- Behind the reading of a set. -/
structure StS (w0 w : World) (G : Nat) (cs : Array Value) : Prop where
  low : Below w0.heap.size w0 w
  s : Held w G 32 cs
  new : w0.heap.size ≤ G
set_option maxHeartbeats 8000000 in
theorem bracket_yes (hi : i < n) {f : Nat → Bool} {j : Nat} (hv : readB l (i + 1) = .ok (f, j)) : Calls Try.prog 55 #[.pointer (some ⟨T, 0, none⟩)] w (YPut w B T A n c l v ns g cl j (setN f)) := by
  have c2 := h.c2
  have c3 := h.c3
  have hns : n ≤ 100000 := h.txt.2.2.2.1
  have hTl := h.lt
  have hTG : T ≠ w.heap.size := by omega
  have hnl := h.hn
  have hj := readB_size (by omega) hv
  have hP := Lib.hid (fun w1 (hb : Below w.heap.size w w1) => parse_any (h.keep hb).inp (i + 1) (by omega))
  rw [hv] at hP
  rw [show told (.ok (f, j)) = (f, j, 0) from rfl] at hP
  simp only at hP
  rw [show (((i + 1 : Nat)) : Int) = (i : Int) + 1 by omega] at hP
  have hS := Lib.hid (fun w1 (hb : Below w.heap.size w w1) => bset_any (h.keep hb) (j - i) ((j : Int) - (i : Int)) (by omega) (by omega) f)
  rw [show i + (j - i) = j by omega] at hS
  rw [setC_lit f] at hP hS
  generalize wd f 0 = s0 at *
  generalize wd f 1 = s1 at *
  generalize wd f 2 = s2 at *
  generalize wd f 3 = s3 at *
  have hx := Lib.hid (show Below w.heap.size w w from Below.refl _ _)
  have hx2 := Lib.hid (show Below w.heap.size w (w.alloc (.cells #[.int .u64 0, .int .u64 0, .int .u64 0, .int .u64 0] 32)) from (Below.refl _ _).alloc (Nat.le_refl _) _)
  have hK := Lib.hid (fun w1 (hb : Below w.heap.size w w1) => (h.keep hb).two)
  have hZ := Lib.hid (held_new w 32 #[.int .u64 0, .int .u64 0, .int .u64 0, .int .u64 0])
  have hi1 : i + 1 ≤ n := hi
  have hw1 : IntKind.i64.wrap ((i : Int) + 1) = (i : Int) + 1 := IntWalk.i64_in _ (by omega)
  have hw2 : IntKind.i64.wrap ((j : Int) - (i : Int)) = (j : Int) - (i : Int) := IntWalk.i64_in _ (by omega)
  have hKa := Lib.hid (hK.out _ hx.out.drew)
  have hKb := Lib.hid (hK.out _ hx2.out.drew)
  have hPa := Lib.hid (hP.out _ hx.out.drew)
  have hPb := Lib.hid (hP.out _ hx2.out.drew)
  clear h hv hP hj hnl
  go_enter Try.func55, Try.ntmps55
  go_wp2
  go_region_held3 (fun w' => w'.cell? ⟨T, 2, none⟩ = some (.slice A n c) ∧ w'.cell? ⟨T, 3, none⟩ = some (.int .i64 (i : Int)))
    (first | with_reducible exact hKa.out | with_reducible exact hKb.out | with_reducible exact hK1.out | with_reducible exact hKc.out | with_reducible exact ⟨cell_far4 hK1.out.1 hTG, cell_far4 hK1.out.2 hTG⟩ | go_keep)
    (first
    | (go_at_call 61; (with_reducible refine (hPa.out).mono ?_); rintro y w1 ⟨rfl, hb1⟩; replace hb1 := hx.out.drew.trans hb1; have hK1 := Lib.hid (hK.out _ hb1); have hKc := Lib.hid (hK.out _ (hb1.alloc hb1.size (.cells #[.int .u64 (s0 : Int), .int .u64 (s1 : Int), .int .u64 (s2 : Int), .int .u64 (s3 : Int)] 32))); replace hb1 := Lib.hid hb1)
    | (go_at_call 61; (with_reducible refine (hPb.out).mono ?_); rintro y w1 ⟨rfl, hb1⟩; have hZ1 := hZ.out.drew.keep hb1; have z := hZ1.cells4; have y0 := hZ1.thawed 0; have y1 := hZ1.thawed 1; have y2 := hZ1.thawed 2; have y3 := hZ1.thawed 3; replace hZ1 := Lib.hid hZ1; replace hb1 := hx2.out.drew.trans (hb1.mono hx2.out.drew.size); have hK1 := Lib.hid (hK.out _ hb1); replace hb1 := Lib.hid hb1))
  · have hQ := Lib.hid (show StS w (w1.alloc (.cells #[.int .u64 (s0 : Int), .int .u64 (s1 : Int), .int .u64 (s2 : Int), .int .u64 (s3 : Int)] 32)) w1.heap.size #[.int .u64 (s0 : Int), .int .u64 (s1 : Int), .int .u64 (s2 : Int), .int .u64 (s3 : Int)] from
      ⟨hb1.out.alloc hb1.out.size _, held_new _ _ _, hb1.out.size⟩)
    generalize w1.alloc (.cells #[.int .u64 (s0 : Int), .int .u64 (s1 : Int), .int .u64 (s2 : Int), .int .u64 (s3 : Int)] 32) = w4 at *
    generalize w1.heap.size = G at *
    have hK4 := Lib.hid (hK.out _ hQ.out.low.drew)
    have k2 := (hK.out _ hQ.out.low).1
    have k3 := (hK.out _ hQ.out.low).2
    have hS4 := Lib.hid (hS.out _ hQ.out.low.drew)
    have hSc := Lib.hid (hQ.out.s.drew.cells4)
    clear hKa hKb hPa hPb hK1 hKc hZ hx hx2 hb1
    obtain ⟨q0, q1, q2, q3⟩ := hQ.out.s.cells4
    go_wp2_with (first
      | (go_region_with ((go_at_call 52; (with_reducible refine (hS4.out).mono ?_); intro y w5 hy; obtain ⟨z, rfl, hy⟩ := hy.ret; replace hy := Lib.hid (hy.from (ChP.of_below (T := T) (v := v) hQ.out.low.drew)))))
      | fail)
    all_goals
      go_ret
      exact hy.out
  · have hQ := Lib.hid (show StS w ((((w1.setCell ⟨w.heap.size, 0, none⟩ (.int .u64 (s0 : Int))).setCell ⟨w.heap.size, 1, none⟩ (.int .u64 (s1 : Int))).setCell ⟨w.heap.size, 2, none⟩ (.int .u64 (s2 : Int))).setCell ⟨w.heap.size, 3, none⟩ (.int .u64 (s3 : Int))) w.heap.size #[.int .u64 (s0 : Int), .int .u64 (s1 : Int), .int .u64 (s2 : Int), .int .u64 (s3 : Int)] from
      ⟨(((hb1.out.setCell (p := ⟨w.heap.size, 0, none⟩) (Nat.le_refl _) _).setCell (p := ⟨w.heap.size, 1, none⟩) (Nat.le_refl _) _).setCell (p := ⟨w.heap.size, 2, none⟩) (Nat.le_refl _) _).setCell (p := ⟨w.heap.size, 3, none⟩) (Nat.le_refl _) _, (((hZ1.out.put 0 _).put 1 _).put 2 _).put 3 _, Nat.le_refl _⟩)
    generalize (((w1.setCell ⟨w.heap.size, 0, none⟩ (.int .u64 (s0 : Int))).setCell ⟨w.heap.size, 1, none⟩ (.int .u64 (s1 : Int))).setCell ⟨w.heap.size, 2, none⟩ (.int .u64 (s2 : Int))).setCell ⟨w.heap.size, 3, none⟩ (.int .u64 (s3 : Int)) = w4 at *
    have hK4 := Lib.hid (hK.out _ hQ.out.low.drew)
    have k2 := (hK.out _ hQ.out.low).1
    have k3 := (hK.out _ hQ.out.low).2
    have hS4 := Lib.hid (hS.out _ hQ.out.low.drew)
    have hSc := Lib.hid (hQ.out.s.drew.cells4)
    clear hKa hKb hPa hPb hK1 hZ hZ1 z y0 y1 y2 y3 hx hx2 hb1
    obtain ⟨q0, q1, q2, q3⟩ := hQ.out.s.cells4
    go_wp2_with (first
      | (go_region_with ((go_at_call 52; (with_reducible refine (hS4.out).mono ?_); intro y w5 hy; obtain ⟨z, rfl, hy⟩ := hy.ret; replace hy := Lib.hid (hy.from (ChP.of_below (T := T) (v := v) hQ.out.low.drew)))))
      | fail)
    all_goals
      go_ret
      exact hy.out
end
end Go.Proofs.Ytnfbgpjadnlgbab
