/- Contracts of the reference: told, Basic. -/
import Derived.Test.YtcloimdndcbchaaGreatM53
set_option linter.unusedVariables false
set_option maxRecDepth 100000
namespace Go.Proofs.YtcloimdndcbchaaGreat
open Go.RowKit

section
variable {w : World} {B T : Nat} {A : Option Addr} {n c : Nat} {l : List UInt8} {v : Value} {ns : List Nod} {g i : Nat} {cl : Nat → Bool} {e : Nat}
set_option maxHeartbeats 8000000 in
theorem rtold_bad (h : Rdr w B T A n c l v ns g i cl e) (he : e ≠ 0) :
    Calls Tryz.prog 12 #[.pointer (some ⟨T, 0, none⟩)] w fun x w' => x = .returned (.tuple #[.agg #[.slice none 0 0, .int .i64 0], .int .i64 (i : Int), .int .i64 (e : Int)]) ∧ Below w.heap.size w w' := by
  have hb0 : Below w.heap.size w (w.alloc (.cells #[.slice none 0 0, .int .i64 0] 26)) := (Below.refl _ _).alloc (Nat.le_refl _) _
  have h0 := h.keep hb0
  have c1 := h0.c1
  have c2 := h0.c2
  have hTl := h.lt
  have hTn : T ≠ w.heap.size := by omega
  have heb : ((e : Int) != 0) = true := by rw [bne_iff_ne]; omega
  have hR := Lib.hid (held_new w 26 #[.slice none 0 0, .int .i64 0])
  have hT2 := Lib.hid (show (w.alloc (.cells #[.slice none 0 0, .int .i64 0] 26)).drew.cell? ⟨T, 1, none⟩ = some (.int .i64 (i : Int)) ∧ (w.alloc (.cells #[.slice none 0 0, .int .i64 0] 26)).drew.cell? ⟨T, 2, none⟩ = some (.int .i64 (e : Int)) from ⟨c1, c2⟩)
  replace hb0 := Lib.hid hb0
  clear h h0 he
  go_enter Tryz.func12, Tryz.ntmps12
  go_wp2
  go_region_held3 (fun w' => w'.cell? ⟨T, 1, none⟩ = some (.int .i64 (i : Int)) ∧ w'.cell? ⟨T, 2, none⟩ = some (.int .i64 (e : Int)))
    (first | with_reducible exact hT2.out | with_reducible exact ⟨cell_far2 hT2.out.1 hTn, cell_far2 hT2.out.2 hTn⟩ | go_keep)
    (fail)
  all_goals
    go_wp2
    exact bodyPost_ret (v := .tuple #[.agg #[.slice none 0 0, .int .i64 0], .int .i64 (i : Int), .int .i64 (e : Int)]) (results_cell_three Tryz.results12 _ _ w.heap.size 26 #[.slice none 0 0, .int .i64 0] (0, 0) _ rfl rfl rfl ((held_new w 26 _)) Tryz.underlying26 rfl (by kernel_rfl)) rfl ⟨rfl, hb0.out.drew⟩
set_option maxHeartbeats 8000000 in
theorem rtold_ok (h : Rdr w B T A n c l v ns g i cl 0) :
    Calls Tryz.prog 12 #[.pointer (some ⟨T, 0, none⟩)] w fun x w' => x = .returned (.tuple #[.agg #[v, .int .i64 (g : Int)], .int .i64 0, .int .i64 0]) ∧ Below w.heap.size w w' := by
  have hb0 : Below w.heap.size w (w.alloc (.cells #[.slice none 0 0, .int .i64 0] 26)) := (Below.refl _ _).alloc (Nat.le_refl _) _
  have h0 := h.keep hb0
  have c2 := h0.c2
  have c3 := h0.c3
  have c4 := h0.c4
  have hTl := h.lt
  have hTn : T ≠ w.heap.size := by omega
  obtain ⟨Av, cap, rfl⟩ := own_slice h.own
  have hT2 := Lib.hid (show (w.alloc (.cells #[.slice none 0 0, .int .i64 0] 26)).drew.cell? ⟨T, 3, none⟩ = some (.slice Av ns.length cap) ∧ (w.alloc (.cells #[.slice none 0 0, .int .i64 0] 26)).drew.cell? ⟨T, 4, none⟩ = some (.int .i64 (g : Int)) from ⟨c3, c4⟩)
  have h1 := h.keep (show Below w.heap.size w (w.alloc (.cells #[.slice Av ns.length cap, .int .i64 (g : Int)] 26)) from (Below.refl _ _).alloc (Nat.le_refl _) _)
  have hT3 := Lib.hid (show (w.alloc (.cells #[.slice Av ns.length cap, .int .i64 (g : Int)] 26)).drew.cell? ⟨T, 3, none⟩ = some (.slice Av ns.length cap) ∧ (w.alloc (.cells #[.slice Av ns.length cap, .int .i64 (g : Int)] 26)).drew.cell? ⟨T, 4, none⟩ = some (.int .i64 (g : Int)) from ⟨h1.c3, h1.c4⟩)
  clear h1
  replace hb0 := Lib.hid hb0
  have hal := Lib.hid (fun o => show Below w.heap.size w (w.alloc o) from (Below.refl _ _).alloc (Nat.le_refl _) _)
  clear h h0
  generalize ns.length = N at *
  go_enter Tryz.func12, Tryz.ntmps12
  go_wp2
  go_region_held3 (fun w' => w'.cell? ⟨T, 3, none⟩ = some (.slice Av N cap) ∧ w'.cell? ⟨T, 4, none⟩ = some (.int .i64 (g : Int)))
    (first | with_reducible exact hT2.out | with_reducible exact hT3.out | with_reducible exact ⟨cell_far2 hT2.out.1 hTn, cell_far2 hT2.out.2 hTn⟩ | go_keep)
    (fail)
  all_goals
    go_wp2
    exact bodyPost_ret (v := .tuple #[.agg #[.slice Av N cap, .int .i64 (g : Int)], .int .i64 0, .int .i64 0]) (results_cell_three Tryz.results12 _ _ w.heap.size 26 #[.slice Av N cap, .int .i64 (g : Int)] (0, 0) _ rfl rfl rfl ((held_new w 26 _)) Tryz.underlying26 rfl (by kernel_rfl)) rfl ⟨rfl, (hal.out _).drew⟩
end
/-- A reader that stands at the beginning. -/
theorem rdr_new {w w1 : World} {A : Option Addr} {n c : Nat} {l : List UInt8} (h : Inp w A n c l) (hb : Below w.heap.size w w1) :
    Rdr (w1.alloc (.cells (rdrC (.slice none 0 0) 0 A n c 0 noCl 0) 52)) w.heap.size w1.heap.size A n c l (.slice none 0 0) [] 0 0 noCl 0 :=
  ⟨held_new _ _ _, World.ownsRow_nil _ _ _ _, by simp, by simp, hb.size, Nat.zero_le _, fun q h => by simp [noCl] at h, (txt_of h).below (hb.trans ((Below.refl _ _).alloc hb.size _))⟩
set_option maxHeartbeats 8000000 in
theorem rbasic_any {A : Option Addr} {n c : Nat} {l : List UInt8} {w : World} (h : Inp w A n c l) :
    Calls Tryz.prog 6 #[.slice A n c] w (PRes w l) := by
  have hb1 : Below w.heap.size w (w.alloc (.cells #[.slice none 0 0, .int .i64 0] 26)) := (Below.refl _ _).alloc (Nat.le_refl _) _
  have hP := rdr_new h hb1
  rw [show (w.alloc (.cells #[.slice none 0 0, .int .i64 0] 26)).heap.size = w.heap.size + 1 from sizeA' _ _] at hP
  have hBr := Lib.hid (rbr_all n false _ _ _ A n c l _ [] 0 0 noCl hP (by omega))
  have hR := Lib.hid (((held_new w 26 #[.slice none 0 0, .int .i64 0]).alloc (.cells (rdrC (.slice none 0 0) 0 A n c 0 noCl 0) 52)))
  have hb2 := Lib.hid (hb1.alloc hb1.size (.cells (rdrC (.slice none 0 0) 0 A n c 0 noCl 0) 52))
  have hn := Lib.hid h.1
  clear h hP hb1
  unfold rdrC noCl at hBr hR hb2
  go_enter Tryz.func6, Tryz.ntmps6
  go_wp2_with (first
    | (go_at_call 11; refine (hBr.out).mono ?_; intro y w3 hy; rcases hy with ⟨x, v2, ns2, g2, i2, cl2, ns1, ps2, rfl, ok2, h2, k2, q1, q2, q3, q4, q5, q6⟩ | ⟨x, v2, ns2, g2, i2, cl2, e2, he2, rfl, h2, k2, q6⟩
       all_goals first
         | (have hst := q6 [] rfl
            have hir := (hst.inv inv0).right q4
            have hen := Lib.hid (hst.ends (.fin (show step l ⟨.L, i2, ns1, g2, cl2, ps2, []⟩ = .fin ns2 g2 by
              show stepL l ⟨.L, i2, ns1, g2, cl2, ps2, []⟩ = _
              have hq5 : i2 = n := by simpa using q5
              simp only [stepL]
              rw [if_pos (by rw [hq5, hn.out]; exact Nat.le_refl _), q4])))
            have hr := Lib.hid hir.1
            have hT := Lib.hid (rtold_ok h2)
            have hR3 := Lib.hid (hR.out.chp k2 (by omega) (by intro e; cases e))
            have hb3 := Lib.hid (hb2.out.trans (k2.below (by have := hb2.out.size; exact this) (by omega) (fun k e => by cases e)))
            have how := Lib.hid h2.own
            obtain ⟨Av, cap, rfl⟩ := own_slice h2.own
            clear h2 k2 q1 q2 q3 q4 q5 q6 ok2 hst hir)
         | (have hT := Lib.hid (rtold_bad h2 he2)
            have hR3 := Lib.hid (hR.out.chp k2 (by omega) (by intro e; cases e))
            have hb3 := Lib.hid (hb2.out.trans (k2.below (by have := hb2.out.size; exact this) (by omega) (fun k e => by cases e)))
            have hen := Lib.hid (q6 [] rfl)
            replace he2 := Lib.hid he2
            clear h2 k2 q6))
    | (go_at_call 12; refine (hT.out).mono ?_; rintro y w4 ⟨rfl, hb4⟩; have hR4 := Lib.hid (hR3.out.keep hb4); have z := hR4.out.at_ (i := 0) rfl; have z1 := hR4.out.at_ (i := 1) rfl; have y0 := hR4.out.thawed 0; have y1 := hR4.out.thawed 1; have hb5 := Lib.hid hb4; replace hb4 := Lib.hid (hb3.out.trans (hb4.mono hb3.out.size))))
  · have hown : ((w4.setCell ⟨w.heap.size, 0, none⟩ (.slice Av ns2.length cap)).setCell ⟨w.heap.size, 1, none⟩ (.int .i64 (g2 : Int))).ownsRow w.heap.size 39 10 (.slice Av ns2.length cap) ns2.length (nodsL ns2) :=
      own_far (hR4.out.put 0 (.slice Av ns2.length cap)) (by decide) (own_far hR4.out (by decide) (own_below how.out hb5.out) 0 _) 1 _
    exact bodyPost_ret (v := .tuple #[.agg #[.slice Av ns2.length cap, .int .i64 (g2 : Int)], .int .i64 0, .int .i64 0]) (results_cell_three Tryz.results6 _ _ w.heap.size 26 #[.slice Av ns2.length cap, .int .i64 (g2 : Int)] (0, 0) _ rfl rfl rfl ((hR4.out.put 0 _).put 1 _) Tryz.underlying26 rfl (by kernel_rfl)) rfl
      (.inl ⟨_, ns2, g2, rfl, hen.out, hr.out, hown, (hb4.out.setCell (p := ⟨w.heap.size, 0, none⟩) (Nat.le_refl _) _).setCell (p := ⟨w.heap.size, 1, none⟩) (Nat.le_refl _) _⟩)
  · exact bodyPost_ret (v := .tuple #[.agg #[.slice none 0 0, .int .i64 0], .int .i64 (i2 : Int), .int .i64 (e2 : Int)]) (results_cell_three Tryz.results6 _ _ w.heap.size 26 #[.slice none 0 0, .int .i64 0] (0, 0) _ rfl rfl rfl ((hR4.out.put 0 _).put 1 _) Tryz.underlying26 rfl (by kernel_rfl)) rfl
      (.inr ⟨i2, e2, he2.out, rfl, hen.out, (hb4.out.setCell (p := ⟨w.heap.size, 0, none⟩) (Nat.le_refl _) _).setCell (p := ⟨w.heap.size, 1, none⟩) (Nat.le_refl _) _⟩)
end Go.Proofs.YtcloimdndcbchaaGreat
