/- Contract of the reference's Extended. The contract of the law's awake. A set that comes in as an argument. A regular expression that comes in as an argument. What comes out of ere.Parse, where the end is known. -/
import Derived.Test.YtnfbgpjadnlgbaaGreatM49
import Derived.Test.YtnfbgpjadnlgbaaGreatM42
import Derived.Test.YtnfbgpjadnlgbaaGreatM54
import Derived.Test.YtnfbgpjadnlgbaaGreatProg
import Derived.Test.YtnfbgpjadnlgbaaGreatM02
import Derived.Deep.Slices
import Derived.Deep.Fields
import Derived.ChangeSame
import Derived.Laws.IdiomArrays
set_option linter.unusedVariables false
set_option maxRecDepth 100000
namespace Go.Proofs.YtnfbgpjadnlgbaaGreat
open Go.RowKit

set_option maxHeartbeats 8000000 in
theorem rext_nil {A : Option Addr} {n c : Nat} {l : List UInt8} {w : World} (h : Inp w A n c l) (h0 : n = 0) :
    Calls Tryz.prog 12 #[.slice A n c] w (PResE w l) := by
  have hb1 : Below w.heap.size w (w.alloc (.cells #[.slice none 0 0, .int .i64 0] 26)) := (Below.refl _ _).alloc (Nat.le_refl _) _
  have hP := rdr_new h hb1
  rw [show (w.alloc (.cells #[.slice none 0 0, .int .i64 0] 26)).heap.size = w.heap.size + 1 from sizeA' _ _] at hP
  have hl0 : l = [] := List.length_eq_zero_iff.1 (by have := h.1; omega)
  have hU := Lib.hid (rput_any hP emptyN (fits_plain 0 (.inl rfl) _ _))
  rw [show nodV emptyN = _ from nodV_z 0 0 0 0 0 0] at hU
  have hR := Lib.hid (((held_new w 26 #[.slice none 0 0, .int .i64 0]).alloc (.cells (rdrC (.slice none 0 0) 0 A n c 0 noCl 0) 54)))
  have hb2 := Lib.hid (hb1.alloc hb1.size (.cells (rdrC (.slice none 0 0) 0 A n c 0 noCl 0) 54))
  have hn := Lib.hid h.1
  have hfin := Lib.hid (show EndX l (.fin [emptyN] 0) from .inl ⟨hl0, rfl⟩)
  clear h hP hb1 hl0 hn
  unfold rdrC noCl at hU hR hb2
  subst h0
  go_enter Tryz.func12, Tryz.ntmps12
  go_wp2_with (first
    | (go_at_call 22; refine (hU.out).mono ?_; intro y w3 hy
       rcases hy with ⟨_, v2, rfl, h2, k2⟩ | ⟨hf, _⟩
       rotate_left
       exact absurd (by decide) hf
       have hT := Lib.hid (rtold_ok h2)
       have hR3 := Lib.hid (hR.out.chp k2 (by omega) (by intro e; cases e))
       have hb3 := Lib.hid (hb2.out.trans (k2.below (by have := hb2.out.size; exact this) (by omega) (fun k e => by cases e)))
       have how := Lib.hid h2.own
       obtain ⟨Av, cap, rfl⟩ := own_slice h2.own
       clear h2 k2)
    | (go_at_call 17; refine (hT.out).mono ?_; rintro y w4 ⟨rfl, hb4⟩; have hR4 := Lib.hid (hR3.out.keep hb4); have z := hR4.out.at_ (i := 0) rfl; have z1 := hR4.out.at_ (i := 1) rfl; have y0 := hR4.out.thawed 0; have y1 := hR4.out.thawed 1; have hb5 := Lib.hid hb4; replace hb4 := Lib.hid (hb3.out.trans (hb4.mono hb3.out.size))))
  have hown : ((w4.setCell ⟨w.heap.size, 0, none⟩ (.slice Av 1 cap)).setCell ⟨w.heap.size, 1, none⟩ (.int .i64 0)).ownsRow w.heap.size 39 10 (.slice Av 1 cap) 1 (nodsL [emptyN]) :=
    own_far (hR4.out.put 0 (.slice Av 1 cap)) (by decide) (own_far hR4.out (by decide) (own_below how.out hb5.out) 0 _) 1 _
  exact bodyPost_ret (v := .tuple #[.agg #[.slice Av 1 cap, .int .i64 0], .int .i64 0, .int .i64 0]) (results_cell_three Tryz.results12 _ _ w.heap.size 26 #[.slice Av 1 cap, .int .i64 0] (0, 0) _ rfl rfl rfl ((hR4.out.put 0 _).put 1 _) Tryz.underlying26 rfl (by kernel_rfl)) rfl
      (.inl ⟨_, [emptyN], 0, rfl, hfin.out, right_empty, hown, (hb4.out.setCell (p := ⟨w.heap.size, 0, none⟩) (Nat.le_refl _) _).setCell (p := ⟨w.heap.size, 1, none⟩) (Nat.le_refl _) _⟩)

set_option maxHeartbeats 8000000 in
theorem rext_any {A : Option Addr} {n c : Nat} {l : List UInt8} {w : World} (h : Inp w A n c l) (hsm : n ≤ 300) :
    Calls Tryz.prog 12 #[.slice A n c] w (PResE w l) := by
  by_cases h0 : n = 0
  · exact rext_nil h h0
  have hb1 : Below w.heap.size w (w.alloc (.cells #[.slice none 0 0, .int .i64 0] 26)) := (Below.refl _ _).alloc (Nat.le_refl _) _
  have hP := rdr_new h hb1
  rw [show (w.alloc (.cells #[.slice none 0 0, .int .i64 0] 26)).heap.size = w.heap.size + 1 from sizeA' _ _] at hP
  have hl0 : l ≠ [] := fun e => h0 (by have := h.1; rw [e] at this; simpa using this)
  have hBr := Lib.hid (ealt_top hP hsm)
  have hR := Lib.hid (((held_new w 26 #[.slice none 0 0, .int .i64 0]).alloc (.cells (rdrC (.slice none 0 0) 0 A n c 0 noCl 0) 54)))
  have hb2 := Lib.hid (hb1.alloc hb1.size (.cells (rdrC (.slice none 0 0) 0 A n c 0 noCl 0) 54))
  have hn := Lib.hid h.1
  have hnz : ((n : Int) == 0) = false := by rw [beq_eq_false_iff_ne]; omega
  replace hl0 := Lib.hid hl0
  clear h hP hb1 h0
  unfold rdrC noCl at hBr hR hb2
  go_enter Tryz.func12, Tryz.ntmps12
  go_wp2_with (first
    | (go_at_call 23; refine (hBr.out).mono ?_; intro y w3 hy; rcases hy with ⟨x, v2, ns2, g2, i2, cl2, ns1, ps1, bs1, rfl, ok2, h2, k2, q1, q2, q3, q4, q5, q6⟩ | ⟨x, v2, ns2, g2, i2, cl2, e2, he2, rfl, h2, k2, q6⟩
       all_goals first
         | (obtain ⟨hal, hst⟩ := q6 [] rfl
            have hir := (hst.inv invE0).right hal h2.len
            have hen := Lib.hid (show EndX l (.fin ns2 g2) from .inr ⟨hl0.out, hst.ends (.fin (by
              show stepEL l _ = _
              have hq5 : i2 = n := by simpa using q5
              simp only [stepEL]
              rw [if_pos (by rw [hq5, hn.out]; exact Nat.le_refl _), hal]))⟩)
            have hr := Lib.hid hir.1
            have hT := Lib.hid (rtold_ok h2)
            have hR3 := Lib.hid (hR.out.chp k2 (by omega) (by intro e; cases e))
            have hb3 := Lib.hid (hb2.out.trans (k2.below (by have := hb2.out.size; exact this) (by omega) (fun k e => by cases e)))
            have how := Lib.hid h2.own
            obtain ⟨Av, cap, rfl⟩ := own_slice h2.own
            clear h2 k2 q1 q2 q3 q4 q5 q6 ok2 hst hir hal)
         | (have hT := Lib.hid (rtold_bad h2 he2)
            have hR3 := Lib.hid (hR.out.chp k2 (by omega) (by intro e; cases e))
            have hb3 := Lib.hid (hb2.out.trans (k2.below (by have := hb2.out.size; exact this) (by omega) (fun k e => by cases e)))
            have hen := Lib.hid (show EndX l (.bad i2 e2) from .inr ⟨hl0.out, q6 [] rfl⟩)
            replace he2 := Lib.hid he2
            clear h2 k2 q6))
    | (go_at_call 17; refine (hT.out).mono ?_; rintro y w4 ⟨rfl, hb4⟩; have hR4 := Lib.hid (hR3.out.keep hb4); have z := hR4.out.at_ (i := 0) rfl; have z1 := hR4.out.at_ (i := 1) rfl; have y0 := hR4.out.thawed 0; have y1 := hR4.out.thawed 1; have hb5 := Lib.hid hb4; replace hb4 := Lib.hid (hb3.out.trans (hb4.mono hb3.out.size))))
  · have hown : ((w4.setCell ⟨w.heap.size, 0, none⟩ (.slice Av ns2.length cap)).setCell ⟨w.heap.size, 1, none⟩ (.int .i64 (g2 : Int))).ownsRow w.heap.size 39 10 (.slice Av ns2.length cap) ns2.length (nodsL ns2) :=
      own_far (hR4.out.put 0 (.slice Av ns2.length cap)) (by decide) (own_far hR4.out (by decide) (own_below how.out hb5.out) 0 _) 1 _
    exact bodyPost_ret (v := .tuple #[.agg #[.slice Av ns2.length cap, .int .i64 (g2 : Int)], .int .i64 0, .int .i64 0]) (results_cell_three Tryz.results12 _ _ w.heap.size 26 #[.slice Av ns2.length cap, .int .i64 (g2 : Int)] (0, 0) _ rfl rfl rfl ((hR4.out.put 0 _).put 1 _) Tryz.underlying26 rfl (by kernel_rfl)) rfl
      (.inl ⟨_, ns2, g2, rfl, hen.out, hr.out, hown, (hb4.out.setCell (p := ⟨w.heap.size, 0, none⟩) (Nat.le_refl _) _).setCell (p := ⟨w.heap.size, 1, none⟩) (Nat.le_refl _) _⟩)
  · exact bodyPost_ret (v := .tuple #[.agg #[.slice none 0 0, .int .i64 0], .int .i64 (i2 : Int), .int .i64 (e2 : Int)]) (results_cell_three Tryz.results12 _ _ w.heap.size 26 #[.slice none 0 0, .int .i64 0] (0, 0) _ rfl rfl rfl ((hR4.out.put 0 _).put 1 _) Tryz.underlying26 rfl (by kernel_rfl)) rfl
      (.inr ⟨i2, e2, he2.out, rfl, hen.out, (hb4.out.setCell (p := ⟨w.heap.size, 0, none⟩) (Nat.le_refl _) _).setCell (p := ⟨w.heap.size, 1, none⟩) (Nat.le_refl _) _⟩)
end Go.Proofs.YtnfbgpjadnlgbaaGreat

set_option linter.unusedVariables false
set_option maxRecDepth 100000
namespace Go.Proofs.YtnfbgpjadnlgbaaGreat
open Go.RowKit

/-- The third node of a|b stays an alternative. -/
structure OwnK (w : World) (q k : Nat) (v : Value) : Prop where
  lt : q < w.heap.size
  cell : w.cell? ⟨q, k, none⟩ = some v
theorem OwnK.keep {w w' : World} {q k : Nat} {v : Value} (h : OwnK w q k v) (hb : Below w.heap.size w w') : OwnK w' q k v := ⟨Nat.lt_of_lt_of_le h.lt hb.size, (hb.cell (p := ⟨q, k, none⟩) h.lt).trans h.cell⟩
theorem OwnK.alloc {w : World} {q k : Nat} {v : Value} (h : OwnK w q k v) (o : Obj) : OwnK (w.alloc o) q k v := h.keep ((Below.refl _ _).alloc (Nat.le_refl _) o)
theorem OwnK.mk' {w : World} {B q n cap k : Nat} {v : Value} {ns : List Nod} (h : w.ownsRow B 39 10 (.slice (some ⟨q, 0, none⟩) n cap) n (nodsL ns)) (hk : k < n * 10) (hv : (nodsL ns)[k]? = some v) : OwnK w q k v :=
  ⟨(h.lt q rfl).2, by rw [h.cellAt k hk, hv]⟩
theorem ew1 : EndX [97, 124, 98] (.fin [setN (ofL [97]), setN (ofL [98]), twoN 3 0 1] 0) := endX_fin (k := 12) (by simp) (by rfl)
theorem ew2 : EndX [97, 43] (.fin [setN (ofL [97]), repN 0 1 (-1)] 0) := endX_fin (k := 10) (by simp) (by rfl)
theorem ew3 : EndX [97, 124] (.bad 2 15) := endX_bad (k := 10) (by simp) (by rfl)
set_option maxHeartbeats 8000000 in
theorem awake_ere (w : World) (hm : Mx w) : Calls Tryz.prog 10 #[] w fun e w' => e = .returned (.bool true) ∧ Below w.heap.size w w' := by
  have hP1 := Lib.hid (show ∀ w, Mx w → Calls Tryz.prog 11 #[.slice (some ⟨w.heap.size, 0, none⟩) 3 3] (w.alloc (.cells #[.int .u8 97, .int .u8 124, .int .u8 98] 5 (3, 4))) (FinR _ _ 0 3) from fun w hm => eparse_fin (const_inp hm [97, 124, 98] 3 rfl (by decide) (3, 4)) (by decide) ew1 rfl)
  have hP2 := Lib.hid (show ∀ w, Mx w → Calls Tryz.prog 11 #[.slice (some ⟨w.heap.size, 0, none⟩) 2 2] (w.alloc (.cells #[.int .u8 97, .int .u8 43] 5 (2, 3))) (FinR _ _ 0 2) from fun w hm => eparse_fin (const_inp hm [97, 43] 2 rfl (by decide) (2, 3)) (by decide) ew2 rfl)
  have hP3 := Lib.hid (show ∀ w, Mx w → Calls Tryz.prog 11 #[.slice (some ⟨w.heap.size, 0, none⟩) 2 2] (w.alloc (.cells #[.int .u8 97, .int .u8 124] 5 (2, 3))) (fun e w' => e = .returned (.tuple #[.agg #[.slice none 0 0, .int .i64 0], .int .i64 2, .int .i64 15]) ∧ Below (w.heap.size + 1) (w.alloc (.cells #[.int .u8 97, .int .u8 124] 5 (2, 3))) w') from fun w hm => by
    have := eparse_bad (const_inp hm [97, 124] 2 rfl (by decide) (2, 3)) (by decide) ew3
    rw [sizeA'] at this
    exact this)
  have hm' := Lib.hid hm
  have kc := fun (w : World) (C : Array Value) (n c : Nat) => Lib.run_convert_bytes_const (P := Tryz.prog) w 22 5 C n c Tryz.underlying22 Tryz.underlying5
  have kc2 := fun (w : World) (o : Obj) (C : Array Value) (n c : Nat) => (by have := kc (w.alloc o) C n c; rw [sizeA'] at this; exact this : (convert 22 22 (.slice (some ⟨w.heap.size + 1, 0, none⟩) n c)).run Tryz.prog ((w.alloc o).alloc (.cells C 5)) = .ok (.slice (some ⟨w.heap.size + 1, 0, none⟩) n c) ((w.alloc o).alloc (.cells C 5 (C.size, C.size + 1))))
  replace hP2 := Lib.hid (fun (w : World) (o : Obj) (hm : Mx (w.alloc o)) => (by have := hP2.out (w.alloc o) hm; rw [sizeA'] at this; exact this : Calls Tryz.prog 11 #[.slice (some ⟨w.heap.size + 1, 0, none⟩) 2 2] ((w.alloc o).alloc (.cells #[.int .u8 97, .int .u8 43] 5 (2, 3))) (FinR ((w.alloc o).alloc (.cells #[.int .u8 97, .int .u8 43] 5 (2, 3))) [setN (ofL [97]), repN 0 1 (-1)] 0 2)))
  replace hP3 := Lib.hid (fun (w : World) (o : Obj) (hm : Mx (w.alloc o)) => (by have := hP3.out (w.alloc o) hm; rw [sizeA'] at this; exact this.mono fun e w' h => ⟨h.1, by rw [sizeA', sizeA']; exact h.2⟩ : Calls Tryz.prog 11 #[.slice (some ⟨w.heap.size + 1, 0, none⟩) 2 2] ((w.alloc o).alloc (.cells #[.int .u8 97, .int .u8 124] 5 (2, 3))) (fun e w' => e = .returned (.tuple #[.agg #[.slice none 0 0, .int .i64 0], .int .i64 2, .int .i64 15]) ∧ Below ((w.alloc o).alloc (.cells #[.int .u8 97, .int .u8 124] 5 (2, 3))).heap.size ((w.alloc o).alloc (.cells #[.int .u8 97, .int .u8 124] 5 (2, 3))) w')))
  clear hm
  go_enter Tryz.func10, Tryz.ntmps10
  go_wp2_with (first
    | (go_at_call 11; with_reducible show Calls _ _ _ (World.alloc w _) _; refine (hP1.out _ hm'.out).mono ?_; intro e w1 hy; obtain ⟨q1, c1, rfl, ho1, hb1, hc1, -⟩ := hy.ex; have hL1 := (((Below.refl w.heap.size w).alloc (Nat.le_refl _) _).trans (hb1.mono (le_alloc _ _))); have hR1 := Lib.hid (held_new w1 26 #[(.slice (some ⟨q1, 0, none⟩) 3 c1), .int .i64 0]); have hO1 := Lib.hid ((OwnK.mk' (k := 20) (v := .int .i64 3) ho1 (by decide) rfl).alloc (.cells #[(.slice (some ⟨q1, 0, none⟩) 3 c1), .int .i64 0] 26)); replace hL1 := Lib.hid (hL1.alloc hL1.size (.cells #[(.slice (some ⟨q1, 0, none⟩) 3 c1), .int .i64 0] 26)))
    | (go_at_call 11; with_reducible show Calls _ _ _ (World.alloc (World.alloc w1 _) _) _; refine (hP2.out _ _ (hm'.out.grow hL1.out)).mono ?_; intro e w2 hy; obtain ⟨q2, c2, rfl, ho2, hb2, hc2, -⟩ := hy.ex; have hL2 := hL1.out.trans ((((Below.refl (w1.alloc (.cells #[(.slice (some ⟨q1, 0, none⟩) 3 c1), .int .i64 0] 26)).heap.size (w1.alloc (.cells #[(.slice (some ⟨q1, 0, none⟩) 3 c1), .int .i64 0] 26))).alloc (Nat.le_refl _) _).trans (hb2.mono (le_alloc _ _))).mono hL1.out.size); replace hR1 := Lib.hid (((hR1.out.alloc _).keep hb2).alloc (.cells #[(.slice (some ⟨q2, 0, none⟩) 2 c2), .int .i64 0] 26)); have hR2 := Lib.hid (held_new w2 26 #[(.slice (some ⟨q2, 0, none⟩) 2 c2), .int .i64 0]); replace hO1 := Lib.hid (((hO1.out.alloc _).keep hb2).alloc (.cells #[(.slice (some ⟨q2, 0, none⟩) 2 c2), .int .i64 0] 26)); have hO2 := Lib.hid ((OwnK.mk' (k := 13) (v := .int .i64 1) ho2 (by decide) rfl).alloc (.cells #[(.slice (some ⟨q2, 0, none⟩) 2 c2), .int .i64 0] 26)); replace hL2 := Lib.hid (hL2.alloc hL2.size (.cells #[(.slice (some ⟨q2, 0, none⟩) 2 c2), .int .i64 0] 26)))
    | (go_at_call 11; with_reducible show Calls _ _ _ (World.alloc (World.alloc w2 _) _) _; refine (hP3.out _ _ (hm'.out.grow hL2.out)).mono ?_; intro e w3 hy; obtain ⟨rfl, hb3⟩ := hy; have hL3 := (hL2.out.trans ((((Below.refl (w2.alloc (.cells #[(.slice (some ⟨q2, 0, none⟩) 2 c2), .int .i64 0] 26)).heap.size (w2.alloc (.cells #[(.slice (some ⟨q2, 0, none⟩) 2 c2), .int .i64 0] 26))).alloc (Nat.le_refl _) _).trans (hb3.mono (le_alloc _ _))).mono hL2.out.size)); replace hR1 := Lib.hid (((hR1.out.alloc _).keep hb3).alloc (.cells #[(.slice none 0 0), .int .i64 0] 26)); replace hR2 := Lib.hid (((hR2.out.alloc _).keep hb3).alloc (.cells #[(.slice none 0 0), .int .i64 0] 26)); replace hO1 := Lib.hid (((hO1.out.alloc _).keep hb3).alloc (.cells #[(.slice none 0 0), .int .i64 0] 26)); replace hO2 := Lib.hid (((hO2.out.alloc _).keep hb3).alloc (.cells #[(.slice none 0 0), .int .i64 0] 26)); replace hL3 := Lib.hid (hL3.alloc hL3.size (.cells #[(.slice none 0 0), .int .i64 0] 26)); have z1 := hR1.out.at_ (i := 0) rfl; have z2 := hR2.out.at_ (i := 0) rfl; have z3 := hO1.out.cell; have z4 := hO2.out.cell))
  go_ret
  exact ⟨rfl, hL3.out⟩
end Go.Proofs.YtnfbgpjadnlgbaaGreat

set_option maxRecDepth 100000
namespace Go.Proofs.YtnfbgpjadnlgbaaGreat
open Go.ChangeShapes Go.WideShapes Go.Deep Go.RowKit

theorem list4 {α : Type} (l : List α) (h : l.length = 4) : ∃ a b c d, l = [a, b, c, d] := by
  match l, h with
  | [a, b, c, d], _ => exact ⟨a, b, c, d, rfl⟩
theorem cells_set : Tryz.prog.cellsOf 37 = 4 := by kernel_rfl
theorem cells_u64 : Tryz.prog.cellsOf 35 = 1 := by kernel_rfl
theorem nat_u64 {x : Int} (h : (Lit.int .u64 x).wf = true) : ∃ y : Nat, x = (y : Int) ∧ y < 18446744073709551616 := by
  have hb := bounds_u64 h
  obtain ⟨y, rfl⟩ := Int.eq_ofNat_of_zero_le hb.1
  exact ⟨y, rfl, by omega⟩

theorem SetAt.cells4 {w : World} {g : Nat} {f : Nat → Bool} (h : SetAt w g f) : w.cell? ⟨g, 0, none⟩ = some (.int .u64 ((wd f 0 : Nat) : Int)) ∧ w.cell? ⟨g, 1, none⟩ = some (.int .u64 ((wd f 1 : Nat) : Int)) ∧
    w.cell? ⟨g, 2, none⟩ = some (.int .u64 ((wd f 2 : Nat) : Int)) ∧ w.cell? ⟨g, 3, none⟩ = some (.int .u64 ((wd f 3 : Nat) : Int)) := ⟨h.cell 0 (by decide), h.cell 1 (by decide), h.cell 2 (by decide), h.cell 3 (by decide)⟩
section
variable {H : Type} {enc : TypeId × Value → H} {W : World} {held : Bool}
theorem set_trod {fuel : Nat} {c0 c1 c2 c3 : Value} {x : DataW H × List MemPlace} (h : DataW.trod enc Tryz.prog W 0 (fun _ => true) held fuel 37 [c0, c1, c2, c3] = some x) :
    ∃ f : Nat → Bool, c0 = .int .u64 ((wd f 0 : Nat) : Int) ∧ c1 = .int .u64 ((wd f 1 : Nat) : Int) ∧ c2 = .int .u64 ((wd f 2 : Nat) : Int) ∧ c3 = .int .u64 ((wd f 3 : Nat) : Int) := by
  obtain ⟨y0, y1, y2, y3, m, -, h0, h1, h2, h3⟩ := trod_array4 Tryz.underlying37 cells_u64 h
  obtain ⟨x0, e0, -, w0⟩ := DataW.trod_int Tryz.underlying35 h0
  obtain ⟨x1, e1, -, w1⟩ := DataW.trod_int Tryz.underlying35 h1
  obtain ⟨x2, e2, -, w2⟩ := DataW.trod_int Tryz.underlying35 h2
  obtain ⟨x3, e3, -, w3⟩ := DataW.trod_int Tryz.underlying35 h3
  obtain ⟨n0, rfl, b0⟩ := nat_u64 w0
  obtain ⟨n1, rfl, b1⟩ := nat_u64 w1
  obtain ⟨n2, rfl, b2⟩ := nat_u64 w2
  obtain ⟨n3, rfl, b3⟩ := nat_u64 w3
  obtain ⟨f, g0, g1, g2, g3⟩ := set_of n0 n1 n2 n3 b0 b1 b2 b3
  simp only [List.cons.injEq, and_true] at e0 e1 e2 e3
  exact ⟨f, by rw [g0]; exact e0, by rw [g1]; exact e1, by rw [g2]; exact e2, by rw [g3]; exact e3⟩
theorem open_set {v : Value} {d : DataW H} {ps : List MemPlace} {r : Reach} {base : Nat}
    (hv : Value.okWide Tryz.prog W r base 37 v) (h : DataW.Trod enc Tryz.prog W 0 (fun _ => true) true 37 v d ps) : ∃ f : Nat → Bool, v = setV f := by
  obtain ⟨cs, rfl, hsz, _⟩ : ∃ cs, v = .agg cs ∧ cs.size = Tryz.prog.cellsOf 37 ∧ Row.okWide Tryz.prog W r base 37 cs := by
    simpa [Value.okWide, Tryz.underlying37] using hv
  rw [cells_set] at hsz
  obtain ⟨l⟩ := cs
  obtain ⟨c0, c1, c2, c3, rfl⟩ := list4 l hsz
  obtain ⟨fuel, hf⟩ := h
  obtain ⟨f, rfl, rfl, rfl, rfl⟩ := set_trod hf
  exact ⟨f, rfl⟩
end
end Go.Proofs.YtnfbgpjadnlgbaaGreat

set_option maxRecDepth 100000
namespace Go.Proofs.YtnfbgpjadnlgbaaGreat
open Go.ChangeShapes Go.WideShapes Go.Deep Go.RowKit

theorem list10 {α : Type} (l : List α) (h : l.length = 10) : ∃ a b c d e f g i j k, l = [a, b, c, d, e, f, g, i, j, k] := by
  match l, h with
  | [a, b, c, d, e, f, g, i, j, k], _ => exact ⟨a, b, c, d, e, f, g, i, j, k, rfl⟩
theorem cells_int1 : Tryz.prog.cellsOf 3 = 1 := by kernel_rfl
theorem cells_nod : Tryz.prog.cellsOf 39 = 10 := by kernel_rfl
theorem cells_re : Tryz.prog.cellsOf 26 = 2 := by kernel_rfl
theorem cells_nods : Tryz.prog.cellsOf 24 = 1 := by kernel_rfl
section
variable {H : Type} {enc : TypeId × Value → H} {W : World} {held : Bool}
theorem fld_at {fs : Array Field} {f : Field} {t : TypeId} {o k : Nat} {cs : List Value} {xs : List (DataW H × List MemPlace)} {n c : Nat} (hf : ∀ (i : Nat) (f : Field), fs[i]? = some f → DataW.trod enc Tryz.prog W 0 (fun _ => true) held n f.type ((cs.drop f.offset).take (Tryz.prog.cellsOf f.type)) = xs[i]?)
    (hl : xs.length = fs.size) (hk : fs[k]? = some f) (h : fldK f = (true, t, o)) (hc : Tryz.prog.cellsOf t = c) : ∃ y, DataW.trod enc Tryz.prog W 0 (fun _ => true) held n t ((cs.drop o).take c) = some y := by
  simp only [fldK, Prod.mk.injEq] at h
  obtain ⟨-, rfl, rfl⟩ := h
  have := hf k f hk
  rw [hc] at this
  have hlt : k < xs.length := by rw [hl]; exact (Array.getElem?_eq_some_iff.1 hk).1
  rw [List.getElem?_eq_getElem hlt] at this
  exact ⟨_, this⟩
theorem nod_trod {fuel : Nat} {cs : List Value} {x : DataW H × List MemPlace} (h : DataW.trod enc Tryz.prog W 0 (fun _ => true) held fuel 39 cs = some x) : ∃ n : Nod, cs = nodL n := by
  obtain ⟨xs, m, -, -, hlen, hxl, hf⟩ := DataW.trod_struct under_nod h
  rw [cells_nod] at hlen
  obtain ⟨c0, c1, c2, c3, c4, c5, c6, c7, c8, c9, rfl⟩ := list10 cs hlen
  have hfl := flds_nod
  have hsz : (Tryz.prog.fieldsOf 39).toList.length = (Tryz.prog.fieldsOf 39).size := by simp
  have hat : ∀ (j : Nat), (Tryz.prog.fieldsOf 39)[j]? = (Tryz.prog.fieldsOf 39).toList[j]? := fun j => by simp
  generalize (Tryz.prog.fieldsOf 39) = F at *
  generalize hL : F.toList = L at *
  match L, (show L.length = 7 by have := congrArg List.length hfl; simpa using this), hfl with
  | [f0, f1, f2, f3, f4, f5, f6], _, hfl =>
    simp only [List.map_cons, List.map_nil, List.cons.injEq, and_true] at hfl
    obtain ⟨h0, h1, h2, h3, h4, h5, h6⟩ := hfl
    obtain ⟨y0, q0⟩ := fld_at hf hxl (by rw [hat 0]; rfl) h0 cells_int1
    obtain ⟨y1, q1⟩ := fld_at hf hxl (by rw [hat 1]; rfl) h1 cells_int1
    obtain ⟨y2, q2⟩ := fld_at hf hxl (by rw [hat 2]; rfl) h2 cells_int1
    obtain ⟨y3, q3⟩ := fld_at hf hxl (by rw [hat 3]; rfl) h3 cells_int1
    obtain ⟨y4, q4⟩ := fld_at hf hxl (by rw [hat 4]; rfl) h4 cells_int1
    obtain ⟨y5, q5⟩ := fld_at hf hxl (by rw [hat 5]; rfl) h5 cells_int1
    obtain ⟨y6, q6⟩ := fld_at hf hxl (by rw [hat 6]; rfl) h6 cells_set
    obtain ⟨k, e0, -⟩ := DataW.trod_int Tryz.underlying3 q0
    obtain ⟨a, e1, -⟩ := DataW.trod_int Tryz.underlying3 q1
    obtain ⟨b, e2, -⟩ := DataW.trod_int Tryz.underlying3 q2
    obtain ⟨lo, e3, -⟩ := DataW.trod_int Tryz.underlying3 q3
    obtain ⟨hi, e4, -⟩ := DataW.trod_int Tryz.underlying3 q4
    obtain ⟨gr, e5, -⟩ := DataW.trod_int Tryz.underlying3 q5
    obtain ⟨s, e6, e7, e8, e9⟩ := set_trod (c0 := c6) (c1 := c7) (c2 := c8) (c3 := c9) q6
    simp only [List.drop_zero, List.drop_succ_cons, List.take_succ_cons, List.take_zero, List.cons.injEq, and_true] at e0 e1 e2 e3 e4 e5
    exact ⟨⟨k, a, b, lo, hi, gr, s⟩, by rw [e0, e1, e2, e3, e4, e5, e6, e7, e8, e9]; rfl⟩
theorem nods_trod {fuel : Nat} {cs : List Value} {x : DataW H × List MemPlace} (h : DataW.trod enc Tryz.prog W 0 (fun _ => true) true fuel 24 cs = some x) :
    ∃ (A : Option Addr) (n cap : Nat) (ns : List Nod), cs = [.slice A n cap] ∧ n = ns.length ∧ n ≤ cap ∧ cap ≤ maxLen ∧ Nods W W.heap.size A ns := by
  rcases open_slice Tryz.underlying24 h with ⟨hcs, _⟩ | ⟨a, len', cap', m, n, D, Pl, hcs, hb, hl, hm, hmm, hx, hi⟩
  · exact ⟨none, 0, 0, [], hcs, rfl, Nat.le_refl _, by simp [maxLen], Nods.none_ _ _ _⟩
  · simp only [if_true] at hmm
    rw [cells_nod] at hi
    have key : ∀ i, i < len' → ∃ nd : Nod, ∀ j u, (nodL nd)[j]? = some u → W.cell? (a.add (i * 10 + j)) = some u := by
      intro i hil
      obtain ⟨cs', hc, ht⟩ := hi i (by omega)
      obtain ⟨_, hcl, hat⟩ := World.cells?_some hc
      obtain ⟨nd, rfl⟩ := nod_trod ht
      refine ⟨nd, fun j u hj => ?_⟩
      have hj10 : j < 10 := by have := (List.getElem?_eq_some_iff.1 hj).1; rwa [nodL_len] at this
      have := hat j hj10
      rw [add_two, hj] at this
      exact this
    have hex : ∃ F : Nat → Nod, ∀ i, i < len' → ∀ j u, (nodL (F i))[j]? = some u → W.cell? (a.add (i * 10 + j)) = some u :=
      ⟨fun i => if hil : i < len' then Classical.choose (key i hil) else ⟨0, 0, 0, 0, 0, 0, zset⟩, fun i hil => by simp only [dif_pos hil]; exact Classical.choose_spec (key i hil)⟩
    obtain ⟨F, hF⟩ := hex
    refine ⟨some a, len', cap', (List.range len').map F, hcs, by simp, hl, hm, ?_⟩
    intro k hk
    rw [List.length_map, List.length_range] at hk
    have e2 : ((List.range len').map F)[k]'(by simpa using hk) = F k := by simp
    rw [e2]
    refine ⟨a, rfl, ?_, hF k hk⟩
    have := World.block_lt_of_cell? _ _ (hF k hk 0 _ rfl)
    rwa [block_add] at this
theorem under_re : Tryz.prog.underlying 26 = some (.struct (Tryz.prog.fieldsOf 26)) := by kernel_rfl
theorem flds_re : (Tryz.prog.fieldsOf 26).toList.map fldK = [(true, 24, 0), (true, 3, 1)] := by kernel_rfl
theorem re_trod {fuel : Nat} {cs : List Value} {x : DataW H × List MemPlace} (h : DataW.trod enc Tryz.prog W 0 (fun _ => true) true fuel 26 cs = some x) :
    ∃ (A : Option Addr) (n cap : Nat) (ns : List Nod) (g : Int), cs = [.slice A n cap, .int .i64 g] ∧ n = ns.length ∧ n ≤ cap ∧ cap ≤ maxLen ∧ Nods W W.heap.size A ns := by
  obtain ⟨xs, m, -, -, hlen, hxl, hf⟩ := DataW.trod_struct under_re h
  rw [cells_re] at hlen
  obtain ⟨c0, c1, rfl⟩ : ∃ c0 c1, cs = [c0, c1] := by
    match cs, hlen with
    | [c0, c1], _ => exact ⟨c0, c1, rfl⟩
  have hfl := flds_re
  have hat : ∀ (j : Nat), (Tryz.prog.fieldsOf 26)[j]? = (Tryz.prog.fieldsOf 26).toList[j]? := fun j => by simp
  generalize (Tryz.prog.fieldsOf 26) = F at *
  generalize hL : F.toList = L at *
  match L, (show L.length = 2 by have := congrArg List.length hfl; simpa using this), hfl with
  | [f0, f1], _, hfl =>
    simp only [List.map_cons, List.map_nil, List.cons.injEq, and_true] at hfl
    obtain ⟨h0, h1⟩ := hfl
    obtain ⟨y0, q0⟩ := fld_at hf hxl (by rw [hat 0]; rfl) h0 cells_nods
    obtain ⟨y1, q1⟩ := fld_at hf hxl (by rw [hat 1]; rfl) h1 cells_int1
    obtain ⟨A, n, cap, ns, e0, r1, r2, r3, r4⟩ := nods_trod q0
    obtain ⟨g, e1, -⟩ := DataW.trod_int Tryz.underlying3 q1
    simp only [List.drop_zero, List.drop_succ_cons, List.take_succ_cons, List.take_zero, List.cons.injEq, and_true] at e0 e1
    exact ⟨A, n, cap, ns, g, by rw [e0, e1], r1, r2, r3, r4⟩
theorem open_re {v : Value} {d : DataW H} {ps : List MemPlace} {r : Reach} {base : Nat}
    (hv : Value.okWide Tryz.prog W r base 26 v) (h : DataW.Trod enc Tryz.prog W 0 (fun _ => true) true 26 v d ps) :
    ∃ (A : Option Addr) (n cap : Nat) (ns : List Nod) (g : Int), v = .agg #[.slice A n cap, .int .i64 g] ∧ n = ns.length ∧ n ≤ cap ∧ cap ≤ maxLen ∧ Nods W W.heap.size A ns := by
  obtain ⟨cs, rfl, hsz⟩ := okWide_struct under_re hv
  obtain ⟨fuel, hf⟩ := h
  obtain ⟨A, n, cap, ns, g, e, r1, r2, r3, r4⟩ := re_trod hf
  obtain ⟨l⟩ := cs
  have e' : l = [.slice A n cap, .int .i64 g] := e
  subst e'
  exact ⟨A, n, cap, ns, g, rfl, r1, r2, r3, r4⟩
end
end Go.Proofs.YtnfbgpjadnlgbaaGreat

set_option linter.unusedVariables false
set_option maxRecDepth 100000
namespace Go.Proofs.YtnfbgpjadnlgbaaGreat
open Go.RowKit

theorem fin_outE {w w' : World} {l : List UInt8} {ns : List Nod} {g : Nat} {e : Ending} (he : EndX l (.fin ns g)) (h : PResE w l e w') :
    ∃ A cap, e = .returned (.tuple #[.agg #[.slice A ns.length cap, .int .i64 (g : Int)], .int .i64 0, .int .i64 0]) ∧ rightN ns (g : Int) = true ∧ ns.length ≤ cap ∧ cap ≤ maxLen ∧ Nods w' w'.heap.size A ns ∧ Below w.heap.size w w' := by
  rcases h with ⟨v, ns', g', e1, h1, h2, h3, h4⟩ | ⟨p, q, _, _, h1, _⟩
  · have := h1.det he
    injection this with e2 e3
    subst e2
    subst e3
    obtain ⟨A, cap, rfl, _, h5, h6, h7⟩ := own_nods h3
    exact ⟨A, cap, e1, h2, h5, h6, h7, h4⟩
  · cases h1.det he
theorem bad_outE {w w' : World} {l : List UInt8} {p q : Nat} {e : Ending} (he : EndX l (.bad p q)) (h : PResE w l e w') :
    e = .returned (.tuple #[.agg #[.slice none 0 0, .int .i64 0], .int .i64 (p : Int), .int .i64 (q : Int)]) ∧ Below w.heap.size w w' := by
  rcases h with ⟨v, ns', g', e1, h1, h2, h3, h4⟩ | ⟨p', q', _, e1, h1, h2⟩
  · cases h1.det he
  · have := h1.det he
    injection this with e2 e3
    subst e2
    subst e3
    exact ⟨e1, h2⟩
theorem prese_ends {w w' : World} {l : List UInt8} {e : Ending} (h : PResE w l e w') : (∃ ns g, EndX l (.fin ns g)) ∨ (∃ p q : Nat, q ≠ 0 ∧ EndX l (.bad p q)) := by
  rcases h with ⟨v, ns', g', e1, h1, _⟩ | ⟨p', q', h0, e1, h1, h2⟩
  · exact .inl ⟨ns', g', h1⟩
  · exact .inr ⟨p', q', h0, h1⟩
end Go.Proofs.YtnfbgpjadnlgbaaGreat
