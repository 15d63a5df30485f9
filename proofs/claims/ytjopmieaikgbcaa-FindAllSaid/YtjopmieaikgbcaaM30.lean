/- Contracts and plain facts: M30. -/
import Derived.Test.YtjopmieaikgbcaaM29
set_option linter.unusedVariables false
set_option linter.unusedSimpArgs false
set_option maxRecDepth 100000
set_option maxHeartbeats 32000000
namespace Go.Proofs.Ytjopmieaikgbcaa
open Go.RowKit Go.Shelf
attribute [local go_sem] Oper.semAt_some
section
variable {w : World} {B : Nat} {A A2 : Option Addr} {n c n2 c2 : Nat} {ns : List Nod} {t : List UInt8} {g : Int}
theorem first_bad1 (from_ fuel : Int) (h : AtIn w B A n c A2 n2 c2 ns t) (k1 : rightN ns g = false) :
    Calls Try.prog 15 #[.agg #[.slice A n c,.int .i64 g],.slice A2 n2 c2,.int .i64 from_,.int .i64 fuel] w fun e w' => FirstP ns g t from_ fuel e ∧ Below w.heap.size w w':=by
 have hbad:=lhi (show FirstP ns g t from_ fuel _ from .arg (by rintro ⟨q,-⟩;rw [k1] at q;cases q))
 have hb0:=lhi ((((Below.refl w.heap.size w).alloc (nlr _) (.cells #[.slice A n c,.int .i64 g] 24)).alloc (by simp) (.cells #[.int .i64 0,.int .i64 0,.int .i64 0,.int .i64 0,.int .i64 0,.int .i64 0,.int .i64 0,.int .i64 0,.int .i64 0,.int .i64 0,.int .i64 0,.int .i64 0,.int .i64 0,.int .i64 0,.int .i64 0,.int .i64 0,.int .i64 0,.int .i64 0,.int .i64 0,.int .i64 0] 31)).alloc (by simp;omega) (.cells #[.bool false] 4))
 have hRt:=lhi (fun w' (hb : Below w.heap.size w w') => right_any A n c ns g B w' h.hn h.hnc h.hcm (Nat.le_trans h.base hb.size) (h.nods.below (hb.mono h.base)))
 rw [k1] at hRt
 have hR1:=lhi (show Held (((w.alloc (.cells #[.slice A n c,.int .i64 g] 24)).alloc (.cells #[.int .i64 0,.int .i64 0,.int .i64 0,.int .i64 0,.int .i64 0,.int .i64 0,.int .i64 0,.int .i64 0,.int .i64 0,.int .i64 0,.int .i64 0,.int .i64 0,.int .i64 0,.int .i64 0,.int .i64 0,.int .i64 0,.int .i64 0,.int .i64 0,.int .i64 0,.int .i64 0] 31)).alloc (.cells #[.bool false] 4)) (w.heap.size + 1) 31 (hitC sp00) from (held_new2 w (.cells #[.slice A n c,.int .i64 g] 24) 31 #[.int .i64 0,.int .i64 0,.int .i64 0,.int .i64 0,.int .i64 0,.int .i64 0,.int .i64 0,.int .i64 0,.int .i64 0,.int .i64 0,.int .i64 0,.int .i64 0,.int .i64 0,.int .i64 0,.int .i64 0,.int .i64 0,.int .i64 0,.int .i64 0,.int .i64 0,.int .i64 0]).alloc (.cells #[.bool false] 4))
 have hR2:=lhi (show Held (((w.alloc (.cells #[.slice A n c,.int .i64 g] 24)).alloc (.cells #[.int .i64 0,.int .i64 0,.int .i64 0,.int .i64 0,.int .i64 0,.int .i64 0,.int .i64 0,.int .i64 0,.int .i64 0,.int .i64 0,.int .i64 0,.int .i64 0,.int .i64 0,.int .i64 0,.int .i64 0,.int .i64 0,.int .i64 0,.int .i64 0,.int .i64 0,.int .i64 0] 31)).alloc (.cells #[.bool false] 4)) (w.heap.size + 1 + 1) 4 #[.bool false] from by
  have:=held_new ((w.alloc (.cells #[.slice A n c,.int .i64 g] 24)).alloc (.cells #[.int .i64 0,.int .i64 0,.int .i64 0,.int .i64 0,.int .i64 0,.int .i64 0,.int .i64 0,.int .i64 0,.int .i64 0,.int .i64 0,.int .i64 0,.int .i64 0,.int .i64 0,.int .i64 0,.int .i64 0,.int .i64 0,.int .i64 0,.int .i64 0,.int .i64 0,.int .i64 0] 31)) 4 #[.bool false]
  rw [show ((w.alloc (.cells #[.slice A n c,.int .i64 g] 24)).alloc (.cells #[.int .i64 0,.int .i64 0,.int .i64 0,.int .i64 0,.int .i64 0,.int .i64 0,.int .i64 0,.int .i64 0,.int .i64 0,.int .i64 0,.int .i64 0,.int .i64 0,.int .i64 0,.int .i64 0,.int .i64 0,.int .i64 0,.int .i64 0,.int .i64 0,.int .i64 0,.int .i64 0] 31)).heap.size = w.heap.size + 1 + 1 from by simp] at this
  exact this)
 clear h k1
 have hne12 : w.heap.size + 1 + 1 ≠ w.heap.size + 1:=by omega
 go_enter Try.func15,Try.ntmps15
 go_wp2_with (first
  | (go_at_call 21;refine (hRt.out _ hb0.out).mono ?_;rintro e w1 ⟨rfl,hb1⟩;have hv1:=lhi (hR1.out.keep hb1);have hv2:=lhi ((hR2.out.keep hb1).row_far (g':=w.heap.size + 1) hne12 (hitC sp00));have cd : (w1.setRow (w.heap.size + 1) (hitC sp00)).cell? ⟨w.heap.size + 1 + 1,0,none⟩ = some (.bool false):=hv2.out.at_ rfl;have td:=hv2.out.thawed 0;have hb2:=lhi (hb0.out.trans (hb1.mono hb0.out.size));clear hb1)
  | (refine wpList_build_hit0 rfl rfl (hitC sp00) rfl ?_)
  | (refine wpList_store_row rfl 31 (.tmp 8) (.tmp 31) rfl (w.heap.size + 1) (hitC sp00) rfl rfl 31 _ hv1.out (by rw [hitC_size];exact size_hit) rfl (hit_cells _) ?_))
 have hgc:=grown_cell (w1.setRow (w.heap.size + 1) (hitC sp00)) (w.heap.size + 1 + 1) 0 (.bool false)
 exact bodyPost_ret (results_cell_tcf Try.results15 _ _ (w.heap.size + 1) (w.heap.size + 1 + 1) (hitC sp00) false rfl rfl rfl rfl ((hv1.out.row (hitC sp00)).grown hgc (fun e => hne12 (Option.some.inj e).symm)) (hitC_size _) (hv2.out.put 0 (.bool false))) rfl ⟨hbad.out,(below_row hb2.out (Nat.le_succ _) _).setCell (p:=⟨w.heap.size + 1 + 1,0,none⟩) (by show w.heap.size ≤ w.heap.size + 1 + 1;omega) _⟩
theorem first_bad2 (from_ fuel : Int) (h : AtIn w B A n c A2 n2 c2 ns t) (k1 : rightN ns g = true) (k2 : from_ < 0) :
    Calls Try.prog 15 #[.agg #[.slice A n c,.int .i64 g],.slice A2 n2 c2,.int .i64 from_,.int .i64 fuel] w fun e w' => FirstP ns g t from_ fuel e ∧ Below w.heap.size w w':=by
 have hbad:=lhi (show FirstP ns g t from_ fuel _ from .arg (by rintro ⟨-,q,-⟩;omega))
 have hb0:=lhi ((((Below.refl w.heap.size w).alloc (nlr _) (.cells #[.slice A n c,.int .i64 g] 24)).alloc (by simp) (.cells #[.int .i64 0,.int .i64 0,.int .i64 0,.int .i64 0,.int .i64 0,.int .i64 0,.int .i64 0,.int .i64 0,.int .i64 0,.int .i64 0,.int .i64 0,.int .i64 0,.int .i64 0,.int .i64 0,.int .i64 0,.int .i64 0,.int .i64 0,.int .i64 0,.int .i64 0,.int .i64 0] 31)).alloc (by simp;omega) (.cells #[.bool false] 4))
 have hRt:=lhi (fun w' (hb : Below w.heap.size w w') => right_any A n c ns g B w' h.hn h.hnc h.hcm (Nat.le_trans h.base hb.size) (h.nods.below (hb.mono h.base)))
 rw [k1] at hRt
 have hR1:=lhi (show Held (((w.alloc (.cells #[.slice A n c,.int .i64 g] 24)).alloc (.cells #[.int .i64 0,.int .i64 0,.int .i64 0,.int .i64 0,.int .i64 0,.int .i64 0,.int .i64 0,.int .i64 0,.int .i64 0,.int .i64 0,.int .i64 0,.int .i64 0,.int .i64 0,.int .i64 0,.int .i64 0,.int .i64 0,.int .i64 0,.int .i64 0,.int .i64 0,.int .i64 0] 31)).alloc (.cells #[.bool false] 4)) (w.heap.size + 1) 31 (hitC sp00) from (held_new2 w (.cells #[.slice A n c,.int .i64 g] 24) 31 #[.int .i64 0,.int .i64 0,.int .i64 0,.int .i64 0,.int .i64 0,.int .i64 0,.int .i64 0,.int .i64 0,.int .i64 0,.int .i64 0,.int .i64 0,.int .i64 0,.int .i64 0,.int .i64 0,.int .i64 0,.int .i64 0,.int .i64 0,.int .i64 0,.int .i64 0,.int .i64 0]).alloc (.cells #[.bool false] 4))
 have hR2:=lhi (show Held (((w.alloc (.cells #[.slice A n c,.int .i64 g] 24)).alloc (.cells #[.int .i64 0,.int .i64 0,.int .i64 0,.int .i64 0,.int .i64 0,.int .i64 0,.int .i64 0,.int .i64 0,.int .i64 0,.int .i64 0,.int .i64 0,.int .i64 0,.int .i64 0,.int .i64 0,.int .i64 0,.int .i64 0,.int .i64 0,.int .i64 0,.int .i64 0,.int .i64 0] 31)).alloc (.cells #[.bool false] 4)) (w.heap.size + 1 + 1) 4 #[.bool false] from by
  have:=held_new ((w.alloc (.cells #[.slice A n c,.int .i64 g] 24)).alloc (.cells #[.int .i64 0,.int .i64 0,.int .i64 0,.int .i64 0,.int .i64 0,.int .i64 0,.int .i64 0,.int .i64 0,.int .i64 0,.int .i64 0,.int .i64 0,.int .i64 0,.int .i64 0,.int .i64 0,.int .i64 0,.int .i64 0,.int .i64 0,.int .i64 0,.int .i64 0,.int .i64 0] 31)) 4 #[.bool false]
  rw [show ((w.alloc (.cells #[.slice A n c,.int .i64 g] 24)).alloc (.cells #[.int .i64 0,.int .i64 0,.int .i64 0,.int .i64 0,.int .i64 0,.int .i64 0,.int .i64 0,.int .i64 0,.int .i64 0,.int .i64 0,.int .i64 0,.int .i64 0,.int .i64 0,.int .i64 0,.int .i64 0,.int .i64 0,.int .i64 0,.int .i64 0,.int .i64 0,.int .i64 0] 31)).heap.size = w.heap.size + 1 + 1 from by simp] at this
  exact this)
 have d1 : decide (from_ < 0) = true:=decide_eq_true k2
 clear h k1
 have hne12 : w.heap.size + 1 + 1 ≠ w.heap.size + 1:=by omega
 go_enter Try.func15,Try.ntmps15
 go_wp2_with (first
  | (go_at_call 21;refine (hRt.out _ hb0.out).mono ?_;rintro e w1 ⟨rfl,hb1⟩;have hv1:=lhi (hR1.out.keep hb1);have hv2:=lhi ((hR2.out.keep hb1).row_far (g':=w.heap.size + 1) hne12 (hitC sp00));have cd : (w1.setRow (w.heap.size + 1) (hitC sp00)).cell? ⟨w.heap.size + 1 + 1,0,none⟩ = some (.bool false):=hv2.out.at_ rfl;have td:=hv2.out.thawed 0;have hb2:=lhi (hb0.out.trans (hb1.mono hb0.out.size));clear hb1)
  | (refine wpList_build_hit0 rfl rfl (hitC sp00) rfl ?_)
  | (refine wpList_store_row rfl 31 (.tmp 8) (.tmp 31) rfl (w.heap.size + 1) (hitC sp00) rfl rfl 31 _ hv1.out (by rw [hitC_size];exact size_hit) rfl (hit_cells _) ?_))
 have hgc:=grown_cell (w1.setRow (w.heap.size + 1) (hitC sp00)) (w.heap.size + 1 + 1) 0 (.bool false)
 exact bodyPost_ret (results_cell_tcf Try.results15 _ _ (w.heap.size + 1) (w.heap.size + 1 + 1) (hitC sp00) false rfl rfl rfl rfl ((hv1.out.row (hitC sp00)).grown hgc (fun e => hne12 (Option.some.inj e).symm)) (hitC_size _) (hv2.out.put 0 (.bool false))) rfl ⟨hbad.out,(below_row hb2.out (Nat.le_succ _) _).setCell (p:=⟨w.heap.size + 1 + 1,0,none⟩) (by show w.heap.size ≤ w.heap.size + 1 + 1;omega) _⟩
theorem first_bad3 (from_ fuel : Int) (h : AtIn w B A n c A2 n2 c2 ns t) (k1 : rightN ns g = true) (k2 : ¬ from_ < 0) (k3 : (n2 : Int) < from_) :
    Calls Try.prog 15 #[.agg #[.slice A n c,.int .i64 g],.slice A2 n2 c2,.int .i64 from_,.int .i64 fuel] w fun e w' => FirstP ns g t from_ fuel e ∧ Below w.heap.size w w':=by
 have hbad:=lhi (show FirstP ns g t from_ fuel _ from .arg (by rintro ⟨-,q,-⟩;have:=h.hn2;omega))
 have hb0:=lhi ((((Below.refl w.heap.size w).alloc (nlr _) (.cells #[.slice A n c,.int .i64 g] 24)).alloc (by simp) (.cells #[.int .i64 0,.int .i64 0,.int .i64 0,.int .i64 0,.int .i64 0,.int .i64 0,.int .i64 0,.int .i64 0,.int .i64 0,.int .i64 0,.int .i64 0,.int .i64 0,.int .i64 0,.int .i64 0,.int .i64 0,.int .i64 0,.int .i64 0,.int .i64 0,.int .i64 0,.int .i64 0] 31)).alloc (by simp;omega) (.cells #[.bool false] 4))
 have hRt:=lhi (fun w' (hb : Below w.heap.size w w') => right_any A n c ns g B w' h.hn h.hnc h.hcm (Nat.le_trans h.base hb.size) (h.nods.below (hb.mono h.base)))
 rw [k1] at hRt
 have hR1:=lhi (show Held (((w.alloc (.cells #[.slice A n c,.int .i64 g] 24)).alloc (.cells #[.int .i64 0,.int .i64 0,.int .i64 0,.int .i64 0,.int .i64 0,.int .i64 0,.int .i64 0,.int .i64 0,.int .i64 0,.int .i64 0,.int .i64 0,.int .i64 0,.int .i64 0,.int .i64 0,.int .i64 0,.int .i64 0,.int .i64 0,.int .i64 0,.int .i64 0,.int .i64 0] 31)).alloc (.cells #[.bool false] 4)) (w.heap.size + 1) 31 (hitC sp00) from (held_new2 w (.cells #[.slice A n c,.int .i64 g] 24) 31 #[.int .i64 0,.int .i64 0,.int .i64 0,.int .i64 0,.int .i64 0,.int .i64 0,.int .i64 0,.int .i64 0,.int .i64 0,.int .i64 0,.int .i64 0,.int .i64 0,.int .i64 0,.int .i64 0,.int .i64 0,.int .i64 0,.int .i64 0,.int .i64 0,.int .i64 0,.int .i64 0]).alloc (.cells #[.bool false] 4))
 have hR2:=lhi (show Held (((w.alloc (.cells #[.slice A n c,.int .i64 g] 24)).alloc (.cells #[.int .i64 0,.int .i64 0,.int .i64 0,.int .i64 0,.int .i64 0,.int .i64 0,.int .i64 0,.int .i64 0,.int .i64 0,.int .i64 0,.int .i64 0,.int .i64 0,.int .i64 0,.int .i64 0,.int .i64 0,.int .i64 0,.int .i64 0,.int .i64 0,.int .i64 0,.int .i64 0] 31)).alloc (.cells #[.bool false] 4)) (w.heap.size + 1 + 1) 4 #[.bool false] from by
  have:=held_new ((w.alloc (.cells #[.slice A n c,.int .i64 g] 24)).alloc (.cells #[.int .i64 0,.int .i64 0,.int .i64 0,.int .i64 0,.int .i64 0,.int .i64 0,.int .i64 0,.int .i64 0,.int .i64 0,.int .i64 0,.int .i64 0,.int .i64 0,.int .i64 0,.int .i64 0,.int .i64 0,.int .i64 0,.int .i64 0,.int .i64 0,.int .i64 0,.int .i64 0] 31)) 4 #[.bool false]
  rw [show ((w.alloc (.cells #[.slice A n c,.int .i64 g] 24)).alloc (.cells #[.int .i64 0,.int .i64 0,.int .i64 0,.int .i64 0,.int .i64 0,.int .i64 0,.int .i64 0,.int .i64 0,.int .i64 0,.int .i64 0,.int .i64 0,.int .i64 0,.int .i64 0,.int .i64 0,.int .i64 0,.int .i64 0,.int .i64 0,.int .i64 0,.int .i64 0,.int .i64 0] 31)).heap.size = w.heap.size + 1 + 1 from by simp] at this
  exact this)
 have d1 : decide (from_ < 0) = false:=decide_eq_false k2
 have d2 : decide ((n2 : Int) < from_) = true:=decide_eq_true k3
 clear h k1
 have hne12 : w.heap.size + 1 + 1 ≠ w.heap.size + 1:=by omega
 go_enter Try.func15,Try.ntmps15
 go_wp2_with (first
  | (go_at_call 21;refine (hRt.out _ hb0.out).mono ?_;rintro e w1 ⟨rfl,hb1⟩;have hv1:=lhi (hR1.out.keep hb1);have hv2:=lhi ((hR2.out.keep hb1).row_far (g':=w.heap.size + 1) hne12 (hitC sp00));have cd : (w1.setRow (w.heap.size + 1) (hitC sp00)).cell? ⟨w.heap.size + 1 + 1,0,none⟩ = some (.bool false):=hv2.out.at_ rfl;have td:=hv2.out.thawed 0;have hb2:=lhi (hb0.out.trans (hb1.mono hb0.out.size));clear hb1)
  | (refine wpList_build_hit0 rfl rfl (hitC sp00) rfl ?_)
  | (refine wpList_store_row rfl 31 (.tmp 8) (.tmp 31) rfl (w.heap.size + 1) (hitC sp00) rfl rfl 31 _ hv1.out (by rw [hitC_size];exact size_hit) rfl (hit_cells _) ?_))
 have hgc:=grown_cell (w1.setRow (w.heap.size + 1) (hitC sp00)) (w.heap.size + 1 + 1) 0 (.bool false)
 exact bodyPost_ret (results_cell_tcf Try.results15 _ _ (w.heap.size + 1) (w.heap.size + 1 + 1) (hitC sp00) false rfl rfl rfl rfl ((hv1.out.row (hitC sp00)).grown hgc (fun e => hne12 (Option.some.inj e).symm)) (hitC_size _) (hv2.out.put 0 (.bool false))) rfl ⟨hbad.out,(below_row hb2.out (Nat.le_succ _) _).setCell (p:=⟨w.heap.size + 1 + 1,0,none⟩) (by show w.heap.size ≤ w.heap.size + 1 + 1;omega) _⟩
theorem first_bad4 (from_ fuel : Int) (h : AtIn w B A n c A2 n2 c2 ns t) (k1 : rightN ns g = true) (k2 : ¬ from_ < 0) (k3 : ¬ (n2 : Int) < from_) (k4 : fuel < 0) :
    Calls Try.prog 15 #[.agg #[.slice A n c,.int .i64 g],.slice A2 n2 c2,.int .i64 from_,.int .i64 fuel] w fun e w' => FirstP ns g t from_ fuel e ∧ Below w.heap.size w w':=by
 have hbad:=lhi (show FirstP ns g t from_ fuel _ from .arg (by rintro ⟨-,-,q⟩;omega))
 have hb0:=lhi ((((Below.refl w.heap.size w).alloc (nlr _) (.cells #[.slice A n c,.int .i64 g] 24)).alloc (by simp) (.cells #[.int .i64 0,.int .i64 0,.int .i64 0,.int .i64 0,.int .i64 0,.int .i64 0,.int .i64 0,.int .i64 0,.int .i64 0,.int .i64 0,.int .i64 0,.int .i64 0,.int .i64 0,.int .i64 0,.int .i64 0,.int .i64 0,.int .i64 0,.int .i64 0,.int .i64 0,.int .i64 0] 31)).alloc (by simp;omega) (.cells #[.bool false] 4))
 have hRt:=lhi (fun w' (hb : Below w.heap.size w w') => right_any A n c ns g B w' h.hn h.hnc h.hcm (Nat.le_trans h.base hb.size) (h.nods.below (hb.mono h.base)))
 rw [k1] at hRt
 have hR1:=lhi (show Held (((w.alloc (.cells #[.slice A n c,.int .i64 g] 24)).alloc (.cells #[.int .i64 0,.int .i64 0,.int .i64 0,.int .i64 0,.int .i64 0,.int .i64 0,.int .i64 0,.int .i64 0,.int .i64 0,.int .i64 0,.int .i64 0,.int .i64 0,.int .i64 0,.int .i64 0,.int .i64 0,.int .i64 0,.int .i64 0,.int .i64 0,.int .i64 0,.int .i64 0] 31)).alloc (.cells #[.bool false] 4)) (w.heap.size + 1) 31 (hitC sp00) from (held_new2 w (.cells #[.slice A n c,.int .i64 g] 24) 31 #[.int .i64 0,.int .i64 0,.int .i64 0,.int .i64 0,.int .i64 0,.int .i64 0,.int .i64 0,.int .i64 0,.int .i64 0,.int .i64 0,.int .i64 0,.int .i64 0,.int .i64 0,.int .i64 0,.int .i64 0,.int .i64 0,.int .i64 0,.int .i64 0,.int .i64 0,.int .i64 0]).alloc (.cells #[.bool false] 4))
 have hR2:=lhi (show Held (((w.alloc (.cells #[.slice A n c,.int .i64 g] 24)).alloc (.cells #[.int .i64 0,.int .i64 0,.int .i64 0,.int .i64 0,.int .i64 0,.int .i64 0,.int .i64 0,.int .i64 0,.int .i64 0,.int .i64 0,.int .i64 0,.int .i64 0,.int .i64 0,.int .i64 0,.int .i64 0,.int .i64 0,.int .i64 0,.int .i64 0,.int .i64 0,.int .i64 0] 31)).alloc (.cells #[.bool false] 4)) (w.heap.size + 1 + 1) 4 #[.bool false] from by
  have:=held_new ((w.alloc (.cells #[.slice A n c,.int .i64 g] 24)).alloc (.cells #[.int .i64 0,.int .i64 0,.int .i64 0,.int .i64 0,.int .i64 0,.int .i64 0,.int .i64 0,.int .i64 0,.int .i64 0,.int .i64 0,.int .i64 0,.int .i64 0,.int .i64 0,.int .i64 0,.int .i64 0,.int .i64 0,.int .i64 0,.int .i64 0,.int .i64 0,.int .i64 0] 31)) 4 #[.bool false]
  rw [show ((w.alloc (.cells #[.slice A n c,.int .i64 g] 24)).alloc (.cells #[.int .i64 0,.int .i64 0,.int .i64 0,.int .i64 0,.int .i64 0,.int .i64 0,.int .i64 0,.int .i64 0,.int .i64 0,.int .i64 0,.int .i64 0,.int .i64 0,.int .i64 0,.int .i64 0,.int .i64 0,.int .i64 0,.int .i64 0,.int .i64 0,.int .i64 0,.int .i64 0] 31)).heap.size = w.heap.size + 1 + 1 from by simp] at this
  exact this)
 have d1 : decide (from_ < 0) = false:=decide_eq_false k2
 have d2 : decide ((n2 : Int) < from_) = false:=decide_eq_false k3
 have d3 : decide (fuel < 0) = true:=decide_eq_true k4
 clear h k1
 have hne12 : w.heap.size + 1 + 1 ≠ w.heap.size + 1:=by omega
 go_enter Try.func15,Try.ntmps15
 go_wp2_with (first
  | (go_at_call 21;refine (hRt.out _ hb0.out).mono ?_;rintro e w1 ⟨rfl,hb1⟩;have hv1:=lhi (hR1.out.keep hb1);have hv2:=lhi ((hR2.out.keep hb1).row_far (g':=w.heap.size + 1) hne12 (hitC sp00));have cd : (w1.setRow (w.heap.size + 1) (hitC sp00)).cell? ⟨w.heap.size + 1 + 1,0,none⟩ = some (.bool false):=hv2.out.at_ rfl;have td:=hv2.out.thawed 0;have hb2:=lhi (hb0.out.trans (hb1.mono hb0.out.size));clear hb1)
  | (refine wpList_build_hit0 rfl rfl (hitC sp00) rfl ?_)
  | (refine wpList_store_row rfl 31 (.tmp 8) (.tmp 31) rfl (w.heap.size + 1) (hitC sp00) rfl rfl 31 _ hv1.out (by rw [hitC_size];exact size_hit) rfl (hit_cells _) ?_))
 have hgc:=grown_cell (w1.setRow (w.heap.size + 1) (hitC sp00)) (w.heap.size + 1 + 1) 0 (.bool false)
 exact bodyPost_ret (results_cell_tcf Try.results15 _ _ (w.heap.size + 1) (w.heap.size + 1 + 1) (hitC sp00) false rfl rfl rfl rfl ((hv1.out.row (hitC sp00)).grown hgc (fun e => hne12 (Option.some.inj e).symm)) (hitC_size _) (hv2.out.put 0 (.bool false))) rfl ⟨hbad.out,(below_row hb2.out (Nat.le_succ _) _).setCell (p:=⟨w.heap.size + 1 + 1,0,none⟩) (by show w.heap.size ≤ w.heap.size + 1 + 1;omega) _⟩
theorem findFirst_any (from_ fuel : Int) (h : AtIn w B A n c A2 n2 c2 ns t) (hf : fuel ≤ 999999) :
    Calls Try.prog 15 #[.agg #[.slice A n c,.int .i64 g],.slice A2 n2 c2,.int .i64 from_,.int .i64 fuel] w fun e w' => FirstP ns g t from_ fuel e ∧ Below w.heap.size w w':=by
 cases k1 : rightN ns g with
 | false => exact first_bad1 from_ fuel h k1
 | true =>
  by_cases k2 : from_ < 0
  · exact first_bad2 from_ fuel h k1 k2
  by_cases k3 : (n2 : Int) < from_
  · exact first_bad3 from_ fuel h k1 k2 k3
  by_cases k4 : fuel < 0
  · exact first_bad4 from_ fuel h k1 k2 k3 k4
  obtain ⟨i,rfl⟩:=Int.eq_ofNat_of_zero_le (show 0 ≤ from_ by omega)
  exact first_good i fuel h k1 (by have:=h.hn2;omega) (by omega) hf
end
end Go.Proofs.Ytjopmieaikgbcaa
