/- Contracts of the parser: escaped, atom, given those of branch. -/
import Derived.Test.YtcloimdndcbchaaGreatM31
set_option linter.unusedVariables false
set_option maxRecDepth 100000
namespace Go.Proofs.YtcloimdndcbchaaGreat
open Go.RowKit

theorem atom_esc {t : List UInt8} {i : Nat} {c : UInt8} {r : List UInt8} (h : t.drop i = 92 :: c :: r) : atomA t i = escA i (c :: r) := by
  unfold atomA; rw [h]; rfl
theorem atom_esc0 {t : List UInt8} {i : Nat} (h : t.drop i = [92]) : atomA t i = .bad 10 := by
  unfold atomA; rw [h]; rfl
theorem drop_at {t : List UInt8} {i : Nat} {c : UInt8} {r : List UInt8} (h : t.drop i = c :: r) : i < t.length ∧ t[i]? = some c ∧ t.drop (i + 1) = r := by
  have h1 := congrArg List.length h
  rw [List.length_drop, List.length_cons] at h1
  have h2 : i < t.length := by omega
  refine ⟨h2, ?_, ?_⟩
  · have := congrArg (fun l : List UInt8 => l[0]?) h
    simp at this
    simpa [List.getElem?_eq_getElem h2] using this
  · have := congrArg (List.drop 1) h
    rwa [List.drop_drop] at this
theorem u8_ne {c : UInt8} {k : UInt8} (h : c ≠ k) : ((c.toNat : Int) == (k.toNat : Int)) = false := by
  rw [beq_eq_false_iff_ne]
  intro e
  exact h (UInt8.toNat_inj.1 (by omega))
section
variable {w : World} {B T : Nat} {A : Option Addr} {n c : Nat} {l : List UInt8} {v : Value} {ns : List Nod} {g i : Nat} {cl : Nat → Bool} (h : Psr w B T A n c l v ns g i cl 0 0)
include h
theorem Psr.byte {k : Nat} {x : UInt8} (hk : l[k]? = some x) : ∃ ad, A = some ad ∧ w.cell? (ad.add k) = some (.int .u8 (x.toNat : Int)) := by
  obtain ⟨hlt, hx⟩ := List.getElem?_eq_some_iff.1 hk
  obtain ⟨ad, h1, h2, h3⟩ := h.txt.2.2.2.2.2.1.at_ hlt
  rw [hx] at h3
  exact ⟨ad, h1, h3⟩

variable {inG : Bool}
set_option maxHeartbeats 4000000 in
theorem escaped_0 (hx : l.drop i = [92]) : Calls Tryz.prog 46 #[.pointer (some ⟨T, 0, none⟩)] w (YNode false w B T A n c l v ns g i cl inG) := by
  obtain ⟨hi, -, hr⟩ := drop_at hx
  have hnl := h.hn
  have hin : n = i + 1 := by
    have := congrArg List.length hx
    rw [List.length_drop] at this
    simp at this; omega
  have hns : n ≤ 100000 := h.txt.2.2.2.1
  have hfin := Lib.hid (fun (w' : World) (x : Ending) (y : YBad w B T A n c l v i 10 x w') => y.node (inG := inG) (ns := ns) (g := g) (cl := cl) hi (fun _ => by rw [hx]; rfl) (fun ps lv => by rw [atom_esc0 hx]; rfl) (by decide))
  have c2 := h.c2
  have c3 := h.c3
  have hP := Lib.hid (fun w1 (hb : Below w.heap.size w w1) => (h.keep hb))
  have hb0 := Lib.hid (Below.refl w.heap.size w)
  clear h hx hr hnl hi
  subst hin
  have hi0 : (i : Int) ≤ 100000 := by omega
  go_enter Tryz.func46, Tryz.ntmps46
  go_wp2
  go_quiet (fail)
  go_wp2_with (go_at_call 19; refine (wrong_at (hP.out _ (below_drewN hb0.out _)) i 10 (i : Int) 10 rfl rfl).mono ?_; intro x w2 hy; obtain ⟨rfl, hy⟩ := hy.ret; replace hy := Lib.hid (hfin.out _ _ (hy.from (ChP.of_below (below_drewN hb0.out _)))))
  go_ret
  exact hy.out

set_option maxHeartbeats 4000000 in
/-- The ways on which the byte behind the \ is wrong. -/
theorem escaped_bad {x : UInt8} {r : List UInt8} {q : Nat} (hx : l.drop i = 92 :: x :: r) (hc : inG = true → bg [92, 41] (l.drop i) = false) (hq : x = 41 ∧ q = 14 ∨ x = 123 ∧ q = 13 ∨ (x ≠ 40 ∧ x ≠ 41 ∧ x ≠ 123 ∧ x ≠ 110 ∧ ¬ (49 ≤ x ∧ x ≤ 57) ∧ isAl x = true ∧ q = 10)) :
    Calls Tryz.prog 46 #[.pointer (some ⟨T, 0, none⟩)] w (YNode false w B T A n c l v ns g i cl inG) := by
  obtain ⟨hi, -, hr⟩ := drop_at hx
  obtain ⟨hi1, hx1, -⟩ := drop_at hr
  have hnl := h.hn
  have hns : n ≤ 100000 := h.txt.2.2.2.1
  have hin : i + 1 < n := by omega
  obtain ⟨p, hp⟩ : ∃ p, p = i + 1 := ⟨_, rfl⟩
  have hw1 : IntKind.i64.wrap ((i : Int) + 1) = (p : Int) := by rw [IntWalk.i64_in _ (by omega)]; omega
  have hne : ((p : Int) == (n : Int)) = false := by rw [beq_eq_false_iff_ne]; omega
  have hp0 : (0 : Int) ≤ (p : Int) := by omega
  have hp1 : (p : Int) < (n : Int) := by omega
  rw [← hp] at hx1
  replace hp := Lib.hid hp
  have hi0 : (i : Int) ≤ 100000 := by omega
  obtain ⟨ad, rfl, hcell⟩ := h.byte hx1
  have hnc : n ≤ c := h.inp.2.1
  have ha := atom_esc hx
  have c2 := h.c2
  have c3 := h.c3
  have hP := Lib.hid (fun w1 (hb : Below w.heap.size w w1) => (h.keep hb))
  have hb0 := Lib.hid (Below.refl w.heap.size w)
  have hfin := Lib.hid (fun (ha : ∀ (ps : List Int) (lv : List (Nat × List Int)), stepA ⟨.L, i, ns, g, cl, ps, lv⟩ (escA i (x :: r)) = .bad i q) (hq0 : q ≠ 0) (w' : World) (z : Ending) (y : YBad w B T (some ad) n c l v i q z w') => y.node (inG := inG) (ns := ns) (g := g) (cl := cl) hi hc (fun ps lv => by rw [atom_esc hx]; exact ha ps lv) hq0)
  clear h hx hr hx1 hnl hi hc hi1 ha
  rcases hq with ⟨rfl, rfl⟩ | ⟨rfl, rfl⟩ | ⟨h40, h41, h123, h110, hdg, hal, rfl⟩
  · replace hfin := Lib.hid (hfin.out (fun ps lv => rfl) (by decide))
    replace hcell : w.cell? (ad.add p) = some (.int .u8 41) := hcell
    go_enter Tryz.func46, Tryz.ntmps46
    go_wp2
    go_quiet (fail)
    go_wp2
    go_quiet (fail)
    go_wp2_with (go_at_call 19; refine (wrong_at (hP.out _ (below_drewN hb0.out _)) i 14 (i : Int) 14 rfl rfl).mono ?_; intro x w2 hy; obtain ⟨rfl, hy⟩ := hy.ret; replace hy := Lib.hid (hfin.out _ _ (hy.from (ChP.of_below (below_drewN hb0.out _)))))
    go_ret
    exact hy.out
  · replace hfin := Lib.hid (hfin.out (fun ps lv => rfl) (by decide))
    replace hcell : w.cell? (ad.add p) = some (.int .u8 123) := hcell
    go_enter Tryz.func46, Tryz.ntmps46
    go_wp2
    go_quiet (fail)
    go_wp2
    go_quiet (fail)
    go_wp2_with (go_at_call 19; refine (wrong_at (hP.out _ (below_drewN hb0.out _)) i 13 (i : Int) 13 rfl rfl).mono ?_; intro x w2 hy; obtain ⟨rfl, hy⟩ := hy.ret; replace hy := Lib.hid (hfin.out _ _ (hy.from (ChP.of_below (below_drewN hb0.out _)))))
    go_ret
    exact hy.out
  · replace hfin := Lib.hid (hfin.out (fun ps lv => by simp only [escA]; rw [if_neg h40, if_neg h41, if_neg h123, if_neg h110, if_neg hdg, if_pos hal]; rfl) (by decide))
    have hA := Lib.hid (fun w => isAlnum_bre x w)
    rw [hal] at hA
    have e40 := u8_ne h40
    have e41 := u8_ne h41
    have e123 := u8_ne h123
    have e110 := u8_ne h110
    have edg : ¬ (49 ≤ (x.toNat : Int) ∧ (x.toNat : Int) ≤ 57) := fun h => hdg ⟨UInt8.le_iff_toNat_le.2 (by show 49 ≤ x.toNat; omega), UInt8.le_iff_toNat_le.2 (by show x.toNat ≤ 57; omega)⟩
    clear h40 h41 h123 h110 hdg hal
    generalize (x.toNat : Int) = d at *
    replace e40 : (d == 40) = false := e40
    replace e41 : (d == 41) = false := e41
    replace e123 : (d == 123) = false := e123
    replace e110 : (d == 110) = false := e110
    by_cases h49 : 49 ≤ d
    · have h57 : ¬ d ≤ 57 := fun h => edg ⟨h49, h⟩
      go_enter Tryz.func46, Tryz.ntmps46
      go_wp2
      go_quiet (fail)
      go_wp2
      go_quiet (fail)
      go_wp2_with (first
        | (go_at_call 65; refine (hA.out _).mono ?_; rintro y w3 ⟨rfl, rfl⟩)
        | (go_at_call 19; refine (wrong_at (hP.out _ (below_drewN hb0.out _)) i 10 (i : Int) 10 rfl rfl).mono ?_; intro x w2 hy; obtain ⟨rfl, hy⟩ := hy.ret; replace hy := Lib.hid (hfin.out _ _ (hy.from (ChP.of_below (below_drewN hb0.out _))))))
      go_ret
      exact hy.out
    · go_enter Tryz.func46, Tryz.ntmps46
      go_wp2
      go_quiet (fail)
      go_wp2
      go_quiet (fail)
      go_wp2_with (first
        | (go_at_call 65; refine (hA.out _).mono ?_; rintro y w3 ⟨rfl, rfl⟩)
        | (go_at_call 19; refine (wrong_at (hP.out _ (below_drewN hb0.out _)) i 10 (i : Int) 10 rfl rfl).mono ?_; intro x w2 hy; obtain ⟨rfl, hy⟩ := hy.ret; replace hy := Lib.hid (hfin.out _ _ (hy.from (ChP.of_below (below_drewN hb0.out _))))))
      go_ret
      exact hy.out

set_option maxHeartbeats 8000000 in
/-- The ways on which the byte behind the \ stands for a byte. -/
theorem escaped_set {x : UInt8} {r : List UInt8} {y : UInt8} (hx : l.drop i = 92 :: x :: r) (hc : inG = true → bg [92, 41] (l.drop i) = false) (hq : x = 110 ∧ y = 10 ∨ (x ≠ 40 ∧ x ≠ 41 ∧ x ≠ 123 ∧ x ≠ 110 ∧ ¬ (49 ≤ x ∧ x ≤ 57) ∧ isAl x = false ∧ y = x)) :
    Calls Tryz.prog 46 #[.pointer (some ⟨T, 0, none⟩)] w (YNode false w B T A n c l v ns g i cl inG) := by
  obtain ⟨hi, -, hr⟩ := drop_at hx
  obtain ⟨hi1, hx1, -⟩ := drop_at hr
  have hnl := h.hn
  have hns : n ≤ 100000 := h.txt.2.2.2.1
  have hin : i + 1 < n := by omega
  obtain ⟨p, hp⟩ : ∃ p, p = i + 1 := ⟨_, rfl⟩
  have hw1 : IntKind.i64.wrap ((i : Int) + 1) = (p : Int) := by rw [IntWalk.i64_in _ (by omega)]; omega
  have hne : ((p : Int) == (n : Int)) = false := by rw [beq_eq_false_iff_ne]; omega
  have hp0 : (0 : Int) ≤ (p : Int) := by omega
  have hp1 : (p : Int) < (n : Int) := by omega
  rw [← hp] at hx1
  replace hp := Lib.hid hp
  have hi0 : (i : Int) ≤ 100000 := by omega
  obtain ⟨ad, rfl, hcell⟩ := h.byte hx1
  have hnc : n ≤ c := h.inp.2.1
  have c2 := h.c2
  have c3 := h.c3
  have hP := Lib.hid (fun w1 (hb : Below w.heap.size w w1) => bset_any (h.keep hb) 2 2 rfl (by omega) (oneF y))
  have hb0 := Lib.hid (Below.refl w.heap.size w)
  have ha : escA i (x :: r) = .nod (i + 2) (setN (oneF y)) := by
    rcases hq with ⟨rfl, rfl⟩ | ⟨h40, h41, h123, h110, hdg, hal, rfl⟩
    · simp only [escA, ofL_one]; rfl
    · simp only [escA, ofL_one]; rw [if_neg h40, if_neg h41, if_neg h123, if_neg h110, if_neg hdg, if_neg (by rw [hal]; decide)]
  have hfin := Lib.hid (fun (w' : World) (z : Ending) (q : YPut w B T (some ad) n c l v ns g cl (i + 2) (setN (oneF y)) z w') => q.node (inG := inG) hi hc (by rw [atom_esc hx, ha]) (by omega))
  have hO := Lib.hid (fun w => of_one w y)
  clear h hx hr hx1 hnl hi hc hi1 ha
  rcases hq with ⟨rfl, rfl⟩ | ⟨h40, h41, h123, h110, hdg, hal, rfl⟩
  · replace hcell : w.cell? (ad.add p) = some (.int .u8 110) := hcell
    replace hO : Hid (∀ w : World, Calls Tryz.prog 50 #[.slice (some ⟨w.heap.size, 0, none⟩) 1 1] (w.alloc (.cells #[.int .u8 10] 5)) fun e w' => e = .returned (.agg (setC (oneF 10))) ∧ Below w.heap.size w w') := hO
    go_enter Tryz.func46, Tryz.ntmps46
    go_wp2
    go_quiet (fail)
    go_wp2
    go_quiet (fail)
    go_wp2_with (first
      | (go_at_call 50; refine (hO.out _).mono ?_; rintro z w3 ⟨rfl, hb3⟩; replace hb3 := Lib.hid ((below_drewN hb0.out _).trans hb3))
      | (go_at_call 48; refine (hP.out _ hb3.out).mono ?_; intro x w2 hy; obtain ⟨z, rfl, hy⟩ := hy.ret; replace hy := Lib.hid (hfin.out _ _ (hy.from (ChP.of_below hb3.out)))))
    go_ret
    exact hy.out
  · have hA := Lib.hid (fun w => isAlnum_bre y w)
    rw [hal] at hA
    have e40 := u8_ne h40
    have e41 := u8_ne h41
    have e123 := u8_ne h123
    have e110 := u8_ne h110
    have edg : ¬ (49 ≤ (y.toNat : Int) ∧ (y.toNat : Int) ≤ 57) := fun h => hdg ⟨UInt8.le_iff_toNat_le.2 (by show 49 ≤ y.toNat; omega), UInt8.le_iff_toNat_le.2 (by show y.toNat ≤ 57; omega)⟩
    clear h40 h41 h123 h110 hdg hal
    generalize (y.toNat : Int) = d at *
    replace e40 : (d == 40) = false := e40
    replace e41 : (d == 41) = false := e41
    replace e123 : (d == 123) = false := e123
    replace e110 : (d == 110) = false := e110
    by_cases h49 : 49 ≤ d
    · have h57 : ¬ d ≤ 57 := fun h => edg ⟨h49, h⟩
      go_enter Tryz.func46, Tryz.ntmps46
      go_wp2
      go_quiet (fail)
      go_wp2
      go_quiet (fail)
      go_wp2_with (first
        | (go_at_call 65; refine (hA.out _).mono ?_; rintro z w4 ⟨rfl, rfl⟩)
        | (go_at_call 50; refine (hO.out _).mono ?_; rintro z w3 ⟨rfl, hb3⟩; replace hb3 := Lib.hid ((below_drewN hb0.out _).trans hb3))
        | (go_at_call 48; refine (hP.out _ hb3.out).mono ?_; intro x w2 hy; obtain ⟨z, rfl, hy⟩ := hy.ret; replace hy := Lib.hid (hfin.out _ _ (hy.from (ChP.of_below hb3.out)))))
      go_ret
      exact hy.out
    · go_enter Tryz.func46, Tryz.ntmps46
      go_wp2
      go_quiet (fail)
      go_wp2
      go_quiet (fail)
      go_wp2_with (first
        | (go_at_call 65; refine (hA.out _).mono ?_; rintro z w4 ⟨rfl, rfl⟩)
        | (go_at_call 50; refine (hO.out _).mono ?_; rintro z w3 ⟨rfl, hb3⟩; replace hb3 := Lib.hid ((below_drewN hb0.out _).trans hb3))
        | (go_at_call 48; refine (hP.out _ hb3.out).mono ?_; intro x w2 hy; obtain ⟨z, rfl, hy⟩ := hy.ret; replace hy := Lib.hid (hfin.out _ _ (hy.from (ChP.of_below hb3.out)))))
      go_ret
      exact hy.out

set_option maxHeartbeats 8000000 in
/-- A group, and what a group took. -/
theorem escaped_more {x : UInt8} {r : List UInt8} (hx : l.drop i = 92 :: x :: r) (hc : inG = true → bg [92, 41] (l.drop i) = false) (hB : ∀ k, k < n - i → BrOK k) (hq : x = 40 ∨ (49 ≤ x ∧ x ≤ 57)) :
    Calls Tryz.prog 46 #[.pointer (some ⟨T, 0, none⟩)] w (YNode false w B T A n c l v ns g i cl inG) := by
  obtain ⟨hi, -, hr⟩ := drop_at hx
  obtain ⟨hi1, hx1, -⟩ := drop_at hr
  have hnl := h.hn
  have hns : n ≤ 100000 := h.txt.2.2.2.1
  have hin : i + 1 < n := by omega
  obtain ⟨p, hp⟩ : ∃ p, p = i + 1 := ⟨_, rfl⟩
  have hw1 : IntKind.i64.wrap ((i : Int) + 1) = (p : Int) := by rw [IntWalk.i64_in _ (by omega)]; omega
  have hne : ((p : Int) == (n : Int)) = false := by rw [beq_eq_false_iff_ne]; omega
  have hp0 : (0 : Int) ≤ (p : Int) := by omega
  have hp1 : (p : Int) < (n : Int) := by omega
  rw [← hp] at hx1
  replace hp := Lib.hid hp
  have hi0 : (i : Int) ≤ 100000 := by omega
  obtain ⟨ad, rfl, hcell⟩ := h.byte hx1
  have hnc : n ≤ c := h.inp.2.1
  have c2 := h.c2
  have c3 := h.c3
  have hb0 := Lib.hid (Below.refl w.heap.size w)
  rcases hq with rfl | ⟨h49, h57⟩
  · have hG := Lib.hid (fun w1 (hb : Below w.heap.size w w1) => bgroup_any (inG := inG) (h.keep hb) (by rw [hx]; rfl) hB)
    replace hcell : w.cell? (ad.add p) = some (.int .u8 40) := hcell
    clear h hx hr hx1 hnl hi hc hi1 hB
    go_enter Tryz.func46, Tryz.ntmps46
    go_wp2
    go_quiet (fail)
    go_wp2
    go_quiet (fail)
    go_wp2_with (go_at_call 63; refine (hG.out _ (below_drewN hb0.out _)).mono ?_; intro x w2 hy; obtain ⟨z, rfl, hy⟩ := hy.ret; replace hy := Lib.hid (hy.from (ChP.of_below (below_drewN hb0.out _))))
    go_ret
    exact hy.out
  · have h1 : 49 ≤ x.toNat := UInt8.le_iff_toNat_le.1 h49
    have h2 : x.toNat ≤ 57 := UInt8.le_iff_toNat_le.1 h57
    have ha : escA i (x :: r) = .bak (x.toNat - 48) := by
      simp only [escA]
      rw [if_neg (by rintro rfl; simp at h1), if_neg (by rintro rfl; simp at h1), if_neg (by rintro rfl; simp at h2), if_neg (by rintro rfl; simp at h2), if_pos ⟨h49, h57⟩]
    obtain ⟨q, hqx⟩ : ∃ q, x.toNat = 48 + q := ⟨x.toNat - 48, by omega⟩
    rw [show x.toNat - 48 = q by omega] at ha
    have ha' : atomA l i = .bak q := by rw [atom_esc hx, ha]
    rw [show (x.toNat : Int) = 48 + (q : Int) by omega] at hcell
    have hq1 : 1 ≤ q := by omega
    have hq9 : q ≤ 9 := by omega
    have e40 : ((48 : Int) + (q : Int) == 40) = false := by rw [beq_eq_false_iff_ne]; omega
    have e41 : ((48 : Int) + (q : Int) == 41) = false := by rw [beq_eq_false_iff_ne]; omega
    have e123 : ((48 : Int) + (q : Int) == 123) = false := by rw [beq_eq_false_iff_ne]; omega
    have e110 : ((48 : Int) + (q : Int) == 110) = false := by rw [beq_eq_false_iff_ne]; omega
    have d49 : (49 : Int) ≤ 48 + (q : Int) := by omega
    have d57 : (48 : Int) + (q : Int) ≤ 57 := by omega
    have hw2 : IntKind.u8.wrap ((48 : Int) + (q : Int) - 48) = (q : Int) := by rw [IntWalk.u8_in _ (by omega)]; omega
    have hw3 : IntKind.i64.wrap (q : Int) = (q : Int) := IntWalk.i64_in _ (by omega)
    cases hcl : cl q with
    | true =>
      have hP := Lib.hid (fun w1 (hb : Below w.heap.size w w1) => back_yes (h.keep hb) q hq9 hcl (by omega))
      have hfin := Lib.hid (fun (w' : World) (z : Ending) (y : YPut w B T (some ad) n c l v ns g cl (i + 2) (backN (q : Int)) z w') => y.bak (inG := inG) hi hc ha' hcl)
      clear h hx hr hx1 hnl hi hc hi1 hB ha ha' hcl h49 h57 h1 h2 hqx
      go_enter Tryz.func46, Tryz.ntmps46
      go_wp2
      go_quiet (fail)
      go_wp2
      go_quiet (fail)
      go_wp2_with (go_at_call 64; refine (hP.out _ (below_drewN hb0.out _)).mono ?_; intro x w2 hy; obtain ⟨z, rfl, hy⟩ := hy.ret; replace hy := Lib.hid (hfin.out _ _ (hy.from (ChP.of_below (below_drewN hb0.out _)))))
      go_ret
      exact hy.out
    | false =>
      have hP := Lib.hid (fun w1 (hb : Below w.heap.size w w1) => back_no (h.keep hb) q hq9 hcl)
      have hfin := Lib.hid (fun (w' : World) (z : Ending) (y : YBad w B T (some ad) n c l v i 16 z w') => y.node (inG := inG) (ns := ns) (g := g) (cl := cl) hi hc (fun ps lv => by rw [ha']; simp [stepA, hcl]) (by decide))
      clear h hx hr hx1 hnl hi hc hi1 hB ha ha' hcl h49 h57 h1 h2 hqx
      go_enter Tryz.func46, Tryz.ntmps46
      go_wp2
      go_quiet (fail)
      go_wp2
      go_quiet (fail)
      go_wp2_with (go_at_call 64; refine (hP.out _ (below_drewN hb0.out _)).mono ?_; intro x w2 hy; obtain ⟨rfl, hy⟩ := hy.ret; replace hy := Lib.hid (hfin.out _ _ (hy.from (ChP.of_below (below_drewN hb0.out _)))))
      go_ret
      exact hy.out

theorem escaped_any {r : List UInt8} (hx : l.drop i = 92 :: r) (hc : inG = true → bg [92, 41] (l.drop i) = false) (hB : ∀ k, k < n - i → BrOK k) :
    Calls Tryz.prog 46 #[.pointer (some ⟨T, 0, none⟩)] w (YNode false w B T A n c l v ns g i cl inG) := by
  cases r with
  | nil => exact escaped_0 h hx
  | cons x r =>
    by_cases h40 : x = 40
    · exact escaped_more h hx hc hB (.inl h40)
    by_cases h41 : x = 41
    · exact escaped_bad h hx hc (.inl ⟨h41, rfl⟩)
    by_cases h123 : x = 123
    · exact escaped_bad h hx hc (.inr (.inl ⟨h123, rfl⟩))
    by_cases h110 : x = 110
    · exact escaped_set h hx hc (.inl ⟨h110, rfl⟩)
    by_cases hdg : 49 ≤ x ∧ x ≤ 57
    · exact escaped_more h hx hc hB (.inr hdg)
    cases hal : isAl x with
    | true => exact escaped_bad h hx hc (.inr (.inr ⟨h40, h41, h123, h110, hdg, hal, rfl⟩))
    | false => exact escaped_set h hx hc (.inr ⟨h40, h41, h123, h110, hdg, hal, rfl⟩)
end
end Go.Proofs.YtcloimdndcbchaaGreat
