/- Contracts of the parser: atom, piece, given those of branch. -/
import Derived.Test.YtcloimdndcbchaaGreatM32
set_option linter.unusedVariables false
set_option maxRecDepth 100000
namespace Go.Proofs.YtcloimdndcbchaaGreat
open Go.RowKit

theorem of_none (w : World) : Calls Tryz.prog 50 #[.slice none 0 0] w fun e w' => e = .returned (.agg (setC (ofL []))) ∧ Below w.heap.size w w' :=
  of_any none 0 0 [] 0 w rfl (Nat.le_refl _) (by decide) (Nat.zero_le _) (Byt.none_ _ _ _)
theorem not_none (w : World) : Calls Tryz.prog 49 #[.agg (setC (ofL []))] w fun e w' => e = .returned (.agg (setC allS)) ∧ Below w.heap.size w w' := not_at (ofL []) w
theorem atom_at {t : List UInt8} {i : Nat} {c : UInt8} {r : List UInt8} (h : t.drop i = c :: r) : atomA t i = atomR t i (c :: r) := by
  unfold atomA; rw [h]
section
variable {w : World} {B T : Nat} {A : Option Addr} {n c : Nat} {l : List UInt8} {v : Value} {ns : List Nod} {g i : Nat} {cl : Nat → Bool} (h : Psr w B T A n c l v ns g i cl 0 0) {inG : Bool}
include h

set_option maxHeartbeats 8000000 in
theorem atom_esc_any {r : List UInt8} (hx : l.drop i = 92 :: r) (hc : inG = true → bg [92, 41] (l.drop i) = false) (hB : ∀ k, k < n - i → BrOK k) :
    Calls Tryz.prog 30 #[.pointer (some ⟨T, 0, none⟩)] w (YNode false w B T A n c l v ns g i cl inG) := by
  obtain ⟨hi, hx1, -⟩ := drop_at hx
  have hnl := h.hn
  have hns : n ≤ 100000 := h.txt.2.2.2.1
  have hp1 : (i : Int) < (n : Int) := by omega
  have hp0 : (0 : Int) ≤ (i : Int) := by omega
  obtain ⟨ad, rfl, hcell⟩ := h.byte hx1
  replace hcell : w.cell? (ad.add i) = some (.int .u8 92) := hcell
  have hnc : n ≤ c := h.inp.2.1
  have c2 := h.c2
  have c3 := h.c3
  have hb0 := Lib.hid (Below.refl w.heap.size w)
  have hG := Lib.hid (fun w1 (hb : Below w.heap.size w w1) => escaped_any (inG := inG) (h.keep hb) hx hc hB)
  clear h hx hx1 hnl hi hc hB
  go_enter Tryz.func30, Tryz.ntmps30
  go_wp2
  go_quiet (fail)
  go_wp2_with (go_at_call 46; refine (hG.out _ (below_drewN hb0.out _)).mono ?_; intro x w2 hy; obtain ⟨z, rfl, hy⟩ := hy.ret; replace hy := Lib.hid (hy.from (ChP.of_below (below_drewN hb0.out _))))
  go_ret
  exact hy.out

set_option maxHeartbeats 8000000 in
theorem atom_brk_any {r : List UInt8} (hx : l.drop i = 91 :: r) (hc : inG = true → bg [92, 41] (l.drop i) = false) :
    Calls Tryz.prog 30 #[.pointer (some ⟨T, 0, none⟩)] w (YNode false w B T A n c l v ns g i cl inG) := by
  obtain ⟨hi, hx1, -⟩ := drop_at hx
  have hnl := h.hn
  have hns : n ≤ 100000 := h.txt.2.2.2.1
  have hp1 : (i : Int) < (n : Int) := by omega
  have hp0 : (0 : Int) ≤ (i : Int) := by omega
  have hin : i < n := by omega
  obtain ⟨ad, rfl, hcell⟩ := h.byte hx1
  replace hcell : w.cell? (ad.add i) = some (.int .u8 91) := hcell
  have hnc : n ≤ c := h.inp.2.1
  have c2 := h.c2
  have c3 := h.c3
  have hb0 := Lib.hid (Below.refl w.heap.size w)
  have ha : atomA l i = brkA l i := by rw [atom_at hx]; rfl
  have hG : Hid (∀ w1, Below w.heap.size w w1 → Calls Tryz.prog 47 #[.pointer (some ⟨T, 0, none⟩)] w1 (YNode false w1 B T (some ad) n c l v ns g i cl inG)) := by
    refine Lib.hid fun w1 hb => ?_
    cases hv : readB l (i + 1) with
    | error e =>
      have he := readB_wrong hv
      exact (bracket_no (h.keep hb) hin hv).mono fun _ _ y => y.node hi hc (fun ps lv => by rw [ha]; unfold brkA; rw [hv]; rfl) (by omega)
    | ok p =>
      obtain ⟨f, j⟩ := p
      have hj := readB_size (by omega) hv
      exact (bracket_yes (h.keep hb) hin hv).mono fun _ _ y => y.node hi hc (by rw [ha]; unfold brkA; rw [hv]) (by omega)
  clear h hx hx1 hnl hi hc ha hin
  go_enter Tryz.func30, Tryz.ntmps30
  go_wp2
  go_quiet (fail)
  go_wp2_with (go_at_call 47; refine (hG.out _ (below_drewN hb0.out _)).mono ?_; intro x w2 hy; obtain ⟨z, rfl, hy⟩ := hy.ret; replace hy := Lib.hid (hy.from (ChP.of_below (below_drewN hb0.out _))))
  go_ret
  exact hy.out

set_option maxHeartbeats 8000000 in
theorem atom_dot_any {r : List UInt8} (hx : l.drop i = 46 :: r) (hc : inG = true → bg [92, 41] (l.drop i) = false) :
    Calls Tryz.prog 30 #[.pointer (some ⟨T, 0, none⟩)] w (YNode false w B T A n c l v ns g i cl inG) := by
  obtain ⟨hi, hx1, -⟩ := drop_at hx
  have hnl := h.hn
  have hns : n ≤ 100000 := h.txt.2.2.2.1
  have hp1 : (i : Int) < (n : Int) := by omega
  have hp0 : (0 : Int) ≤ (i : Int) := by omega
  have hin : i < n := by omega
  obtain ⟨ad, rfl, hcell⟩ := h.byte hx1
  replace hcell : w.cell? (ad.add i) = some (.int .u8 46) := hcell
  have hnc : n ≤ c := h.inp.2.1
  have c2 := h.c2
  have c3 := h.c3
  have hb0 := Lib.hid (Below.refl w.heap.size w)
  have ha : atomA l i = .nod (i + 1) (setN allS) := by rw [atom_at hx]; rfl
  have hfin := Lib.hid (fun (w' : World) (z : Ending) (q : YPut w B T (some ad) n c l v ns g cl (i + 1) (setN allS) z w') => q.node (inG := inG) hi hc ha (by omega))
  have hP := Lib.hid (fun w1 (hb : Below w.heap.size w w1) => bset_any (h.keep hb) 1 1 rfl (by omega) allS)
  have hO := Lib.hid of_none
  have hN := Lib.hid not_none
  clear h hx hx1 hnl hi hc ha hin
  go_enter Tryz.func30, Tryz.ntmps30
  go_wp2
  go_quiet (fail)
  go_wp2_with (first
    | (go_at_call 50; refine (hO.out _).mono ?_; rintro z w3 ⟨rfl, hb3⟩; replace hb3 := Lib.hid ((below_drewN hb0.out _).trans hb3))
    | (go_at_call 49; refine (hN.out _).mono ?_; rintro z w4 ⟨rfl, hb4⟩; replace hb4 := Lib.hid (hb3.out.trans (hb4.mono hb3.out.size)))
    | (go_at_call 48; refine (hP.out _ hb4.out).mono ?_; intro x w2 hy; obtain ⟨z, rfl, hy⟩ := hy.ret; replace hy := Lib.hid (hfin.out _ _ (hy.from (ChP.of_below hb4.out)))))
  go_ret
  exact hy.out

set_option maxHeartbeats 8000000 in
theorem atom_eol_any {r : List UInt8} (hx : l.drop i = 36 :: r) (hr : r = [] ∨ bg [92, 41] r = true) (hc : inG = true → bg [92, 41] (l.drop i) = false) :
    Calls Tryz.prog 30 #[.pointer (some ⟨T, 0, none⟩)] w (YNode false w B T A n c l v ns g i cl inG) := by
  obtain ⟨hi, hx1, hd⟩ := drop_at hx
  have hnl := h.hn
  have hns : n ≤ 100000 := h.txt.2.2.2.1
  have hp1 : (i : Int) < (n : Int) := by omega
  have hp0 : (0 : Int) ≤ (i : Int) := by omega
  have hin : i < n := by omega
  have hi0 : (i : Int) ≤ 100000 := by omega
  obtain ⟨ad, rfl, hcell⟩ := h.byte hx1
  replace hcell : w.cell? (ad.add i) = some (.int .u8 36) := hcell
  have hnc : n ≤ c := h.inp.2.1
  have c2 := h.c2
  have c3 := h.c3
  have hb0 := Lib.hid (Below.refl w.heap.size w)
  have ha : atomA l i = .nod (i + 1) eolN := by
    rw [atom_at hx]; simp only [atomR]
    rw [if_neg (by decide), if_neg (by decide), if_neg (by decide), if_pos ⟨trivial, hr⟩]
  have hfin := Lib.hid (fun (w' : World) (z : Ending) (q : YPut w B T (some ad) n c l v ns g cl (i + 1) eolN z w') => q.node (inG := inG) hi hc ha (by omega))
  have hL := Lib.hid (fun w1 (hb : Below w.heap.size w w1) => last_any (h.keep hb) hin)
  rw [show (decide (n = i + 1) || bg [92, 41] (l.drop (i + 1))) = true from by
    rw [hd]
    rcases hr with rfl | hr
    · have := congrArg List.length hd
      rw [List.length_drop] at this
      simp at this
      simp; omega
    · rw [hr]; simp] at hL
  have hP := Lib.hid (fun w1 (hb : Below w.heap.size w w1) => h.keep hb)
  have hi1 : i + 1 ≤ n := hin
  clear h hx hx1 hnl hi hc ha hin hd hr
  by_cases hl : ns.length < 1000
  · have hl' := Lib.hid hl
    go_enter Tryz.func30, Tryz.ntmps30
    go_wp2
    go_quiet (fail)
    go_wp2_with (first
      | (go_at_call 51; refine (hL.out _ (below_drewN hb0.out _)).mono ?_; rintro z w3 ⟨rfl, hb3⟩; replace hb3 := (below_drewN hb0.out _).trans (hb3.mono (below_drewN hb0.out _).size); have k3 := (hP.out _ hb3).c3; have t3 := (hP.out _ hb3).thawed 3; have h1 := Lib.hid ((hP.out _ hb3).goto' hi1 (z := (i : Int) + 1) (by omega)); replace hb3 := Lib.hid hb3)
      | (go_at_call 52; refine (eol_any B T 0 v ns g _ h1.out.bldr).mono ?_; intro x w4 hx2; obtain ⟨v2, rfl, h2, k2⟩ := h1.out.room hl'.out (fits_plain 8 (.inr (.inr rfl)) _ _) hx2; clear hx2; replace h2 := Lib.hid h2; replace k2 := Lib.hid (((ChP.of_below hb3.out).trans (ChP.store w3 T 3 (.int .i64 ((i : Int) + 1)) v)).trans k2))
      | (go_at_call 15; refine (put_yes T ns.length _).mono ?_; rintro x w5 ⟨rfl, rfl⟩))
    go_ret
    exact hfin.out _ _ (YPut.yes hl'.out h2.out k2.out)
  · have hl' := Lib.hid hl
    go_enter Tryz.func30, Tryz.ntmps30
    go_wp2
    go_quiet (fail)
    go_wp2_with (first
      | (go_at_call 51; refine (hL.out _ (below_drewN hb0.out _)).mono ?_; rintro z w3 ⟨rfl, hb3⟩; replace hb3 := (below_drewN hb0.out _).trans (hb3.mono (below_drewN hb0.out _).size); have k3 := (hP.out _ hb3).c3; have t3 := (hP.out _ hb3).thawed 3; have h1 := Lib.hid ((hP.out _ hb3).goto' hi1 (z := (i : Int) + 1) (by omega)); replace hb3 := Lib.hid hb3)
      | (go_at_call 52; refine (eol_any B T 0 v ns g _ h1.out.bldr).mono ?_; intro x w4 hx2; obtain ⟨v2, rfl, h2, k2⟩ := h1.out.full hl'.out hx2; clear hx2; replace h2 := Lib.hid h2; replace k2 := Lib.hid (((ChP.of_below hb3.out).trans (ChP.store w3 T 3 (.int .i64 ((i : Int) + 1)) v)).trans k2))
      | (go_at_call 15; refine (put_no h2.out).mono ?_; rintro x w5 ⟨rfl, h3, k3⟩; replace h3 := Lib.hid h3; replace k3 := Lib.hid (k2.out.trans k3)))
    go_ret
    exact hfin.out _ _ (YPut.no hl'.out h3.out k3.out)

set_option maxHeartbeats 8000000 in
theorem atom_byte_any {x : UInt8} {r : List UInt8} (hx : l.drop i = x :: r) (h92 : x ≠ 92) (h91 : x ≠ 91) (h46 : x ≠ 46) (h36 : x ≠ 36 ∨ ¬ (r = [] ∨ bg [92, 41] r = true)) (hc : inG = true → bg [92, 41] (l.drop i) = false) :
    Calls Tryz.prog 30 #[.pointer (some ⟨T, 0, none⟩)] w (YNode false w B T A n c l v ns g i cl inG) := by
  obtain ⟨hi, hx1, hd⟩ := drop_at hx
  have hnl := h.hn
  have hns : n ≤ 100000 := h.txt.2.2.2.1
  have hp1 : (i : Int) < (n : Int) := by omega
  have hp0 : (0 : Int) ≤ (i : Int) := by omega
  have hin : i < n := by omega
  obtain ⟨ad, rfl, hcell⟩ := h.byte hx1
  have hnc : n ≤ c := h.inp.2.1
  have c2 := h.c2
  have c3 := h.c3
  have hb0 := Lib.hid (Below.refl w.heap.size w)
  have ha : atomA l i = .nod (i + 1) (setN (oneF x)) := by
    rw [atom_at hx]; simp only [atomR, ofL_one]
    rw [if_neg h92, if_neg h91, if_neg h46, if_neg (by rintro ⟨e, k⟩; rcases h36 with h36 | h36 <;> exact absurd (by assumption) h36)]
  have hfin := Lib.hid (fun (w' : World) (z : Ending) (q : YPut w B T (some ad) n c l v ns g cl (i + 1) (setN (oneF x)) z w') => q.node (inG := inG) hi hc ha (by omega))
  have hP := Lib.hid (fun w1 (hb : Below w.heap.size w w1) => bset_any (h.keep hb) 1 1 rfl (by omega) (oneF x))
  have hO := Lib.hid (fun w => of_one w x)
  have e92 := u8_ne h92
  have e91 := u8_ne h91
  have e46 := u8_ne h46
  by_cases hx36 : x = 36
  · subst hx36
    have hr : ¬ (r = [] ∨ bg [92, 41] r = true) := h36.resolve_left (fun h => h rfl)
    have hL := Lib.hid (fun w1 (hb : Below w.heap.size w w1) => last_any (h.keep hb) hin)
    rw [show (decide (n = i + 1) || bg [92, 41] (l.drop (i + 1))) = false from by
      rw [hd]
      have h1 : bg [92, 41] r = false := by
        cases hb : bg [92, 41] r with
        | false => rfl
        | true => exact absurd (.inr hb) hr
      rw [h1]
      have h2 : ¬ n = i + 1 := fun e => hr (.inl (by
        have := congrArg List.length hd
        rw [List.length_drop] at this
        exact List.length_eq_zero_iff.1 (by omega)))
      simp [h2]] at hL
    replace hcell : w.cell? (ad.add i) = some (.int .u8 36) := hcell
    replace hO : Hid (∀ w : World, Calls Tryz.prog 50 #[.slice (some ⟨w.heap.size, 0, none⟩) 1 1] (w.alloc (.cells #[.int .u8 36] 5)) fun e w' => e = .returned (.agg (setC (oneF 36))) ∧ Below w.heap.size w w') := hO
    clear h hx hx1 hnl hi hc ha hin hd hr h36 e92 e91 e46 h92 h91 h46
    go_enter Tryz.func30, Tryz.ntmps30
    go_wp2
    go_quiet (fail)
    go_wp2_with (first
      | (go_at_call 51; refine (hL.out _ (below_drewN hb0.out _)).mono ?_; rintro z w3 ⟨rfl, hb3⟩; replace hb3 := Lib.hid ((below_drewN hb0.out _).trans (hb3.mono (below_drewN hb0.out _).size)))
      | (go_at_call 50; refine (hO.out _).mono ?_; rintro z w4 ⟨rfl, hb4⟩; replace hb4 := Lib.hid (hb3.out.trans (hb4.mono hb3.out.size)))
      | (go_at_call 48; refine (hP.out _ hb4.out).mono ?_; intro x w2 hy; obtain ⟨z, rfl, hy⟩ := hy.ret; replace hy := Lib.hid (hfin.out _ _ (hy.from (ChP.of_below hb4.out)))))
    go_ret
    exact hy.out
  · have e36 := u8_ne hx36
    clear h hx hx1 hnl hi hc ha hin hd h36 h92 h91 h46 hx36
    generalize (x.toNat : Int) = d at *
    replace e92 : (d == 92) = false := e92
    replace e91 : (d == 91) = false := e91
    replace e46 : (d == 46) = false := e46
    replace e36 : (d == 36) = false := e36
    go_enter Tryz.func30, Tryz.ntmps30
    go_wp2
    go_quiet (fail)
    go_wp2_with (first
      | (go_at_call 50; refine (hO.out _).mono ?_; rintro z w4 ⟨rfl, hb4⟩; replace hb4 := Lib.hid ((below_drewN hb0.out _).trans hb4))
      | (go_at_call 48; refine (hP.out _ hb4.out).mono ?_; intro x w2 hy; obtain ⟨z, rfl, hy⟩ := hy.ret; replace hy := Lib.hid (hfin.out _ _ (hy.from (ChP.of_below hb4.out)))))
    go_ret
    exact hy.out

theorem atom_any (hi : i < n) (hc : inG = true → bg [92, 41] (l.drop i) = false) (hB : ∀ k, k < n - i → BrOK k) :
    Calls Tryz.prog 30 #[.pointer (some ⟨T, 0, none⟩)] w (YNode false w B T A n c l v ns g i cl inG) := by
  have hnl := h.hn
  cases hx : l.drop i with
  | nil =>
    have := congrArg List.length hx
    rw [List.length_drop] at this
    simp at this; omega
  | cons x r =>
    by_cases h92 : x = 92
    · subst h92; exact atom_esc_any h hx hc hB
    by_cases h91 : x = 91
    · subst h91; exact atom_brk_any h hx hc
    by_cases h46 : x = 46
    · subst h46; exact atom_dot_any h hx hc
    by_cases hr : x = 36 ∧ (r = [] ∨ bg [92, 41] r = true)
    · obtain ⟨rfl, hr⟩ := hr
      exact atom_eol_any h hx hr hc
    · refine atom_byte_any h hx h92 h91 h46 ?_ hc
      by_cases h36 : x = 36
      · exact .inr fun h => hr ⟨h36, h⟩
      · exact .inl h36
end
end Go.Proofs.YtcloimdndcbchaaGreat

namespace Go.Proofs.YtcloimdndcbchaaGreat
open Go.RowKit

/-- What is left, by the parser's own cells. -/
def leftP (n T : Nat) (w : World) : Nat :=
  match w.cell? ⟨T, 15, none⟩, w.cell? ⟨T, 3, none⟩ with
  | some (.int _ 0), some (.int _ i) => n + 1 - i.toNat
  | _, _ => 0
section
variable {w : World} {B T : Nat} {A : Option Addr} {n c : Nat} {l : List UInt8} {v : Value} {ns : List Nod} {g i : Nat} {cl : Nat → Bool} {pl e : Nat}
theorem Psr.left (h : Psr w B T A n c l v ns g i cl pl 0) : leftP n T w = n + 1 - i := by
  unfold leftP; rw [h.c15, h.c3]; simp
theorem Psr.left0 (h : Psr w B T A n c l v ns g i cl pl e) (he : e ≠ 0) : leftP n T w = 0 := by
  unfold leftP; rw [h.c15, h.c3]
  split
  · rename_i h1 _
    simp at h1; omega
  · rfl
end
section
variable {t : List UInt8} {i : Nat} {ns : List Nod} {g : Nat} {cl : Nat → Bool} {ps : List Int} {lv : List (Nat × List Int)} {x : Int}
theorem step_star (hb : bg [42] (t.drop i) = true) (hl : ns.length < 1000) : step t ⟨.P x, i, ns, g, cl, ps, lv⟩ = .go ⟨.P (ns.length : Int), i + 1, ns ++ [repN x 0 (-1)], g, cl, ps, lv⟩ := by
  show stepP t _ x = _
  simp only [stepP, putS]
  rw [if_pos hb, if_pos hl]
theorem step_star_full (hb : bg [42] (t.drop i) = true) (hl : ¬ ns.length < 1000) : step t ⟨.P x, i, ns, g, cl, ps, lv⟩ = .bad (i + 1) 8 := by
  show stepP t _ x = _
  simp only [stepP, putS]
  rw [if_pos hb, if_neg hl]
theorem step_ivl (ha : bg [42] (t.drop i) = false) (hb : bg [92, 123] (t.drop i) = true) {lo hi : Int} {j : Nat} (hv : ivl t i = some (lo, hi, j)) (hl : ns.length < 1000) : step t ⟨.P x, i, ns, g, cl, ps, lv⟩ = .go ⟨.P (ns.length : Int), j, ns ++ [repN x lo hi], g, cl, ps, lv⟩ := by
  show stepP t _ x = _
  simp only [stepP, putS]
  rw [if_neg (by rw [ha]; decide), if_pos hb, hv]
  simp only
  rw [if_pos hl]
theorem step_ivl_full (ha : bg [42] (t.drop i) = false) (hb : bg [92, 123] (t.drop i) = true) {lo hi : Int} {j : Nat} (hv : ivl t i = some (lo, hi, j)) (hl : ¬ ns.length < 1000) : step t ⟨.P x, i, ns, g, cl, ps, lv⟩ = .bad j 8 := by
  show stepP t _ x = _
  simp only [stepP, putS]
  rw [if_neg (by rw [ha]; decide), if_pos hb, hv]
  simp only
  rw [if_neg hl]
theorem step_ivl_bad (ha : bg [42] (t.drop i) = false) (hb : bg [92, 123] (t.drop i) = true) (hv : ivl t i = none) : step t ⟨.P x, i, ns, g, cl, ps, lv⟩ = .bad i 13 := by
  show stepP t _ x = _
  simp only [stepP, putS]
  rw [if_neg (by rw [ha]; decide), if_pos hb, hv]
theorem step_off (ha : bg [42] (t.drop i) = false) (hb : bg [92, 123] (t.drop i) = false) : step t ⟨.P x, i, ns, g, cl, ps, lv⟩ = .go ⟨.L, i, ns, g, cl, ps ++ [x], lv⟩ := by
  show stepP t _ x = _
  simp only [stepP, putS]
  rw [if_neg (by rw [ha]; decide), if_neg (by rw [hb]; decide)]
theorem ivl_size {lo hi : Int} {j : Nat} (hv : ivl t i = some (lo, hi, j)) (hi' : i ≤ t.length) : i < j ∧ j ≤ t.length ∧ timesN lo hi = true := by
  unfold ivl at hv
  obtain ⟨⟨a, b, k⟩, h1, h2⟩ := Option.map_eq_some_iff.1 hv
  simp only [Prod.mk.injEq] at h2
  obtain ⟨rfl, rfl, rfl⟩ := h2
  have := ivB_ok h1
  rw [List.length_drop] at this
  exact ⟨by omega, by omega, this.2.1⟩
end

section
variable {w : World} {B T : Nat} {A : Option Addr} {n c : Nat} {l : List UInt8} {v : Value} {ns : List Nod} {g i : Nat} {cl : Nat → Bool} (h : Psr w B T A n c l v ns g i cl 0 0) {inG : Bool}
include h
theorem comes_is (s : ByteArray) (r : Bool) (hr : bg s.data.toList (l.drop i) = r) : Calls Tryz.prog 14 #[.pointer (some ⟨T, 0, none⟩), .string s] w fun e w' => e = .returned (.bool r) ∧ Below w.heap.size w w' := by
  have := comes_any h s
  rwa [hr] at this
/-- Behind a repetition. -/
theorem YPut.again {w0 w' : World} {v0 : Value} {ns0 : List Nod} {g0 i0 j : Nat} {cl0 : Nat → Bool} {nd : Nod} {x : Int} {e : Ending} (y : YPut w B T A n c l v ns g cl j nd e w') (h0 : ChP w0 w T v0 v) (hn : ns0.length ≤ ns.length) (hg : g0 ≤ g) (hi : i0 < i) (hj : i < j)
    (hs : ∀ ps lv, lv.isEmpty = !inG → Steps l ⟨.L, i0, ns0, g0, cl0, ps, lv⟩ ⟨.P x, i, ns, g, cl, ps, lv⟩)
    (hy : ∀ ps lv, ns.length < 1000 → step l ⟨.P x, i, ns, g, cl, ps, lv⟩ = .go ⟨.P (ns.length : Int), j, ns ++ [nd], g, cl, ps, lv⟩)
    (hz : ∀ ps lv, ¬ ns.length < 1000 → step l ⟨.P x, i, ns, g, cl, ps, lv⟩ = .bad j 8) : YNode false w0 B T A n c l v0 ns0 g0 i0 cl0 inG e w' ∧ leftP n T w' < leftP n T w := by
  have hle := h.le
  rcases y with ⟨hl, v', rfl, k, m⟩ | ⟨hl, v', rfl, k, m⟩
  · refine ⟨.inl ⟨_, v', _, _, _, _, rfl, ?_, k, h0.trans m, ?_, hg, by omega, fun ps lv hlv => (hs ps lv hlv).snoc (hy ps lv hl)⟩, ?_⟩
    · rw [List.length_append]; exact okP_last _
    · rw [List.length_append]; omega
    · rw [k.left, h.left]; omega
  · refine ⟨.inr ⟨v', _, _, _, _, _, _, by decide, rfl, k, h0.trans m, fun ps lv hlv => (hs ps lv hlv).ends (.bad (hz ps lv hl))⟩, ?_⟩
    rw [k.left0 (by decide), h.left]; omega

set_option maxHeartbeats 16000000 in
theorem piece_any (hi : i < n) (hc : inG = true → bg [92, 41] (l.drop i) = false) (hB : ∀ k, k < n - i → BrOK k) :
    Calls Tryz.prog 18 #[.pointer (some ⟨T, 0, none⟩)] w (YNode true w B T A n c l v ns g i cl inG) := by
  have hA := Lib.hid (atom_any h hi hc hB)
  have hns : n ≤ 100000 := h.txt.2.2.2.1
  clear h hi hc hB
  go_enter Tryz.func18, Tryz.ntmps18
  go_wp2_with (go_at_call 30; refine (hA.out).mono ?_; intro y w1 hy; obtain ⟨z, rfl, hy⟩ := hy.ret; replace hy := Lib.hid hy)
  go_loopw [3] (fun a wr => YNode false w B T A n c l v ns g i cl inG (.returned a) wr) (fun _ wr => leftP n T wr)
  case atStart => exact hy.out
  case round =>
    clear hA hy
    rcases hrel with ⟨x, v2, ns2, g2, i2, cl2, ea, ok2, h2, k2, q1, q2, q3, q4⟩ | ⟨v2, ns2, g2, i2, cl2, p2, e2, he2, ea, h2, k2, q4⟩
    · obtain rfl := (Ending.returned.inj ea)
      clear ea
      have c15 := h2.c15
      have c3 := h2.c3
      have t3 := h2.thawed 3
      have hle := h2.le
      have hi2 : (i2 : Int) ≤ 100000 := by omega
      have hP := Lib.hid (fun w3 (hb : Below wr.heap.size wr w3) => h2.keep hb)
      have h2' := Lib.hid h2
      have k2' := Lib.hid k2
      have q1' := Lib.hid q1
      have q2' := Lib.hid q2
      have q3' := Lib.hid q3
      have q4' := Lib.hid q4
      have ok2' := Lib.hid ok2
      have hnl := h2.hn
      clear h2 k2 q1 q2 q3 q4 ok2
      cases hb1 : bg [42] (l.drop i2) with
      | true =>
        have hrm := bg_room hb1
        simp at hrm
        have hi3 : i2 + 1 ≤ n := by omega
        have hC := Lib.hid (comes_is h2'.out ⟨#[42]⟩ true hb1)
        have hR := Lib.hid (fun (w4 : World) (h4 : Psr w4 B T A n c l v2 ns2 g2 (i2 + 1) cl2 0 0) => rep_any B T 0 v2 ns2 g2 w4 h4.bldr x 0 (-1))
        have hf := Lib.hid (fits_rep (g := (g2 : Int)) ok2'.out (show timesN 0 (-1) = true by decide))
        replace hb1 := Lib.hid hb1
        clear hnl hrm
        by_cases hl : ns2.length < 1000
        · have hl' := Lib.hid hl
          go_wp2_with (first
            | (go_at_call 14; refine (hC.out).mono ?_; rintro y w3 ⟨rfl, hb3⟩; have k3 := (hP.out _ hb3).c3; have t33 := (hP.out _ hb3).thawed 3; have h4 := Lib.hid ((hP.out _ hb3).goto' hi3 (z := (i2 : Int) + 1) (by omega)); have k4 := Lib.hid ((ChP.of_below (T := T) (v := v2) hb3).trans (ChP.store w3 T 3 (.int .i64 ((i2 : Int) + 1)) v2)))
            | (go_at_call 31; refine (hR.out _ h4.out).mono ?_; intro y w5 hx2; obtain ⟨v5, rfl, h5, k5⟩ := h4.out.room hl'.out hf.out hx2; clear hx2; replace h5 := Lib.hid h5; replace k5 := Lib.hid (k4.out.trans k5))
            | (go_at_call 15; refine (put_yes T ns2.length _).mono ?_; rintro y w6 ⟨rfl, rfl⟩))
          have hfin := YPut.again (inG := inG) h2'.out (YPut.yes hl'.out h5.out k5.out) k2'.out q1'.out q2'.out q3'.out (Nat.lt_succ_self i2) q4'.out (fun ps lv hl => step_star hb1.out hl) (fun ps lv hl => step_star_full hb1.out hl)
          replace hfin := Lib.hid hfin
          go_roundw
          case rel => exact hfin.out.1
          case measure => exact hfin.out.2
        · have hl' := Lib.hid hl
          go_wp2_with (first
            | (go_at_call 14; refine (hC.out).mono ?_; rintro y w3 ⟨rfl, hb3⟩; have k3 := (hP.out _ hb3).c3; have t33 := (hP.out _ hb3).thawed 3; have h4 := Lib.hid ((hP.out _ hb3).goto' hi3 (z := (i2 : Int) + 1) (by omega)); have k4 := Lib.hid ((ChP.of_below (T := T) (v := v2) hb3).trans (ChP.store w3 T 3 (.int .i64 ((i2 : Int) + 1)) v2)))
            | (go_at_call 31; refine (hR.out _ h4.out).mono ?_; intro y w5 hx2; obtain ⟨v5, rfl, h5, k5⟩ := h4.out.full hl'.out hx2; clear hx2; replace h5 := Lib.hid h5; replace k5 := Lib.hid (k4.out.trans k5))
            | (go_at_call 15; refine (put_no h5.out).mono ?_; rintro y w6 ⟨rfl, h6, k6⟩; replace h6 := Lib.hid h6; replace k6 := Lib.hid (k5.out.trans k6)))
          have hfin := YPut.again (inG := inG) h2'.out (YPut.no (nd := repN x 0 (-1)) hl'.out h6.out k6.out) k2'.out q1'.out q2'.out q3'.out (Nat.lt_succ_self i2) q4'.out (fun ps lv hl => step_star hb1.out hl) (fun ps lv hl => step_star_full hb1.out hl)
          replace hfin := Lib.hid hfin
          go_roundw
          case rel => exact hfin.out.1
          case measure => exact hfin.out.2
      | false =>
        have hC := Lib.hid (comes_is h2'.out ⟨#[42]⟩ false hb1)
        cases hb2 : bg [92, 123] (l.drop i2) with
        | true =>
          have hC2 := Lib.hid (fun w3 (hb : Below wr.heap.size wr w3) => comes_is (hP.out _ hb) ⟨#[92, 123]⟩ true hb2)
          cases hv : ivl l i2 with
          | none =>
            have hT := Lib.hid (fun w3 (hb : Below wr.heap.size wr w3) => times_no (hP.out _ hb) x hv)
            have hst := Lib.hid (fun ps lv => step_ivl_bad (ns := ns2) (g := g2) (cl := cl2) (ps := ps) (lv := lv) (x := x) hb1 hb2 hv)
            clear hb1 hb2 hv hnl
            go_wp2_with (first
              | (go_at_call 14; with_reducible show Calls _ _ #[_, Value.string {data := #[42]}] _ _; refine (hC.out).mono ?_; rintro y w3 ⟨rfl, hb3⟩; replace hb3 := Lib.hid hb3)
              | (go_at_call 14; with_reducible show Calls _ _ #[_, Value.string {data := #[92, 123]}] _ _; refine (hC2.out _ hb3.out).mono ?_; rintro y w4 ⟨rfl, hb4⟩; replace hb4 := Lib.hid (hb3.out.trans (hb4.mono hb3.out.size)))
              | (go_at_call 32; refine (hT.out _ hb4.out).mono ?_; intro y w5 hy; obtain ⟨v5, ns5, g5, i5, cl5, rfl, h5, k5⟩ := hy; replace h5 := Lib.hid h5; replace k5 := Lib.hid ((ChP.of_below hb4.out).trans k5)))
            have hfin := Lib.hid (show YNode false w B T A n c l v ns g i cl inG (.returned (.int .i64 (-1))) w5 ∧ leftP n T w5 < leftP n T wr from
              ⟨.inr ⟨v5, ns5, g5, i5, cl5, i2, 13, by decide, rfl, h5.out, k2'.out.trans k5.out, fun ps lv hlv => (q4'.out ps lv hlv).ends (.bad (hst.out ps lv))⟩, by rw [h5.out.left0 (by decide), h2'.out.left]; omega⟩)
            go_roundw
            case rel => exact hfin.out.1
            case measure => exact hfin.out.2
          | some p =>
            obtain ⟨lo, hi', j⟩ := p
            have hsz := ivl_size hv (by omega)
            have hT := Lib.hid (fun w3 (hb : Below wr.heap.size wr w3) => times_yes (hP.out _ hb) x ok2'.out hv)
            have hagain := Lib.hid (fun (w5 : World) (y : Ending) (z : YPut wr B T A n c l v2 ns2 g2 cl2 j (repN x lo hi') y w5) => YPut.again (inG := inG) h2'.out z k2'.out q1'.out q2'.out q3'.out hsz.1 q4'.out (fun ps lv hl => step_ivl hb1 hb2 hv hl) (fun ps lv hl => step_ivl_full hb1 hb2 hv hl))
            clear hb1 hb2 hv hnl hsz
            go_wp2_with (first
              | (go_at_call 14; with_reducible show Calls _ _ #[_, Value.string {data := #[42]}] _ _; refine (hC.out).mono ?_; rintro y w3 ⟨rfl, hb3⟩; replace hb3 := Lib.hid hb3)
              | (go_at_call 14; with_reducible show Calls _ _ #[_, Value.string {data := #[92, 123]}] _ _; refine (hC2.out _ hb3.out).mono ?_; rintro y w4 ⟨rfl, hb4⟩; replace hb4 := Lib.hid (hb3.out.trans (hb4.mono hb3.out.size)))
              | (go_at_call 32; refine (hT.out _ hb4.out).mono ?_; intro y w5 hy; obtain ⟨z, rfl, hy⟩ := hy.ret; replace hy := Lib.hid (hagain.out _ _ (hy.from (ChP.of_below hb4.out)))))
            go_roundw
            case rel => exact hy.out.1
            case measure => exact hy.out.2
        | false =>
          have hC2 := Lib.hid (fun w3 (hb : Below wr.heap.size wr w3) => comes_is (hP.out _ hb) ⟨#[92, 123]⟩ false hb2)
          have hst := Lib.hid (fun ps lv => step_off (ns := ns2) (g := g2) (cl := cl2) (ps := ps) (lv := lv) (x := x) hb1 hb2)
          clear hb1 hb2 hnl
          go_wp2_with (first
            | (go_at_call 14; with_reducible show Calls _ _ #[_, Value.string {data := #[42]}] _ _; refine (hC.out).mono ?_; rintro y w3 ⟨rfl, hb3⟩; replace hb3 := Lib.hid hb3)
            | (go_at_call 14; with_reducible show Calls _ _ #[_, Value.string {data := #[92, 123]}] _ _; refine (hC2.out _ hb3.out).mono ?_; rintro y w4 ⟨rfl, hb4⟩; replace hb4 := Lib.hid (hb3.out.trans (hb4.mono hb3.out.size))))
          go_ret
          exact .inl ⟨x, v2, ns2, g2, i2, cl2, rfl, ok2'.out, hP.out _ hb4.out, k2'.out.trans (ChP.of_below hb4.out), q1'.out, q2'.out, q3'.out, fun ps lv hlv => (q4'.out ps lv hlv).snoc (hst.out ps lv)⟩
    · obtain rfl := (Ending.returned.inj ea)
      clear ea
      have c15 := h2.c15
      have he : ((e2 : Int) == 0) = false := by rw [beq_eq_false_iff_ne]; omega
      have hfin := Lib.hid (show YNode true w B T A n c l v ns g i cl inG (.returned (.int .i64 (-1))) wr from .inr ⟨v2, ns2, g2, i2, cl2, p2, e2, he2, rfl, h2, k2, q4⟩)
      clear h2 k2 q4 he2
      go_wp2
      go_ret
      exact hfin.out
end
end Go.Proofs.YtcloimdndcbchaaGreat
