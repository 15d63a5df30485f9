/- Contracts of the parser: escaped, One. -/
import Derived.Test.YtnfbgpjadnlgbabM40
import Derived.Test.YtnfbgpjadnlgbabM31
set_option linter.unusedVariables false
set_option maxRecDepth 100000
namespace Go.Proofs.Ytnfbgpjadnlgbab
open Go.RowKit

section
variable {w w' : World} {B T : Nat} {A : Option Addr} {n c : Nat} {l : List UInt8} {v v' : Value} {ns ns' : List Nod} {g g' i i' : Nat} {cl cl' : Nat → Bool} {e : Ending}
theorem YBad.ret {p q : Nat} (h : YBad w B T A n c l v p q e w') : e = .returned (.int .i64 (-1)) ∧ YBad w B T A n c l v p q (.returned (.int .i64 (-1))) w' := by
  obtain ⟨v', ns', g', cl', rfl, h⟩ := h
  exact ⟨rfl, v', ns', g', cl', rfl, h⟩
theorem YBad.from {p q : Nat} {w0 : World} {v0 : Value} (h : YBad w B T A n c l v p q e w') (h0 : ChP w0 w T v0 v) : YBad w0 B T A n c l v0 p q e w' := by
  obtain ⟨v', ns', g', cl', h1, h2, h3⟩ := h
  exact ⟨v', ns', g', cl', h1, h2, h0.trans h3⟩
/-- What the reading of an atom leaves. -/
def YAm (w : World) (B T : Nat) (A : Option Addr) (n c : Nat) (l : List UInt8) (v : Value) (ns : List Nod) (g i : Nat) (cl : Nat → Bool) (a : Am) (e : Ending) (w' : World) : Prop := match a with
  | .bad q => YBad w B T A n c l v i q e w'
  | .opn => False
  | .bak q => if cl q = true then YPut w B T A n c l v ns g cl (i + 2) (backN (q : Int)) e w' else YBad w B T A n c l v i 16 e w'
  | .nod j nd => YPut w B T A n c l v ns g cl j nd e w'
theorem YAm.ret {a : Am} (h : YAm w B T A n c l v ns g i cl a e w') : ∃ z, e = .returned (.int .i64 z) ∧ YAm w B T A n c l v ns g i cl a (.returned (.int .i64 z)) w' := by
  cases a with
  | bad q => exact ⟨_, (YBad.ret h).1, (YBad.ret h).2⟩
  | opn => exact h.elim
  | bak q =>
    unfold YAm at h ⊢
    simp only at h ⊢
    split at h
    · rename_i hc
      obtain ⟨z, h1, h2⟩ := YPut.ret h
      exact ⟨z, h1, by rw [if_pos hc]; exact h2⟩
    · rename_i hc
      exact ⟨_, (YBad.ret h).1, by rw [if_neg hc]; exact (YBad.ret h).2⟩
  | nod j nd => exact YPut.ret h
theorem YAm.from {a : Am} {w0 : World} {v0 : Value} (h : YAm w B T A n c l v ns g i cl a e w') (h0 : ChP w0 w T v0 v) : YAm w0 B T A n c l v0 ns g i cl a e w' := by
  cases a with
  | bad q => exact YBad.from h h0
  | opn => exact h
  | bak q =>
    unfold YAm at h ⊢
    simp only at h ⊢
    split at h
    · rename_i hc; rw [if_pos hc]; exact YPut.from h h0
    · rename_i hc; rw [if_neg hc]; exact YBad.from h h0
  | nod j nd => exact YPut.from h h0
end
section
variable {w : World} {B T : Nat} {A : Option Addr} {n c : Nat} {l : List UInt8} {v : Value} {ns : List Nod} {g i : Nat} {cl : Nat → Bool} (h : Psr w B T A n c l v ns g i cl 0)
include h
theorem Psr.byte {k : Nat} {x : UInt8} (hk : l[k]? = some x) : ∃ ad, A = some ad ∧ w.cell? (ad.add k) = some (.int .u8 (x.toNat : Int)) := by
  obtain ⟨hlt, hx⟩ := List.getElem?_eq_some_iff.1 hk
  obtain ⟨ad, h1, h2, h3⟩ := h.txt.2.2.2.2.2.1.at_ hlt
  rw [hx] at h3
  exact ⟨ad, h1, h3⟩

set_option maxHeartbeats 4000000 in
theorem escaped_0 (hx : l.drop i = [92]) : Calls Try.prog 56 #[.pointer (some ⟨T, 0, none⟩)] w (YAm w B T A n c l v ns g i cl (escE i [])) := by
  obtain ⟨hi, -, hr⟩ := drop_at hx
  have hnl := h.hn
  have hin : n = i + 1 := by
    have := congrArg List.length hx
    rw [List.length_drop] at this
    simp at this; omega
  have hns : n ≤ 100000 := h.txt.2.2.2.1
  have hfin := Lib.hid (fun (w' : World) (x : Ending) (y : YBad w B T A n c l v i 10 x w') => show YAm w B T A n c l v ns g i cl (escE i []) x w' from y)
  have c2 := h.c2
  have c3 := h.c3
  have hP := Lib.hid (fun w1 (hb : Below w.heap.size w w1) => (h.keep hb))
  have hb0 := Lib.hid (Below.refl w.heap.size w)
  clear h hx hr hnl hi
  subst hin
  have hi0 : (i : Int) ≤ 100000 := by omega
  go_enter Try.func56, Try.ntmps56
  go_wp2
  go_quiet (fail)
  go_wp2_with (go_at_call 25; refine (wrong_at (hP.out _ (below_drewN hb0.out _)) 10 10 rfl).mono ?_; intro x w2 hy; obtain ⟨rfl, hy⟩ := hy.ret; replace hy := Lib.hid (hfin.out _ _ (hy.from (ChP.of_below (below_drewN hb0.out _)))))
  go_ret
  exact hy.out

set_option maxHeartbeats 4000000 in
/-- A letter or a digit that means nothing. -/
theorem escaped_bad {x : UInt8} {r : List UInt8} (hx : l.drop i = 92 :: x :: r) (h110 : x ≠ 110) (hdg : ¬ (49 ≤ x ∧ x ≤ 57)) (hal : isAl x = true) :
    Calls Try.prog 56 #[.pointer (some ⟨T, 0, none⟩)] w (YAm w B T A n c l v ns g i cl (escE i (x :: r))) := by
  obtain ⟨hi, -, hr⟩ := drop_at hx
  obtain ⟨hi1, hx1, -⟩ := drop_at hr
  have hnl := h.hn
  have hns : n ≤ 100000 := h.txt.2.2.2.1
  have hin : i + 1 < n := by omega
  obtain ⟨p, hp⟩ : ∃ p, p = i + 1 := ⟨_, rfl⟩
  have hw1 : IntKind.i64.wrap ((i : Int) + 1) = (p : Int) := by rw [IntWalk.i64_in _ (by omega)]; omega
  have hne : ((p : Int) == (n : Int)) = false := by rw [beq_eq_false_iff_ne]; omega
  have hp0 : (0 : Int) ≤ (p : Int) := by omega
  have hp1 : (p : Int) < (n : Int) := by omega
  rw [← hp] at hx1
  replace hp := Lib.hid hp
  have hi0 : (i : Int) ≤ 100000 := by omega
  obtain ⟨ad, rfl, hcell⟩ := h.byte hx1
  have hnc : n ≤ c := h.inp.2.1
  have c2 := h.c2
  have c3 := h.c3
  have hb0 := Lib.hid (Below.refl w.heap.size w)
  have hP := Lib.hid (fun w1 (hb : Below w.heap.size w w1) => (h.keep hb))
  have ha : escE i (x :: r) = .bad 10 := by simp only [escE]; rw [if_neg h110, if_neg hdg, if_pos hal]
  rw [ha]
  have hfin := Lib.hid (fun (w' : World) (z : Ending) (y : YBad w B T (some ad) n c l v i 10 z w') => show YAm w B T (some ad) n c l v ns g i cl (.bad 10) z w' from y)
  have hA := Lib.hid (fun w => isAlnum_atm x w)
  rw [hal] at hA
  clear h hx hr hx1 hnl hi hi1 ha
  have e110 := u8_ne h110
  have edg : ¬ (49 ≤ (x.toNat : Int) ∧ (x.toNat : Int) ≤ 57) := fun h => hdg ⟨UInt8.le_iff_toNat_le.2 (by show 49 ≤ x.toNat; omega), UInt8.le_iff_toNat_le.2 (by show x.toNat ≤ 57; omega)⟩
  clear h110 hdg hal
  generalize (x.toNat : Int) = d at *
  replace e110 : (d == 110) = false := e110
  by_cases h49 : 49 ≤ d
  · have h57 : ¬ d ≤ 57 := fun h => edg ⟨h49, h⟩
    go_enter Try.func56, Try.ntmps56
    go_wp2
    go_quiet (fail)
    go_wp2
    go_quiet (fail)
    go_wp2_with (first
      | (go_at_call 63; refine (hA.out _).mono ?_; rintro y w3 ⟨rfl, rfl⟩)
      | (go_at_call 25; refine (wrong_at (hP.out _ (below_drewN hb0.out _)) 10 10 rfl).mono ?_; intro x w2 hy; obtain ⟨rfl, hy⟩ := hy.ret; replace hy := Lib.hid (hfin.out _ _ (hy.from (ChP.of_below (below_drewN hb0.out _))))))
    go_ret
    exact hy.out
  · go_enter Try.func56, Try.ntmps56
    go_wp2
    go_quiet (fail)
    go_wp2
    go_quiet (fail)
    go_wp2_with (first
      | (go_at_call 63; refine (hA.out _).mono ?_; rintro y w3 ⟨rfl, rfl⟩)
      | (go_at_call 25; refine (wrong_at (hP.out _ (below_drewN hb0.out _)) 10 10 rfl).mono ?_; intro x w2 hy; obtain ⟨rfl, hy⟩ := hy.ret; replace hy := Lib.hid (hfin.out _ _ (hy.from (ChP.of_below (below_drewN hb0.out _))))))
    go_ret
    exact hy.out

set_option maxHeartbeats 8000000 in
theorem escaped_n {r : List UInt8} (hx : l.drop i = 92 :: 110 :: r) :
    Calls Try.prog 56 #[.pointer (some ⟨T, 0, none⟩)] w (YAm w B T A n c l v ns g i cl (escE i (110 :: r))) := by
  obtain ⟨hi, -, hr⟩ := drop_at hx
  obtain ⟨hi1, hx1, -⟩ := drop_at hr
  have hnl := h.hn
  have hns : n ≤ 100000 := h.txt.2.2.2.1
  have hin : i + 1 < n := by omega
  obtain ⟨p, hp⟩ : ∃ p, p = i + 1 := ⟨_, rfl⟩
  have hw1 : IntKind.i64.wrap ((i : Int) + 1) = (p : Int) := by rw [IntWalk.i64_in _ (by omega)]; omega
  have hne : ((p : Int) == (n : Int)) = false := by rw [beq_eq_false_iff_ne]; omega
  have hp0 : (0 : Int) ≤ (p : Int) := by omega
  have hp1 : (p : Int) < (n : Int) := by omega
  rw [← hp] at hx1
  replace hp := Lib.hid hp
  have hi0 : (i : Int) ≤ 100000 := by omega
  obtain ⟨ad, rfl, hcell⟩ := h.byte hx1
  have hnc : n ≤ c := h.inp.2.1
  have c2 := h.c2
  have c3 := h.c3
  have hb0 := Lib.hid (Below.refl w.heap.size w)
  have hP := Lib.hid (fun w1 (hb : Below w.heap.size w w1) => bset_any (h.keep hb) 2 2 rfl (by omega) (oneF 10))
  have ha : escE i (110 :: r) = .nod (i + 2) (setN (oneF 10)) := by simp only [escE, ofL_one]; rfl
  rw [ha]
  have hfin := Lib.hid (fun (w' : World) (z : Ending) (q : YPut w B T (some ad) n c l v ns g cl (i + 2) (setN (oneF 10)) z w') => show YAm w B T (some ad) n c l v ns g i cl (.nod (i + 2) (setN (oneF 10))) z w' from q)
  have hO : Hid (∀ w : World, Calls Try.prog 54 #[.slice (some ⟨w.heap.size, 0, none⟩) 1 1] (w.alloc (.cells #[.int .u8 10] 5)) fun e w' => e = .returned (.agg (setC (oneF 10))) ∧ Below w.heap.size w w') := Lib.hid (fun w => of_one w 10)
  replace hcell : w.cell? (ad.add p) = some (.int .u8 110) := hcell
  clear h hx hr hx1 hnl hi hi1 ha
  go_enter Try.func56, Try.ntmps56
  go_wp2
  go_quiet (fail)
  go_wp2
  go_quiet (fail)
  go_wp2_with (first
    | (go_at_call 54; refine (hO.out _).mono ?_; rintro z w3 ⟨rfl, hb3⟩; replace hb3 := Lib.hid ((below_drewN hb0.out _).trans hb3))
    | (go_at_call 52; refine (hP.out _ hb3.out).mono ?_; intro x w2 hy; obtain ⟨z, rfl, hy⟩ := hy.ret; replace hy := Lib.hid (hfin.out _ _ (hy.from (ChP.of_below hb3.out)))))
  go_ret
  exact hy.out

set_option maxHeartbeats 8000000 in
theorem escaped_set {x : UInt8} {r : List UInt8} (hx : l.drop i = 92 :: x :: r) (h110 : x ≠ 110) (hdg : ¬ (49 ≤ x ∧ x ≤ 57)) (hal : isAl x = false) :
    Calls Try.prog 56 #[.pointer (some ⟨T, 0, none⟩)] w (YAm w B T A n c l v ns g i cl (escE i (x :: r))) := by
  obtain ⟨hi, -, hr⟩ := drop_at hx
  obtain ⟨hi1, hx1, -⟩ := drop_at hr
  have hnl := h.hn
  have hns : n ≤ 100000 := h.txt.2.2.2.1
  have hin : i + 1 < n := by omega
  obtain ⟨p, hp⟩ : ∃ p, p = i + 1 := ⟨_, rfl⟩
  have hw1 : IntKind.i64.wrap ((i : Int) + 1) = (p : Int) := by rw [IntWalk.i64_in _ (by omega)]; omega
  have hne : ((p : Int) == (n : Int)) = false := by rw [beq_eq_false_iff_ne]; omega
  have hp0 : (0 : Int) ≤ (p : Int) := by omega
  have hp1 : (p : Int) < (n : Int) := by omega
  rw [← hp] at hx1
  replace hp := Lib.hid hp
  have hi0 : (i : Int) ≤ 100000 := by omega
  obtain ⟨ad, rfl, hcell⟩ := h.byte hx1
  have hnc : n ≤ c := h.inp.2.1
  have c2 := h.c2
  have c3 := h.c3
  have hb0 := Lib.hid (Below.refl w.heap.size w)
  have hP := Lib.hid (fun w1 (hb : Below w.heap.size w w1) => bset_any (h.keep hb) 2 2 rfl (by omega) (oneF x))
  have ha : escE i (x :: r) = .nod (i + 2) (setN (oneF x)) := by simp only [escE, ofL_one]; rw [if_neg h110, if_neg hdg, if_neg (by rw [hal]; decide)]
  rw [ha]
  have hfin := Lib.hid (fun (w' : World) (z : Ending) (q : YPut w B T (some ad) n c l v ns g cl (i + 2) (setN (oneF x)) z w') => show YAm w B T (some ad) n c l v ns g i cl (.nod (i + 2) (setN (oneF x))) z w' from q)
  have hO := Lib.hid (fun w => of_one w x)
  have hA := Lib.hid (fun w => isAlnum_atm x w)
  rw [hal] at hA
  clear h hx hr hx1 hnl hi hi1 ha
  have e110 := u8_ne h110
  have edg : ¬ (49 ≤ (x.toNat : Int) ∧ (x.toNat : Int) ≤ 57) := fun h => hdg ⟨UInt8.le_iff_toNat_le.2 (by show 49 ≤ x.toNat; omega), UInt8.le_iff_toNat_le.2 (by show x.toNat ≤ 57; omega)⟩
  clear h110 hdg hal
  generalize (x.toNat : Int) = d at *
  replace e110 : (d == 110) = false := e110
  by_cases h49 : 49 ≤ d
  · have h57 : ¬ d ≤ 57 := fun h => edg ⟨h49, h⟩
    go_enter Try.func56, Try.ntmps56
    go_wp2
    go_quiet (fail)
    go_wp2
    go_quiet (fail)
    go_wp2_with (first
      | (go_at_call 63; refine (hA.out _).mono ?_; rintro z w4 ⟨rfl, rfl⟩)
      | (go_at_call 54; refine (hO.out _).mono ?_; rintro z w3 ⟨rfl, hb3⟩; replace hb3 := Lib.hid ((below_drewN hb0.out _).trans hb3))
      | (go_at_call 52; refine (hP.out _ hb3.out).mono ?_; intro x w2 hy; obtain ⟨z, rfl, hy⟩ := hy.ret; replace hy := Lib.hid (hfin.out _ _ (hy.from (ChP.of_below hb3.out)))))
    go_ret
    exact hy.out
  · go_enter Try.func56, Try.ntmps56
    go_wp2
    go_quiet (fail)
    go_wp2
    go_quiet (fail)
    go_wp2_with (first
      | (go_at_call 63; refine (hA.out _).mono ?_; rintro z w4 ⟨rfl, rfl⟩)
      | (go_at_call 54; refine (hO.out _).mono ?_; rintro z w3 ⟨rfl, hb3⟩; replace hb3 := Lib.hid ((below_drewN hb0.out _).trans hb3))
      | (go_at_call 52; refine (hP.out _ hb3.out).mono ?_; intro x w2 hy; obtain ⟨z, rfl, hy⟩ := hy.ret; replace hy := Lib.hid (hfin.out _ _ (hy.from (ChP.of_below hb3.out)))))
    go_ret
    exact hy.out

set_option maxHeartbeats 8000000 in
/-- What a group took. -/
theorem escaped_bak {x : UInt8} {r : List UInt8} (hx : l.drop i = 92 :: x :: r) (h49 : 49 ≤ x) (h57 : x ≤ 57) :
    Calls Try.prog 56 #[.pointer (some ⟨T, 0, none⟩)] w (YAm w B T A n c l v ns g i cl (escE i (x :: r))) := by
  obtain ⟨hi, -, hr⟩ := drop_at hx
  obtain ⟨hi1, hx1, -⟩ := drop_at hr
  have hnl := h.hn
  have hns : n ≤ 100000 := h.txt.2.2.2.1
  have hin : i + 1 < n := by omega
  obtain ⟨p, hp⟩ : ∃ p, p = i + 1 := ⟨_, rfl⟩
  have hw1 : IntKind.i64.wrap ((i : Int) + 1) = (p : Int) := by rw [IntWalk.i64_in _ (by omega)]; omega
  have hne : ((p : Int) == (n : Int)) = false := by rw [beq_eq_false_iff_ne]; omega
  have hp0 : (0 : Int) ≤ (p : Int) := by omega
  have hp1 : (p : Int) < (n : Int) := by omega
  rw [← hp] at hx1
  replace hp := Lib.hid hp
  have hi0 : (i : Int) ≤ 100000 := by omega
  obtain ⟨ad, rfl, hcell⟩ := h.byte hx1
  have hnc : n ≤ c := h.inp.2.1
  have c2 := h.c2
  have c3 := h.c3
  have hb0 := Lib.hid (Below.refl w.heap.size w)
  have h1 : 49 ≤ x.toNat := UInt8.le_iff_toNat_le.1 h49
  have h2 : x.toNat ≤ 57 := UInt8.le_iff_toNat_le.1 h57
  have ha : escE i (x :: r) = .bak (x.toNat - 48) := by
    simp only [escE]
    rw [if_neg (by rintro rfl; simp at h2), if_pos ⟨h49, h57⟩]
  rw [ha]
  obtain ⟨q, hqx⟩ : ∃ q, x.toNat = 48 + q := ⟨x.toNat - 48, by omega⟩
  rw [show x.toNat - 48 = q by omega]
  rw [show (x.toNat : Int) = 48 + (q : Int) by omega] at hcell
  have hq1 : 1 ≤ q := by omega
  have hq9 : q ≤ 9 := by omega
  have e110 : ((48 : Int) + (q : Int) == 110) = false := by rw [beq_eq_false_iff_ne]; omega
  have d49 : (49 : Int) ≤ 48 + (q : Int) := by omega
  have d57 : (48 : Int) + (q : Int) ≤ 57 := by omega
  have hw2 : IntKind.u8.wrap ((48 : Int) + (q : Int) - 48) = (q : Int) := by rw [IntWalk.u8_in _ (by omega)]; omega
  have hw3 : IntKind.i64.wrap (q : Int) = (q : Int) := IntWalk.i64_in _ (by omega)
  cases hcl : cl q with
  | true =>
    have hP := Lib.hid (fun w1 (hb : Below w.heap.size w w1) => back_yes (h.keep hb) q hq9 hcl (by omega))
    have hfin := Lib.hid (fun (w' : World) (z : Ending) (y : YPut w B T (some ad) n c l v ns g cl (i + 2) (backN (q : Int)) z w') => show YAm w B T (some ad) n c l v ns g i cl (.bak q) z w' from by unfold YAm; simp only; rw [if_pos hcl]; exact y)
    clear h hx hr hx1 hnl hi hi1 ha hcl h49 h57 h1 h2 hqx
    go_enter Try.func56, Try.ntmps56
    go_wp2
    go_quiet (fail)
    go_wp2
    go_quiet (fail)
    go_wp2_with (go_at_call 62; refine (hP.out _ (below_drewN hb0.out _)).mono ?_; intro x w2 hy; obtain ⟨z, rfl, hy⟩ := hy.ret; replace hy := Lib.hid (hfin.out _ _ (hy.from (ChP.of_below (below_drewN hb0.out _)))))
    go_ret
    exact hy.out
  | false =>
    have hP := Lib.hid (fun w1 (hb : Below w.heap.size w w1) => back_no (h.keep hb) q hq9 hcl)
    have hfin := Lib.hid (fun (w' : World) (z : Ending) (y : YBad w B T (some ad) n c l v i 16 z w') => show YAm w B T (some ad) n c l v ns g i cl (.bak q) z w' from by unfold YAm; simp only; rw [if_neg (by rw [hcl]; decide)]; exact y)
    clear h hx hr hx1 hnl hi hi1 ha hcl h49 h57 h1 h2 hqx
    go_enter Try.func56, Try.ntmps56
    go_wp2
    go_quiet (fail)
    go_wp2
    go_quiet (fail)
    go_wp2_with (go_at_call 62; refine (hP.out _ (below_drewN hb0.out _)).mono ?_; intro x w2 hy; obtain ⟨rfl, hy⟩ := hy.ret; replace hy := Lib.hid (hfin.out _ _ (hy.from (ChP.of_below (below_drewN hb0.out _)))))
    go_ret
    exact hy.out

theorem escaped_any {r : List UInt8} (hx : l.drop i = 92 :: r) :
    Calls Try.prog 56 #[.pointer (some ⟨T, 0, none⟩)] w (YAm w B T A n c l v ns g i cl (escE i r)) := by
  cases r with
  | nil => exact escaped_0 h hx
  | cons x r =>
    by_cases h110 : x = 110
    · subst h110; exact escaped_n h hx
    by_cases hdg : 49 ≤ x ∧ x ≤ 57
    · exact escaped_bak h hx hdg.1 hdg.2
    cases hal : isAl x with
    | true => exact escaped_bad h hx h110 hdg hal
    | false => exact escaped_set h hx h110 hdg hal
end
end Go.Proofs.Ytnfbgpjadnlgbab
