/- Contract of the parser's One. -/
import Derived.Test.YtnfbgpjadnlgbabM41
set_option linter.unusedVariables false
set_option maxRecDepth 100000
namespace Go.Proofs.Ytnfbgpjadnlgbab
open Go.RowKit

theorem of_none (w : World) : Calls Try.prog 54 #[.slice none 0 0] w fun e w' => e = .returned (.agg (setC (ofL []))) ∧ Below w.heap.size w w' :=
  of_any none 0 0 [] 0 w rfl (Nat.le_refl _) (by decide) (Nat.zero_le _) (Byt.none_ _ _ _)
theorem not_none (w : World) : Calls Try.prog 53 #[.agg (setC (ofL []))] w fun e w' => e = .returned (.agg (setC allS)) ∧ Below w.heap.size w w' := not_at (ofL []) w
section
variable {w : World} {B T : Nat} {A : Option Addr} {n c : Nat} {l : List UInt8} {v : Value} {ns : List Nod} {g i : Nat} {cl : Nat → Bool} (h : Psr w B T A n c l v ns g i cl 0)
include h
set_option maxHeartbeats 8000000 in
theorem one_esc {r : List UInt8} (hx : l.drop i = 92 :: r) :
    Calls Try.prog 46 #[.pointer (some ⟨T, 0, none⟩)] w (YAm w B T A n c l v ns g i cl (oneA l i)) := by
  obtain ⟨hi, hx1, -⟩ := drop_at hx
  have hnl := h.hn
  have hns : n ≤ 100000 := h.txt.2.2.2.1
  have hp1 : (i : Int) < (n : Int) := by omega
  have hp0 : (0 : Int) ≤ (i : Int) := by omega
  have hin : i < n := by omega
  obtain ⟨ad, rfl, hcell⟩ := h.byte hx1
  have hnc : n ≤ c := h.inp.2.1
  have c2 := h.c2
  have c3 := h.c3
  have hb0 := Lib.hid (Below.refl w.heap.size w)
  rw [show oneA l i = escE i r from by rw [one_at hx]; rfl]
  replace hcell : w.cell? (ad.add i) = some (.int .u8 92) := hcell
  have hG := Lib.hid (fun w1 (hb : Below w.heap.size w w1) => escaped_any (h.keep hb) hx)
  generalize escE i r = a at *
  clear h hx hx1 hnl hi hin
  go_enter Try.func46, Try.ntmps46
  go_wp2
  go_quiet (fail)
  go_wp2_with (go_at_call 56; refine (hG.out _ (below_drewN hb0.out _)).mono ?_; intro x w2 hy; obtain ⟨z, rfl, hy⟩ := hy.ret; replace hy := Lib.hid (hy.from (ChP.of_below (below_drewN hb0.out _))))
  go_ret
  exact hy.out

set_option maxHeartbeats 8000000 in
theorem one_brk {r : List UInt8} (hx : l.drop i = 91 :: r) :
    Calls Try.prog 46 #[.pointer (some ⟨T, 0, none⟩)] w (YAm w B T A n c l v ns g i cl (oneA l i)) := by
  obtain ⟨hi, hx1, -⟩ := drop_at hx
  have hnl := h.hn
  have hns : n ≤ 100000 := h.txt.2.2.2.1
  have hp1 : (i : Int) < (n : Int) := by omega
  have hp0 : (0 : Int) ≤ (i : Int) := by omega
  have hin : i < n := by omega
  obtain ⟨ad, rfl, hcell⟩ := h.byte hx1
  have hnc : n ≤ c := h.inp.2.1
  have c2 := h.c2
  have c3 := h.c3
  have hb0 := Lib.hid (Below.refl w.heap.size w)
  rw [show oneA l i = brkA l i from by rw [one_at hx]; rfl]
  replace hcell : w.cell? (ad.add i) = some (.int .u8 91) := hcell
  have hG : Hid (∀ w1, Below w.heap.size w w1 → Calls Try.prog 55 #[.pointer (some ⟨T, 0, none⟩)] w1 (YAm w1 B T (some ad) n c l v ns g i cl (brkA l i))) := by
    refine Lib.hid fun w1 hb => ?_
    unfold brkA
    cases hv : readB l (i + 1) with
    | error e => exact bracket_no (h.keep hb) hin hv
    | ok p =>
      obtain ⟨f, j⟩ := p
      exact bracket_yes (h.keep hb) hin hv
  generalize brkA l i = a at *
  clear h hx hx1 hnl hi hin
  go_enter Try.func46, Try.ntmps46
  go_wp2
  go_quiet (fail)
  go_wp2_with (go_at_call 55; refine (hG.out _ (below_drewN hb0.out _)).mono ?_; intro x w2 hy; obtain ⟨z, rfl, hy⟩ := hy.ret; replace hy := Lib.hid (hy.from (ChP.of_below (below_drewN hb0.out _))))
  go_ret
  exact hy.out

set_option maxHeartbeats 8000000 in
theorem one_dot {r : List UInt8} (hx : l.drop i = 46 :: r) :
    Calls Try.prog 46 #[.pointer (some ⟨T, 0, none⟩)] w (YAm w B T A n c l v ns g i cl (oneA l i)) := by
  obtain ⟨hi, hx1, -⟩ := drop_at hx
  have hnl := h.hn
  have hns : n ≤ 100000 := h.txt.2.2.2.1
  have hp1 : (i : Int) < (n : Int) := by omega
  have hp0 : (0 : Int) ≤ (i : Int) := by omega
  have hin : i < n := by omega
  obtain ⟨ad, rfl, hcell⟩ := h.byte hx1
  have hnc : n ≤ c := h.inp.2.1
  have c2 := h.c2
  have c3 := h.c3
  have hb0 := Lib.hid (Below.refl w.heap.size w)
  rw [show oneA l i = .nod (i + 1) (setN allS) from by rw [one_at hx]; rfl]
  replace hcell : w.cell? (ad.add i) = some (.int .u8 46) := hcell
  have hfin := Lib.hid (fun (w' : World) (z : Ending) (q : YPut w B T (some ad) n c l v ns g cl (i + 1) (setN allS) z w') => show YAm w B T (some ad) n c l v ns g i cl (.nod (i + 1) (setN allS)) z w' from q)
  have hP := Lib.hid (fun w1 (hb : Below w.heap.size w w1) => bset_any (h.keep hb) 1 1 rfl (by omega) allS)
  have hO := Lib.hid of_none
  have hN := Lib.hid not_none
  clear h hx hx1 hnl hi hin
  go_enter Try.func46, Try.ntmps46
  go_wp2
  go_quiet (fail)
  go_wp2_with (first
    | (go_at_call 54; refine (hO.out _).mono ?_; rintro z w3 ⟨rfl, hb3⟩; replace hb3 := Lib.hid ((below_drewN hb0.out _).trans hb3))
    | (go_at_call 53; refine (hN.out _).mono ?_; rintro z w4 ⟨rfl, hb4⟩; replace hb4 := Lib.hid (hb3.out.trans (hb4.mono hb3.out.size)))
    | (go_at_call 52; refine (hP.out _ hb4.out).mono ?_; intro x w2 hy; obtain ⟨z, rfl, hy⟩ := hy.ret; replace hy := Lib.hid (hfin.out _ _ (hy.from (ChP.of_below hb4.out)))))
  go_ret
  exact hy.out

set_option maxHeartbeats 8000000 in
theorem one_byte {x : UInt8} {r : List UInt8} (hx : l.drop i = x :: r) (h92 : x ≠ 92) (h91 : x ≠ 91) (h46 : x ≠ 46) :
    Calls Try.prog 46 #[.pointer (some ⟨T, 0, none⟩)] w (YAm w B T A n c l v ns g i cl (oneA l i)) := by
  obtain ⟨hi, hx1, -⟩ := drop_at hx
  have hnl := h.hn
  have hns : n ≤ 100000 := h.txt.2.2.2.1
  have hp1 : (i : Int) < (n : Int) := by omega
  have hp0 : (0 : Int) ≤ (i : Int) := by omega
  have hin : i < n := by omega
  obtain ⟨ad, rfl, hcell⟩ := h.byte hx1
  have hnc : n ≤ c := h.inp.2.1
  have c2 := h.c2
  have c3 := h.c3
  have hb0 := Lib.hid (Below.refl w.heap.size w)
  rw [show oneA l i = .nod (i + 1) (setN (oneF x)) from by rw [one_at hx]; simp only [oneR, ofL_one]; rw [if_neg h46, if_neg h91, if_neg h92]]
  have hfin := Lib.hid (fun (w' : World) (z : Ending) (q : YPut w B T (some ad) n c l v ns g cl (i + 1) (setN (oneF x)) z w') => show YAm w B T (some ad) n c l v ns g i cl (.nod (i + 1) (setN (oneF x))) z w' from q)
  have hP := Lib.hid (fun w1 (hb : Below w.heap.size w w1) => bset_any (h.keep hb) 1 1 rfl (by omega) (oneF x))
  have hO := Lib.hid (fun w => of_one w x)
  have e92 := u8_ne h92
  have e91 := u8_ne h91
  have e46 := u8_ne h46
  clear h hx hx1 hnl hi hin h92 h91 h46
  generalize (x.toNat : Int) = d at *
  replace e92 : (d == 92) = false := e92
  replace e91 : (d == 91) = false := e91
  replace e46 : (d == 46) = false := e46
  go_enter Try.func46, Try.ntmps46
  go_wp2
  go_quiet (fail)
  go_wp2_with (first
    | (go_at_call 54; refine (hO.out _).mono ?_; rintro z w4 ⟨rfl, hb4⟩; replace hb4 := Lib.hid ((below_drewN hb0.out _).trans hb4))
    | (go_at_call 52; refine (hP.out _ hb4.out).mono ?_; intro x w2 hy; obtain ⟨z, rfl, hy⟩ := hy.ret; replace hy := Lib.hid (hfin.out _ _ (hy.from (ChP.of_below hb4.out)))))
  go_ret
  exact hy.out

theorem one_any (hi : i < n) : Calls Try.prog 46 #[.pointer (some ⟨T, 0, none⟩)] w (YAm w B T A n c l v ns g i cl (oneA l i)) := by
  have hnl := h.hn
  cases hx : l.drop i with
  | nil =>
    have := congrArg List.length hx
    rw [List.length_drop] at this
    simp at this; omega
  | cons x r =>
    by_cases h92 : x = 92
    · subst h92; exact one_esc h hx
    by_cases h91 : x = 91
    · subst h91; exact one_brk h hx
    by_cases h46 : x = 46
    · subst h46; exact one_dot h hx
    exact one_byte h hx h92 h91 h46
end
end Go.Proofs.Ytnfbgpjadnlgbab
