/- Contract: what one part becomes (the function within package swap's Expand). -/
import Derived.Test.YtkfdehkembcaoaaSwpB
import Derived.Deep.RegionHeld3
import Derived.Deep.Cut
set_option linter.unusedVariables false
set_option linter.unusedSimpArgs false
set_option maxRecDepth 100000
namespace Go.Proofs.Ytkfdehkembcaoaa
open Go.RowKit

theorem expP_text {t : List UInt8} {s : Spn} {k g : Int} {b : List UInt8} (h : k = 0) : expP t s ⟨k, g, b⟩ = b := by unfold expP; rw [if_pos h]
theorem expP_none {t : List UInt8} {s : Spn} {k g : Int} {b : List UInt8} (h : k ≠ 0) (h2 : ¬ (k = 1 ∧ 0 ≤ g ∧ g < 10)) : expP t s ⟨k, g, b⟩ = [] := by unfold expP; rw [if_neg h, if_neg h2]
theorem expP_group {t : List UInt8} {s : Spn} {g : Nat} {b : List UInt8} (h2 : g < 10) : expP t s ⟨1, (g : Int), b⟩ = cutB t (s g) := by
  unfold expP
  rw [if_neg (show ¬ ((1 : Int) = 0) from by decide), if_pos ⟨rfl, by show (0 : Int) ≤ (g : Int); omega, by show (g : Int) < 10; omega⟩]
  rfl
/-- What the function that expands holds: the text and the hit, each in its own block. -/
structure ExIn (w : World) (T H : Nat) (B : Nat) (At : Option Addr) (nt ct : Nat) (t : List UInt8) (s : Spn) : Prop where
  tx : Held w T 26 #[.slice At nt ct]
  ht : Held w H 38 (hitC s)
  n : nt = t.length
  nc : nt ≤ ct
  cm : ct ≤ maxLen
  base : B ≤ w.heap.size
  byt : Byt w B At t
theorem ExIn.below {w w' : World} {T H B : Nat} {At : Option Addr} {nt ct : Nat} {t : List UInt8} {s : Spn} (h : ExIn w T H B At nt ct t s) (hb : Below w.heap.size w w') : ExIn w' T H B At nt ct t s :=
  ⟨h.tx.keep hb, h.ht.keep hb, h.n, h.nc, h.cm, Nat.le_trans h.base hb.size, h.byt.below (hb.mono h.base)⟩
def SEx (P T H : Nat) (pc tc hc : Array Value) (w' : World) : Prop := Held w' P 45 pc ∧ Held w' T 26 tc ∧ Held w' H 38 hc
theorem SEx.below {P T H : Nat} {pc tc hc : Array Value} {w1 w2 : World} (h : SEx P T H pc tc hc w1) (hb : Below w1.heap.size w1 w2) : SEx P T H pc tc hc w2 := ⟨h.1.keep hb, h.2.1.keep hb, h.2.2.keep hb⟩
section
variable {w : World} {T H B : Nat} {At : Option Addr} {nt ct : Nat} {t : List UInt8} {s : Spn} {k g : Int} {v : Value} {b : List UInt8}
set_option maxHeartbeats 2000000 in
theorem expPart_any (h : ExIn w T H B At nt ct t s) (hv : BytV w B v b) :
    Calls Try.prog 26 #[.agg #[.int .i64 k, .int .i64 g, v], .pointer (some ⟨T, 0, none⟩), .pointer (some ⟨H, 0, none⟩)] w fun e w' => (∃ u, e = .returned u ∧ BytV w' B u (expP t s ⟨k, g, b⟩)) ∧ Below w.heap.size w w' := by
  have hb := Lib.hid ((Below.refl w.heap.size w).alloc (Nat.le_refl _) (.cells #[.int .i64 k, .int .i64 g, v] 45))
  have hI := Lib.hid (fun w' => isText_any k g v w')
  have hB := Lib.hid h.base
  have hS1 := Lib.hid (show SEx w.heap.size T H #[.int .i64 k, .int .i64 g, v] #[.slice At nt ct] (hitC s) _ from ⟨held_new w 45 #[.int .i64 k, .int .i64 g, v], h.tx.alloc _, h.ht.alloc _⟩)
  have hS := Lib.hid (fun (w1 : World) (hb1 : Below (w.alloc (.cells #[.int .i64 k, .int .i64 g, v] 45)).heap.size (w.alloc (.cells #[.int .i64 k, .int .i64 g, v] 45)) w1) => show SEx w.heap.size T H #[.int .i64 k, .int .i64 g, v] #[.slice At nt ct] (hitC s) w1 from hS1.out.below hb1)
  have hvh := Lib.hid hv
  have hh := Lib.hid h
  obtain ⟨Av, nv, cv, rfl, -⟩ := hv
  clear h hS1
  by_cases hk : k = 0
  · have hR := Lib.hid (expP_text (t := t) (s := s) (g := g) (b := b) hk)
    have e0 : (k == 0) = true := by rw [beq_iff_eq]; exact hk
    rw [e0] at hI
    replace hk := Lib.hid hk
    go_enter Try.func26, Try.ntmps26
    go_wp2_with (go_at_call 27; refine (hI.out _).mono ?_; rintro e w1 ⟨rfl, hb1⟩; have c2 : w1.cell? ⟨w.heap.size, 2, none⟩ = some (.slice Av nv cv) := (hS.out w1 hb1).1.at_ rfl)
    go_ret
    exact ⟨⟨_, rfl, by rw [hR.out]; exact hvh.out.below ((hb.out.trans (hb1.mono hb.out.size)).mono hB.out)⟩, hb.out.trans (hb1.mono hb.out.size)⟩
  · have e0 : (k == 0) = false := by rw [beq_eq_false_iff_ne]; exact hk
    rw [e0] at hI
    by_cases hk1 : k = 1
    · subst hk1
      by_cases hg0 : 0 ≤ g
      · by_cases hg1 : g < 10
        · obtain ⟨i, rfl⟩ := Int.eq_ofNat_of_zero_le hg0
          have hi : i < 10 := by omega
          have hR := Lib.hid (expP_group (t := t) (s := s) (b := b) hi)
          have hC := Lib.hid (fun (w' : World) (hb : Below w.heap.size w w') => cut_any At nt ct t B (s i).1 (s i).2 w' hh.out.n hh.out.nc hh.out.cm (Nat.le_trans hB.out hb.size) (hh.out.byt.below (hb.mono hB.out)))
          have hsp := Lib.hid (fun (w' : World) (hw : Held w' H 38 (hitC s)) => span_there hw hi)
          have j0 : (0 : Int) ≤ (i : Int) := hg0
          have j1 : (i : Int) < 10 := hg1
          replace hk := Lib.hid hk
          clear hg0 hg1 e0
          generalize hitC s = C0 at *
          go_enter Try.func26, Try.ntmps26
          go_upto_region 4 with (go_at_call 27; refine (hI.out _).mono ?_; rintro e w1 ⟨rfl, hb1⟩; have c0 : w1.cell? ⟨w.heap.size, 0, none⟩ = some (.int .i64 1) := (hS.out w1 hb1).1.at_ rfl; have c1 : w1.cell? ⟨w.heap.size, 1, none⟩ = some (.int .i64 (i : Int)) := (hS.out w1 hb1).1.at_ rfl)
          have hS1 := Lib.hid (hS.out w1 hb1)
          have hb2 := Lib.hid (hb.out.trans (hb1.mono hb.out.size))
          clear hb1 c0 c1 hS hI
          go_wp2
          refine wp_region_held_drew (S := SEx w.heap.size T H #[.int .i64 1, .int .i64 (i : Int), .slice Av nv cv] #[.slice At nt ct] C0) (by kernel_rfl) (hS1.out.below (below_drewN (Below.refl _ _) 1)) (fun hS => ?_)
          have hb3 := Lib.hid (show Below w.heap.size w w1.drew from below_drewN hb2.out 1)
          generalize w1.drew = wd at *
          refine wpAnyH_take (i := 0) (v := ?_) rfl (by kernel_rfl) (by kernel_rfl) (by kernel_rfl) (fun _ _ _ h => h) (Or.inl ⟨by rfl, ?_⟩) hS ?_
          rotate_left
          · (intro w' hS'; have ha : w'.cell? ⟨T, 0, none⟩ = some (.slice At nt ct) := hS'.2.1.at_ rfl; go_simp; try with_reducible rfl)
          (try simp only [Act.put, List.getElem_toArray, List.getElem_cons_zero, List.getElem_cons_succ, List.setIfInBounds_toArray, List.set_cons_zero, List.set_cons_succ])
          refine wpAnyH_take (i := 1) (v := ?_) rfl (by kernel_rfl) (by kernel_rfl) (by kernel_rfl) (fun _ _ _ h => h) (Or.inl ⟨by rfl, ?_⟩) hS ?_
          rotate_left
          · (intro w' hS'; go_simp; try with_reducible rfl)
          (try simp only [Act.put, List.getElem_toArray, List.getElem_cons_zero, List.getElem_cons_succ, List.setIfInBounds_toArray, List.set_cons_zero, List.set_cons_succ])
          refine wpAnyH_take (i := 2) (v := ?_) rfl (by kernel_rfl) (by kernel_rfl) (by kernel_rfl) (fun _ _ _ h => h) (Or.inl ⟨by rfl, ?_⟩) hS ?_
          rotate_left
          · (intro w' hS'; have ha : w'.cell? ⟨w.heap.size, 1, none⟩ = some (.int .i64 (i : Int)) := hS'.1.at_ rfl; go_simp; try with_reducible rfl)
          (try simp only [Act.put, List.getElem_toArray, List.getElem_cons_zero, List.getElem_cons_succ, List.setIfInBounds_toArray, List.set_cons_zero, List.set_cons_succ])
          refine wpAnyH_take (i := 3) (v := ?_) rfl (by kernel_rfl) (by kernel_rfl) (by kernel_rfl) (fun _ _ _ h => h) (Or.inl ⟨by rfl, ?_⟩) hS ?_
          rotate_left
          · (intro w' hS'; go_simp; try with_reducible rfl)
          (try simp only [Act.put, List.getElem_toArray, List.getElem_cons_zero, List.getElem_cons_succ, List.setIfInBounds_toArray, List.set_cons_zero, List.set_cons_succ])
          refine wpAnyH_take (i := 4) (v := ?_) rfl (by kernel_rfl) (by kernel_rfl) (by kernel_rfl) (fun _ _ _ h => h) (Or.inl ⟨by rfl, ?_⟩) hS ?_
          rotate_left
          · (intro w' hS'; go_simp; try with_reducible rfl)
          (try simp only [Act.put, List.getElem_toArray, List.getElem_cons_zero, List.getElem_cons_succ, List.setIfInBounds_toArray, List.set_cons_zero, List.set_cons_succ])
          refine wpAnyH_take (i := 5) (v := ?_) rfl (by kernel_rfl) (by kernel_rfl) (by kernel_rfl) (fun _ _ _ h => h) (Or.inl ⟨by rfl, ?_⟩) hS ?_
          rotate_left
          · (intro w' hS'; obtain ⟨ha, hc⟩ := hsp.out w' hS'.2.2; go_simp; try with_reducible rfl)
          (try simp only [Act.put, List.getElem_toArray, List.getElem_cons_zero, List.getElem_cons_succ, List.setIfInBounds_toArray, List.set_cons_zero, List.set_cons_succ])
          refine wpAnyH_ready (rs := [6]) (by kernel_rfl) (by simp) ?_
          refine AllReadyH.cons rfl (fun K hK => ?_) AllReadyH.nil
          go_simp
          refine (hC.out _ hb3.out).mono ?_
          rintro e w3 ⟨⟨u, rfl, hu⟩, hb4⟩
          go_simp
          refine hK.out _ _ (hS.below hb4) (fun _ => ?_)
          clear hK K
          replace hS := hS.below hb4
          (try simp only [Act.put, List.getElem_toArray, List.getElem_cons_zero, List.getElem_cons_succ, List.setIfInBounds_toArray, List.set_cons_zero, List.set_cons_succ])
          refine wpAnyH_take (i := 7) (v := ?_) rfl (by kernel_rfl) (by kernel_rfl) (by kernel_rfl) (fun _ _ _ h => h) (Or.inl ⟨by rfl, ?_⟩) hS ?_
          rotate_left
          · (intro w' hS'; go_simp; try with_reducible rfl)
          (try simp only [Act.put, List.getElem_toArray, List.getElem_cons_zero, List.getElem_cons_succ, List.setIfInBounds_toArray, List.set_cons_zero, List.set_cons_succ])
          refine wpAnyH_done (by kernel_rfl) ?_ _
          go_wp2
          go_ret
          exact ⟨⟨_, rfl, by rw [hR.out]; exact hu⟩, hb3.out.trans (hb4.mono hb3.out.size)⟩
        · have hg1' : decide (g < 10) = false := decide_eq_false hg1
          have hR := Lib.hid (expP_none (t := t) (s := s) (g := g) (b := b) hk (by omega))
          obtain ⟨K, hK⟩ : ∃ K : Int, K = 1 := ⟨_, rfl⟩
          clear hK K
          replace hk := Lib.hid hk
          go_enter Try.func26, Try.ntmps26
          go_wp2_with (go_at_call 27; refine (hI.out _).mono ?_; rintro e w1 ⟨rfl, hb1⟩; have c0 : w1.cell? ⟨w.heap.size, 0, none⟩ = some (.int .i64 1) := (hS.out w1 hb1).1.at_ rfl; have c1 : w1.cell? ⟨w.heap.size, 1, none⟩ = some (.int .i64 g) := (hS.out w1 hb1).1.at_ rfl)
          go_ret
          exact ⟨⟨_, rfl, by rw [hR.out]; exact BytV.nil _ _⟩, hb.out.trans (hb1.mono hb.out.size)⟩
      · have hg0' : decide ((0 : Int) ≤ g) = false := decide_eq_false hg0
        have hR := Lib.hid (expP_none (t := t) (s := s) (g := g) (b := b) hk (by omega))
        replace hk := Lib.hid hk
        go_enter Try.func26, Try.ntmps26
        go_wp2_with (go_at_call 27; refine (hI.out _).mono ?_; rintro e w1 ⟨rfl, hb1⟩; have c0 : w1.cell? ⟨w.heap.size, 0, none⟩ = some (.int .i64 1) := (hS.out w1 hb1).1.at_ rfl; have c1 : w1.cell? ⟨w.heap.size, 1, none⟩ = some (.int .i64 g) := (hS.out w1 hb1).1.at_ rfl)
        go_ret
        exact ⟨⟨_, rfl, by rw [hR.out]; exact BytV.nil _ _⟩, hb.out.trans (hb1.mono hb.out.size)⟩
    · have e1 : (k == 1) = false := by rw [beq_eq_false_iff_ne]; exact hk1
      have hR := Lib.hid (expP_none (t := t) (s := s) (g := g) (b := b) hk (fun h => hk1 h.1))
      replace hk1 := Lib.hid hk1
      replace hk := Lib.hid hk
      go_enter Try.func26, Try.ntmps26
      go_wp2_with (go_at_call 27; refine (hI.out _).mono ?_; rintro e w1 ⟨rfl, hb1⟩; have c0 : w1.cell? ⟨w.heap.size, 0, none⟩ = some (.int .i64 k) := (hS.out w1 hb1).1.at_ rfl; have c1 : w1.cell? ⟨w.heap.size, 1, none⟩ = some (.int .i64 g) := (hS.out w1 hb1).1.at_ rfl)
      go_ret
      exact ⟨⟨_, rfl, by rw [hR.out]; exact BytV.nil _ _⟩, hb.out.trans (hb1.mono hb.out.size)⟩
end
end Go.Proofs.Ytkfdehkembcaoaa
