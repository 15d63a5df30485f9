/- Contracts: isGroup, isReplacement of package swap, the latter of right parts. -/
import Derived.Test.YtkfdehkembcaoaaSwpJ
set_option linter.unusedVariables false
set_option linter.unusedSimpArgs false
set_option maxRecDepth 100000
namespace Go.Proofs.Ytkfdehkembcaoaa
open Go.RowKit

def isG (k g : Int) : Bool := (k == 1) && (decide (0 ≤ g) && decide (g ≤ 9))
theorem isGroup_any (k g : Int) (v : Value) (w : World) :
    Calls Try.prog 33 #[.agg #[.int .i64 k, .int .i64 g, v]] w fun e w' => e = .returned (.bool (isG k g)) ∧ Below w.heap.size w w' := by
  have hb := Lib.hid ((Below.refl w.heap.size w).alloc (Nat.le_refl _) (.cells #[.int .i64 k, .int .i64 g, v] 45))
  by_cases hk : k = 1
  · have e0 : (k == 1) = true := by rw [beq_iff_eq]; exact hk
    replace hk := Lib.hid hk
    by_cases h0 : 0 ≤ g
    · have e1 : decide (0 ≤ g) = true := decide_eq_true h0
      by_cases h9 : g ≤ 9
      · have e2 : decide (g ≤ 9) = true := decide_eq_true h9
        have hR := Lib.hid (show isG k g = true by unfold isG; rw [e0, e1, e2]; rfl)
        replace h0 := Lib.hid h0
        replace h9 := Lib.hid h9
        go_enter Try.func33, Try.ntmps33
        go_wp2
        go_ret
        exact ⟨ret_bool hR.out.symm, hb.out⟩
      · have e2 : decide (g ≤ 9) = false := decide_eq_false h9
        have hR := Lib.hid (show isG k g = false by unfold isG; rw [e0, e1, e2]; rfl)
        replace h0 := Lib.hid h0
        replace h9 := Lib.hid h9
        go_enter Try.func33, Try.ntmps33
        go_wp2
        go_ret
        exact ⟨ret_bool hR.out.symm, hb.out⟩
    · have e1 : decide (0 ≤ g) = false := decide_eq_false h0
      have hR := Lib.hid (show isG k g = false by unfold isG; rw [e0, e1]; rfl)
      replace h0 := Lib.hid h0
      go_enter Try.func33, Try.ntmps33
      go_wp2
      go_ret
      exact ⟨ret_bool hR.out.symm, hb.out⟩
  · have e0 : (k == 1) = false := by rw [beq_eq_false_iff_ne]; exact hk
    have hR := Lib.hid (show isG k g = false by unfold isG; rw [e0]; rfl)
    replace hk := Lib.hid hk
    go_enter Try.func33, Try.ntmps33
    go_wp2
    go_ret
    exact ⟨ret_bool hR.out.symm, hb.out⟩
theorem RightL.can {l : List Prt} (h : RightL l) : ∀ p ∈ l, CanP p := by
  intro p hp
  obtain ⟨k, hk, rfl⟩ := List.mem_iff_getElem.1 hp
  rcases h k hk with ⟨h1, -⟩ | ⟨h1, h2, h3, -⟩
  · exact .inl h1
  · exact .inr ⟨h1, h2, h3⟩
section
variable {w : World} {A : Option Addr} {n c : Nat} {B : Nat} {l : List Prt}
set_option maxHeartbeats 4000000 in
theorem isReplacement_yes (hn : n = l.length) (hnc : n ≤ c) (hm : c ≤ maxLen) (hB : B ≤ w.heap.size) (hl : Prts w B A l) (hr : RightL l) :
    Calls Try.prog 20 #[.slice A n c] w fun e w' => e = .returned (.bool true) ∧ Below w.heap.size w w' := by
  unfold maxLen at hm
  have hnh := Lib.hid hn
  have hBh := Lib.hid hB
  have hlh := Lib.hid hl
  have hrh := Lib.hid hr
  clear hl hn hB hr
  go_enter Try.func20, Try.ntmps20
  go_wp2
  go_loopw [8] (fun i wr => ∃ k : Nat, k ≤ n ∧ i = .int .i64 (k : Nat) ∧ Below w.heap.size w wr) (fun i _ => n - (intOf i).toNat)
  case atStart => exact ⟨0, Nat.zero_le _, rfl, Below.refl _ _⟩
  case round =>
    obtain ⟨k, hk, rfl, hbr⟩ := hrel
    have hbrh := Lib.hid hbr
    clear hbr
    by_cases hlt : k < n
    · have hkx : k < l.length := by rw [← hnh.out]; exact hlt
      obtain ⟨ad, vb, rfl, had, c0, c1, c2, hvb⟩ := (hlh.out.below (hbrh.out.mono hBh.out)) k hkx
      have hg := Lib.hid (hrh.out k hkx)
      obtain ⟨Av, nv, cv, rfl, hnv', -⟩ := hvb
      have hnv := Lib.hid hnv'
      clear hnv'
      have hkI : (k : Int) < (n : Int) := by omega
      have hw2 : IntKind.i64.wrap ((k : Int) + 1) = (k : Int) + 1 := IntWalk.i64_in _ (by omega)
      have hq0 : ad.block < wr.heap.size := Nat.lt_of_lt_of_le had (Nat.le_trans hBh.out hbrh.out.size)
      have hI := Lib.hid (fun w' => isText_any (l[k]'hkx).kind (l[k]'hkx).grp (.slice Av nv cv) w')
      have hG := Lib.hid (fun w' => isGroup_any (l[k]'hkx).kind (l[k]'hkx).grp (.slice Av nv cv) w')
      have hP := Lib.hid (held_new wr 45 #[.int .i64 (l[k]'hkx).kind, .int .i64 (l[k]'hkx).grp, .slice Av nv cv])
      have hPh := Lib.hid (fun (w1 : World) (hb1 : Below (wr.alloc (.cells #[.int .i64 (l[k]'hkx).kind, .int .i64 (l[k]'hkx).grp, .slice Av nv cv] 45)).heap.size (wr.alloc (.cells #[.int .i64 (l[k]'hkx).kind, .int .i64 (l[k]'hkx).grp, .slice Av nv cv] 45)) w1) => show (w1.cell? ⟨wr.heap.size, 0, none⟩ = some (.int .i64 (l[k]'hkx).kind) ∧ w1.cell? ⟨wr.heap.size, 1, none⟩ = some (.int .i64 (l[k]'hkx).grp) ∧ w1.cell? ⟨wr.heap.size, 2, none⟩ = some (.slice Av nv cv)) from
        ⟨(hP.out.keep hb1).at_ rfl, (hP.out.keep hb1).at_ rfl, (hP.out.keep hb1).at_ rfl⟩)
      have hba := Lib.hid (show Below wr.heap.size wr (wr.alloc (.cells #[.int .i64 (l[k]'hkx).kind, .int .i64 (l[k]'hkx).grp, .slice Av nv cv] 45)) from (Below.refl _ _).alloc (Nat.le_refl _) _)
      -- what stands ahead
      have hJ : k = 0 ∨ ∃ j, k = j + 1 := by cases k with
        | zero => exact .inl rfl
        | succ j => exact .inr ⟨j, rfl⟩
      have hgK := hg.out
      unfold goodAt at hgK
      have hgKh := Lib.hid hgK
      clear hgK hg hP
      rcases hJ with hJ | ⟨j, hJ⟩
      · have d0 : decide (0 < k) = false := decide_eq_false (by omega)
        have d0' : decide ((0 : Int) < (k : Int)) = false := decide_eq_false (by omega)
        generalize hp : l[k]'hkx = p at *
        obtain ⟨pk, pg, pb⟩ := p
        simp only at c0 c1 c2 hI hG hPh hba hnv hgKh
        replace hp := Lib.hid hp
        replace hJ := Lib.hid hJ
        go_upto_region 4 with fail
        generalize wr.alloc (.cells #[.int .i64 pk, .int .i64 pg, .slice Av nv cv] 45) = w2 at *
        clear c0 c1 c2
        obtain ⟨p0, p1, p2⟩ := hPh.out w2 (Below.refl _ _)
        rcases hgKh.out with ⟨g1, g2, g3, -⟩ | ⟨g1, g2, g3, g4⟩
        · have hiG := Lib.hid (show isG pk pg = false by rw [g1]; rfl)
          have hiT := Lib.hid (show (pk == 0) = true by rw [g1]; rfl)
          have hln : ((nv : Int) == 0) = false := by
            rw [beq_eq_false_iff_ne]
            intro e
            exact g2 (List.length_eq_zero_iff.1 (by rw [← hnv.out]; omega))
          rw [hiG.out] at hG
          rw [hiT.out] at hI
          clear g1 g2 g3 hgKh hnv
          go_wp2_with (first
            | (go_at_call 33; refine (hG.out _).mono ?_; rintro e w4 ⟨rfl, hb4'⟩; have hb4 := Lib.hid ((Below.refl w2.heap.size w2).trans (hb4'.mono (Below.refl w2.heap.size w2).size)); clear hb4'; obtain ⟨p0, p1, p2⟩ := hPh.out w4 hb4.out)
            | (go_at_call 27; refine (hI.out _).mono ?_; rintro e w5 ⟨rfl, hb5'⟩; have hb5 := Lib.hid (hb4.out.trans (hb5'.mono hb4.out.size)); clear hb5'; obtain ⟨p0, p1, p2⟩ := hPh.out w5 hb5.out))
          go_roundw
          case rel => exact ⟨k + 1, by omega, rfl, hbrh.out.trans ((hba.out.trans (hb5.out.mono hba.out.size)).mono hbrh.out.size)⟩
          case measure => simp [intOf]; omega
        · have hiG := Lib.hid (show isG pk pg = true by unfold isG; rw [g1, decide_eq_true g2, decide_eq_true g3]; rfl)
          rw [hiG.out] at hG
          clear g1 g2 g3 g4 hgKh hnv
          go_wp2_with (go_at_call 33; refine (hG.out _).mono ?_; rintro e w4 ⟨rfl, hb4'⟩; have hb4 := Lib.hid ((Below.refl w2.heap.size w2).trans (hb4'.mono (Below.refl w2.heap.size w2).size)); clear hb4'; obtain ⟨p0, p1, p2⟩ := hPh.out w4 hb4.out)
          go_roundw
          case rel => exact ⟨k + 1, by omega, rfl, hbrh.out.trans ((hba.out.trans (hb4.out.mono hba.out.size)).mono hbrh.out.size)⟩
          case measure => simp [intOf]; omega
      · have hjx : j < l.length := by omega
        obtain ⟨ad', vj, had2, -, b0, b1, b2, hvj⟩ := (hlh.out.below (hbrh.out.mono hBh.out)) j hjx
        obtain rfl : ad = ad' := by cases had2; rfl
        clear had2
        obtain ⟨Aj, nj, cj, rfl, -⟩ := hvj
        have d0 : decide (0 < k) = true := decide_eq_true (by omega)
        have d0' : decide ((0 : Int) < (k : Int)) = true := decide_eq_true (by omega)
        have hwj : IntKind.i64.wrap ((k : Int) - 1) = (j : Int) := by rw [show (k : Int) - 1 = (j : Int) by omega]; exact IntWalk.i64_in _ (by omega)
        have hjI : (j : Int) < (n : Int) := by omega
        have hIj := Lib.hid (fun w' => isText_any (l[j]'hjx).kind (l[j]'hjx).grp (.slice Aj nj cj) w')
        have hgj := Lib.hid (show (l[k]'hkx).kind = 0 → ((l[j]'hjx).kind == 0) = false from fun h => by
          rcases hgKh.out with ⟨-, -, -, g4⟩ | ⟨g1, -⟩
          · rw [beq_eq_false_iff_ne]
            have := g4 (by omega)
            subst hJ
            exact this
          · rw [h] at g1; exact absurd g1 (by decide))
        have e0 := Lib.hid ((hba.out.cell (p := ad.add (j * 3)) (by rw [block_add]; exact hq0)).trans b0)
        have e1 := Lib.hid ((hba.out.cell (p := ⟨(ad.add (j * 3)).block, (ad.add (j * 3)).off + 1, none⟩) (by rw [block_add]; exact hq0)).trans b1)
        have e2 := Lib.hid ((hba.out.cell (p := ⟨(ad.add (j * 3)).block, (ad.add (j * 3)).off + 2, none⟩) (by rw [block_add]; exact hq0)).trans b2)
        clear b0 b1 b2
        generalize hq : l[j]'hjx = q at *
        generalize hp : l[k]'hkx = p at *
        obtain ⟨pk, pg, pb⟩ := p
        obtain ⟨qk, qg, qb⟩ := q
        simp only at c0 c1 c2 hI hG hPh hba hnv hgKh e0 e1 e2 hIj hgj
        replace hp := Lib.hid hp
        replace hq := Lib.hid hq
        replace hJ := Lib.hid hJ
        obtain ⟨bj, hbj⟩ : ∃ bj, (qk == 0) = bj := ⟨_, rfl⟩
        rw [hbj] at hIj hgj
        replace hbj := Lib.hid hbj
        go_upto_region 4 with fail
        generalize wr.alloc (.cells #[.int .i64 pk, .int .i64 pg, .slice Av nv cv] 45) = w2 at *
        clear c0 c1 c2
        have b0 := e0.out
        have b1 := e1.out
        have b2 := e2.out
        clear e0 e1 e2
        go_upto_region 5 with (go_at_call 27; refine (hIj.out _).mono ?_; rintro e w3 ⟨rfl, hb3'⟩; have hb3 := Lib.hid hb3'; clear hb3')
        clear b0 b1 b2
        obtain ⟨p0, p1, p2⟩ := hPh.out w3 hb3.out
        rcases hgKh.out with ⟨g1, g2, g3, -⟩ | ⟨g1, g2, g3, g4⟩
        · have hiG := Lib.hid (show isG pk pg = false by rw [g1]; rfl)
          have hiT := Lib.hid (show (pk == 0) = true by rw [g1]; rfl)
          have hln : ((nv : Int) == 0) = false := by
            rw [beq_eq_false_iff_ne]
            intro e
            exact g2 (List.length_eq_zero_iff.1 (by rw [← hnv.out]; omega))
          have hbjf := hgj.out g1
          subst hbjf
          rw [hiG.out] at hG
          rw [hiT.out] at hI
          clear g1 g2 g3 hgKh hnv
          go_wp2_with (first
            | (go_at_call 33; refine (hG.out _).mono ?_; rintro e w4 ⟨rfl, hb4'⟩; have hb4 := Lib.hid (hb3.out.trans (hb4'.mono hb3.out.size)); clear hb4'; obtain ⟨p0, p1, p2⟩ := hPh.out w4 hb4.out)
            | (go_at_call 27; refine (hI.out _).mono ?_; rintro e w5 ⟨rfl, hb5'⟩; have hb5 := Lib.hid (hb4.out.trans (hb5'.mono hb4.out.size)); clear hb5'; obtain ⟨p0, p1, p2⟩ := hPh.out w5 hb5.out))
          go_roundw
          case rel => exact ⟨k + 1, by omega, rfl, hbrh.out.trans ((hba.out.trans (hb5.out.mono hba.out.size)).mono hbrh.out.size)⟩
          case measure => simp [intOf]; omega
        · have hiG := Lib.hid (show isG pk pg = true by unfold isG; rw [g1, decide_eq_true g2, decide_eq_true g3]; rfl)
          rw [hiG.out] at hG
          clear g1 g2 g3 g4 hgKh hnv
          go_wp2_with (go_at_call 33; refine (hG.out _).mono ?_; rintro e w4 ⟨rfl, hb4'⟩; have hb4 := Lib.hid (hb3.out.trans (hb4'.mono hb3.out.size)); clear hb4'; obtain ⟨p0, p1, p2⟩ := hPh.out w4 hb4.out)
          go_roundw
          case rel => exact ⟨k + 1, by omega, rfl, hbrh.out.trans ((hba.out.trans (hb4.out.mono hba.out.size)).mono hbrh.out.size)⟩
          case measure => simp [intOf]; omega
    · obtain rfl : k = n := by omega
      go_wp2
      go_ret
      exact ⟨rfl, hbrh.out⟩
end
end Go.Proofs.Ytkfdehkembcaoaa
