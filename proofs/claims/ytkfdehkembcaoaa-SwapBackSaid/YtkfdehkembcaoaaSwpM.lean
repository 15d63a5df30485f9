/- Contract: the reference's Right of parts. -/
import Derived.Test.YtkfdehkembcaoaaSwpJ
import Derived.Test.YtkfdehkembcaoaaSwpE
set_option linter.unusedVariables false
set_option linter.unusedSimpArgs false
set_option maxRecDepth 100000
namespace Go.Proofs.Ytkfdehkembcaoaa
open Go.RowKit

/-- What Right tells: where it says yes, the parts are right. -/
def RgtQ (w : World) (l : List Prt) (e : Ending) (w' : World) : Prop := (∃ b, e = .returned (.bool b) ∧ (b = true → RightL l)) ∧ Below w.heap.size w w'
theorem RgtQ.no {w w' : World} {l : List Prt} (hb : Below w.heap.size w w') : RgtQ w l (.returned (.bool false)) w' := ⟨⟨false, rfl, fun h => by cases h⟩, hb⟩
theorem RgtQ.yes {w w' : World} {l : List Prt} (h : RightL l) (hb : Below w.heap.size w w') : RgtQ w l (.returned (.bool true)) w' := ⟨⟨true, rfl, fun _ => h⟩, hb⟩
def GoodTo (l : List Prt) (k : Nat) : Prop := ∀ j (hj : j < l.length), j < k → goodAt l j hj
theorem GoodTo.next {l : List Prt} {k : Nat} (h : GoodTo l k) (hk : k < l.length) (hg : goodAt l k hk) : GoodTo l (k + 1) := fun j hj hjk => by
  rcases Nat.lt_or_ge j k with h1 | h1
  · exact h j hj h1
  · obtain rfl : j = k := by omega
    exact hg
set_option maxHeartbeats 16000000 in
theorem rRight13_any {w : World} {B : Nat} {A : Option Addr} {n c : Nat} {l : List Prt} (hn : n = l.length) (hnc : n ≤ c) (hm : c ≤ maxLen) (hB : B ≤ w.heap.size) (hl : Prts w B A l) :
    Calls Try.prog 8 #[.slice A n c] w (RgtQ w l) := by
  unfold maxLen at hm
  have hnh := Lib.hid hn
  have hBh := Lib.hid hB
  have hlh := Lib.hid hl
  clear hl hn hB
  go_enter Try.func8, Try.ntmps8
  go_wp2
  go_loopw [3] (fun i wr => ∃ k : Nat, k ≤ n ∧ i = .int .i64 (k : Nat) ∧ GoodTo l k ∧ Below w.heap.size w wr) (fun i _ => n - (intOf i).toNat)
  case atStart => exact ⟨0, Nat.zero_le _, rfl, fun j _ h => absurd h (Nat.not_lt_zero j), Below.refl _ _⟩
  case round =>
    obtain ⟨k, hk, rfl, hgo, hbr⟩ := hrel
    have hbrh := Lib.hid hbr
    have hgoh := Lib.hid hgo
    clear hbr hgo
    by_cases hlt : k < n
    · have hkx : k < l.length := by rw [← hnh.out]; exact hlt
      have hPr := hlh.out.below (hbrh.out.mono hBh.out)
      obtain ⟨ad, vb, rfl, had, c0, c1, c2, hvb⟩ := hPr k hkx
      have hnx := Lib.hid (fun hg => hgoh.out.next hkx hg)
      have hprev := Lib.hid (fun (hk0 : 0 < k) => show wr.cell? (ad.add ((k - 1) * 3)) = some (.int .i64 (l[k - 1]'(by omega)).kind) ∧ ad.block < B from by
        obtain ⟨ad', vb', h1, h2, h3, -⟩ := hPr (k - 1) (by omega)
        obtain rfl := Option.some.inj h1
        exact ⟨h3, h2⟩)
      have hgd := Lib.hid (show goodAt l k hkx = goodAt l k hkx from rfl)
      obtain ⟨Av, nv, cv, rfl, hnv, -⟩ := hvb
      have hkI : (k : Int) < (n : Int) := by omega
      have hw2 : IntKind.i64.wrap ((k : Int) + 1) = (k : Int) + 1 := IntWalk.i64_in _ (by omega)
      have hGood := Lib.hid (fun (hg : ((l[k]'hkx).kind = 0 ∧ (l[k]'hkx).b ≠ [] ∧ (l[k]'hkx).grp = 0 ∧ (0 < k → (l[k - 1]'(by omega)).kind ≠ 0)) ∨ ((l[k]'hkx).kind = 1 ∧ 0 ≤ (l[k]'hkx).grp ∧ (l[k]'hkx).grp ≤ 9 ∧ (l[k]'hkx).b = [])) => hnx.out hg)
      have hb2 := Lib.hid (hbrh.out.alloc hbrh.out.size (.cells #[.int .i64 (l[k]'hkx).kind, .int .i64 (l[k]'hkx).grp, .slice Av nv cv] 45))
      have hP := Lib.hid (held_new wr 45 #[.int .i64 (l[k]'hkx).kind, .int .i64 (l[k]'hkx).grp, .slice Av nv cv])
      have hb0 := Lib.hid (show Below wr.heap.size wr _ from (Below.refl wr.heap.size wr).alloc (Nat.le_refl _) (.cells #[.int .i64 (l[k]'hkx).kind, .int .i64 (l[k]'hkx).grp, .slice Av nv cv] 45))
      have hnx2 := Lib.hid (show nv = (l[k]'hkx).b.length from hnv)
      clear hnx hgd hnv hPr
      generalize hp : l[k]'hkx = p at *
      replace hp := Lib.hid hp
      obtain ⟨pk, pg, pb⟩ := p
      go_upto_region 5 with fail
      generalize wr.alloc (.cells #[.int .i64 pk, .int .i64 pg, .slice Av nv cv] 45) = w2 at *
      have p0 : w2.cell? ⟨wr.heap.size, 0, none⟩ = some (.int .i64 pk) := hP.out.at_ rfl
      have p1 : w2.cell? ⟨wr.heap.size, 1, none⟩ = some (.int .i64 pg) := hP.out.at_ rfl
      have p2 : w2.cell? ⟨wr.heap.size, 2, none⟩ = some (.slice Av nv cv) := hP.out.at_ rfl
      have hprev2 := Lib.hid (fun (hk0 : 0 < k) => show w2.cell? (ad.add ((k - 1) * 3)) = some (.int .i64 (l[k - 1]'(by omega)).kind) from (hb0.out.cell (by rw [block_add]; exact Nat.lt_of_lt_of_le (hprev.out hk0).2 (Nat.le_trans hBh.out hbrh.out.size))).trans (hprev.out hk0).1)
      clear c0 c1 c2 hprev hb0 hP
      by_cases K0 : pk = 0
      · have a0 : (pk == 0) = true := by rw [beq_iff_eq]; exact K0
        have a1 : (pk == 1) = false := by rw [beq_eq_false_iff_ne]; omega
        have a2 : decide (pk < 0) = false := decide_eq_false (by omega)
        have a3 : decide (1 < pk) = false := decide_eq_false (by omega)
        by_cases L0 : nv = 0
        · have b0 : ((nv : Int) == 0) = true := by rw [beq_iff_eq]; omega
          replace K0 := Lib.hid K0
          replace L0 := Lib.hid L0
          go_wp2
          go_ret
          exact RgtQ.no hb2.out
        · have b0 : ((nv : Int) == 0) = false := by rw [beq_eq_false_iff_ne]; omega
          by_cases G0 : pg = 0
          · have g0 : (pg != 0) = false := by rw [bne_eq_false_iff_eq]; exact G0
            by_cases k0 : k = 0
            · have e0 : decide ((0 : Int) < (k : Int)) = false := decide_eq_false (by omega)
              have e1 : decide (0 < k) = false := decide_eq_false (by omega)
              have hgood := Lib.hid (hGood.out (.inl ⟨K0, fun e => L0 (by rw [hnx2.out, e]; rfl), G0, fun h => by omega⟩))
              replace K0 := Lib.hid K0
              replace L0 := Lib.hid L0
              replace G0 := Lib.hid G0
              replace k0 := Lib.hid k0
              go_wp2
              go_roundw
              case rel => exact ⟨k + 1, by omega, rfl, hgood.out, hb2.out⟩
              case measure => simp [intOf]; omega
            · have e0 : decide ((0 : Int) < (k : Int)) = true := decide_eq_true (by omega)
              have e1 : decide (0 < k) = true := decide_eq_true (by omega)
              have hpv := hprev2.out (Nat.pos_of_ne_zero k0)
              obtain ⟨m, hm1⟩ : ∃ m, k - 1 = m := ⟨_, rfl⟩
              have hwm : IntKind.i64.wrap ((k : Int) - 1) = (m : Int) := by rw [show (k : Int) - 1 = (m : Int) by omega]; exact IntWalk.i64_in _ (by omega)
              have hm0 : (0 : Int) ≤ (m : Int) := by omega
              have hmn : (m : Int) < (n : Int) := by omega
              have hmn' : m < n := by omega
              have hmn'' : ¬ n ≤ m := by omega
              obtain ⟨Q, hQ⟩ : ∃ Q, (l[k - 1]'(by omega)).kind = Q := ⟨_, rfl⟩
              by_cases Q0 : (l[k - 1]'(by omega)).kind = 0
              · have q0 : ((l[k - 1]'(by omega)).kind == 0) = true := by rw [beq_iff_eq]; exact Q0
                replace Q0 := Lib.hid Q0
                rw [hQ, hm1] at hpv
                rw [hQ] at q0
                clear hQ
                replace K0 := Lib.hid K0
                replace L0 := Lib.hid L0
                replace G0 := Lib.hid G0
                replace k0 := Lib.hid k0
                replace hm1 := Lib.hid hm1
                go_wp2
                go_ret
                exact RgtQ.no hb2.out
              · have q0 : ((l[k - 1]'(by omega)).kind == 0) = false := by rw [beq_eq_false_iff_ne]; exact Q0
                have hgood := Lib.hid (hGood.out (.inl ⟨K0, fun e => L0 (by rw [hnx2.out, e]; rfl), G0, fun h => Q0⟩))
                replace Q0 := Lib.hid Q0
                rw [hQ, hm1] at hpv
                rw [hQ] at q0
                clear hQ
                replace K0 := Lib.hid K0
                replace L0 := Lib.hid L0
                replace G0 := Lib.hid G0
                replace k0 := Lib.hid k0
                replace hm1 := Lib.hid hm1
                go_wp2
                go_roundw
                case rel => exact ⟨k + 1, by omega, rfl, hgood.out, hb2.out⟩
                case measure => simp [intOf]; omega
          · have g0 : (pg != 0) = true := by rw [bne_iff_ne]; exact G0
            replace K0 := Lib.hid K0
            replace L0 := Lib.hid L0
            replace G0 := Lib.hid G0
            go_wp2
            go_ret
            exact RgtQ.no hb2.out
      · have a0 : (pk == 0) = false := by rw [beq_eq_false_iff_ne]; exact K0
        by_cases K1 : pk = 1
        · have a1 : (pk == 1) = true := by rw [beq_iff_eq]; exact K1
          have a2 : decide (pk < 0) = false := decide_eq_false (by omega)
          have a3 : decide (1 < pk) = false := decide_eq_false (by omega)
          by_cases G0 : pg < 0
          · have g0 : decide (pg < 0) = true := decide_eq_true G0
            replace K0 := Lib.hid K0
            replace K1 := Lib.hid K1
            go_wp2
            go_ret
            exact RgtQ.no hb2.out
          · have g0 : decide (pg < 0) = false := decide_eq_false G0
            by_cases G9 : 9 < pg
            · have g9 : decide (9 < pg) = true := decide_eq_true G9
              replace K0 := Lib.hid K0
              replace K1 := Lib.hid K1
              go_wp2
              go_ret
              exact RgtQ.no hb2.out
            · have g9 : decide (9 < pg) = false := decide_eq_false G9
              by_cases L0 : nv = 0
              · have b0 : decide ((0 : Int) < (nv : Int)) = false := decide_eq_false (by omega)
                have hgood := Lib.hid (hGood.out (.inr ⟨K1, by show 0 ≤ pg; omega, by show pg ≤ 9; omega, List.length_eq_zero_iff.1 (by rw [← hnx2.out]; exact L0)⟩))
                replace K0 := Lib.hid K0
                replace K1 := Lib.hid K1
                replace L0 := Lib.hid L0
                go_wp2
                go_roundw
                case rel => exact ⟨k + 1, by omega, rfl, hgood.out, hb2.out⟩
                case measure => simp [intOf]; omega
              · have b0 : decide ((0 : Int) < (nv : Int)) = true := decide_eq_true (by omega)
                replace K0 := Lib.hid K0
                replace K1 := Lib.hid K1
                replace L0 := Lib.hid L0
                go_wp2
                go_ret
                exact RgtQ.no hb2.out
        · have a1 : (pk == 1) = false := by rw [beq_eq_false_iff_ne]; exact K1
          by_cases N0 : pk < 0
          · have a2 : decide (pk < 0) = true := decide_eq_true N0
            replace K0 := Lib.hid K0
            replace K1 := Lib.hid K1
            go_wp2
            go_ret
            exact RgtQ.no hb2.out
          · have a2 : decide (pk < 0) = false := decide_eq_false N0
            have a3 : decide (1 < pk) = true := decide_eq_true (by omega)
            replace K0 := Lib.hid K0
            replace K1 := Lib.hid K1
            go_wp2
            go_ret
            exact RgtQ.no hb2.out
    · obtain rfl : k = n := by omega
      have hR := Lib.hid (show RightL l from fun j hj => hgoh.out j hj (by rw [hnh.out]; exact hj))
      go_wp2
      go_ret
      exact RgtQ.yes hR.out hbrh.out
end Go.Proofs.Ytkfdehkembcaoaa
