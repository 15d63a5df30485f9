/- Contract: is there more than the laws look at (great)? -/
import Derived.Test.YtkfdehkembcaoaaSwpE
set_option linter.unusedVariables false
set_option linter.unusedSimpArgs false
set_option maxRecDepth 100000
namespace Go.Proofs.Ytkfdehkembcaoaa
open Go.RowKit

/-- What great tells: where it says no, there are few parts, of few bytes. -/
def GreQ (w : World) (l : List Prt) (n nt : Nat) (e : Ending) (w' : World) : Prop := (∃ b, e = .returned (.bool b) ∧ (b = false → n ≤ 12 ∧ nt ≤ 60 ∧ ∀ p ∈ l, p.b.length ≤ 30)) ∧ w = w'
theorem GreQ.yes {w : World} {l : List Prt} {n nt : Nat} : GreQ w l n nt (.returned (.bool true)) w := ⟨⟨true, rfl, fun h => by cases h⟩, rfl⟩
theorem GreQ.no {w : World} {l : List Prt} {n nt : Nat} (h : n ≤ 12 ∧ nt ≤ 60 ∧ ∀ p ∈ l, p.b.length ≤ 30) : GreQ w l n nt (.returned (.bool false)) w := ⟨⟨false, rfl, fun _ => h⟩, rfl⟩
def Few (l : List Prt) (k : Nat) : Prop := ∀ j (hj : j < l.length), j < k → (l[j]'hj).b.length ≤ 30
set_option maxHeartbeats 2000000 in
theorem great_any {w : World} {B : Nat} {A : Option Addr} {n c : Nat} {l : List Prt} {At : Option Addr} {nt ct : Nat} (hn : n = l.length) (hnc : n ≤ c) (hm : c ≤ maxLen) (htc : nt ≤ ct) (htm : ct ≤ maxLen) (hl : Prts w B A l) :
    Calls Try.prog 7 #[.slice A n c, .slice At nt ct] w (GreQ w l n nt) := by
  have hnh := Lib.hid hn
  have hlh := Lib.hid hl
  unfold maxLen at hm htm
  clear hn hl
  go_enter Try.func7, Try.ntmps7
  go_wp2
  go_loop [5] (fun i => ∃ k : Nat, k ≤ n ∧ k ≤ 12 ∧ i = .int .i64 (k : Nat) ∧ Few l k) (fun i => 12 - (intOf i).toNat)
  case atStart => exact ⟨0, Nat.zero_le _, Nat.zero_le _, rfl, fun j _ h => absurd h (Nat.not_lt_zero j)⟩
  case round =>
    obtain ⟨k, hk, hk12, rfl, hfew⟩ := hrel
    have hfewh := Lib.hid hfew
    clear hfew
    by_cases hlt : k < n
    · by_cases hlt2 : k < 12
      · have hkx : k < l.length := by rw [← hnh.out]; exact hlt
        obtain ⟨ad, vb, rfl, had, c0, c1, c2, Av, nv, cv, rfl, hnv, hnc', hcm', -⟩ := hlh.out k hkx
        have hkI : (k : Int) < (n : Int) := by omega
        have hkJ : (k : Int) < 12 := by omega
        have hw2 : IntKind.i64.wrap ((k : Int) + 1) = (k : Int) + 1 := IntWalk.i64_in _ (by omega)
        have hnvh := Lib.hid hnv
        clear hnv
        by_cases h30 : 30 < nv
        · have d1 : decide ((30 : Int) < (nv : Int)) = true := decide_eq_true (by omega)
          go_wp2
          go_ret
          exact GreQ.yes
        · have d1 : decide ((30 : Int) < (nv : Int)) = false := decide_eq_false (by omega)
          have hnx := Lib.hid (show Few l (k + 1) from fun j hj hjk => by
            rcases Nat.lt_or_ge j k with h | h
            · exact hfewh.out j hj h
            · obtain rfl : j = k := by omega
              rw [← hnvh.out]; omega)
          go_wp2
          go_round
          case rel => exact ⟨k + 1, by omega, by omega, by go_num, hnx.out⟩
          case measure => simp [intOf]; omega
      · obtain rfl : k = 12 := by omega
        have hkI : (12 : Int) < (n : Int) := by omega
        have d1 : decide ((12 : Int) < (n : Int)) = true := decide_eq_true hkI
        go_wp2
        go_ret
        exact GreQ.yes
    · obtain rfl : k = n := by omega
      have d1 : decide ((12 : Int) < (k : Int)) = false := decide_eq_false (by omega)
      by_cases h60 : 60 < nt
      · have d2 : decide ((60 : Int) < (nt : Int)) = true := decide_eq_true (by omega)
        go_wp2
        go_ret
        exact GreQ.yes
      · have d2 : decide ((60 : Int) < (nt : Int)) = false := decide_eq_false (by omega)
        have hfin := Lib.hid (show k ≤ 12 ∧ nt ≤ 60 ∧ ∀ p ∈ l, p.b.length ≤ 30 from ⟨hk12, by omega, fun p hp => by
          obtain ⟨j, hj, rfl⟩ := List.getElem_of_mem hp
          exact hfewh.out j hj (by rw [hnh.out]; exact hj)⟩)
        go_wp2
        go_ret
        exact GreQ.no hfin.out
end Go.Proofs.Ytkfdehkembcaoaa
