/- An address as a value; the reference's Right (palinoderef15), of any address and any number. -/
import Derived.Test.YtailhicemogphaaProg
import Derived.Test.YtailhicemogphaaHeld
import Derived.Test.YtailhicemogphaaApp
import Derived.Deep.QuietTactic
set_option linter.unusedVariables false
set_option linter.unusedSimpArgs false
set_option maxRecDepth 100000
namespace Go.Proofs.Ytailhicemogphaa
open Go.RowKit

structure Ad where
  k : Int
  n : Int
  r : Int
def adL (a : Ad) : List Value := [.int .i64 a.k, .int .i64 a.n, .int .i64 a.r]
def adV (a : Ad) : Value := .agg #[.int .i64 a.k, .int .i64 a.n, .int .i64 a.r]
/-- Is an address right, where so many expressions stand. -/
def rightS (a : Ad) (res : Int) : Bool :=
  if a.k = 1 then decide (0 ≤ a.n) && (decide (a.n ≤ 2147483648) && decide (a.r = 0))
  else if a.k = 3 then decide (a.n = 0) && (decide (a.r = -1) || (decide (0 ≤ a.r) && decide (a.r < res)))
  else (decide (a.k = 0) || decide (a.k = 2)) && (decide (a.n = 0) && decide (a.r = 0))
set_option maxHeartbeats 4000000 in
theorem rRight_any (a : Ad) (res : Int) (w : World) :
    Calls Try.prog 9 #[adV a, .int .i64 res] w fun e w' => e = .returned (.bool (rightS a res)) ∧ Below w.heap.size w w' := by
  have hb := Lib.hid (fun x y z => (Below.refl w.heap.size w).alloc (Nat.le_refl _) (.cells #[.int .i64 x, .int .i64 y, .int .i64 z] 23))
  generalize hR : rightS a res = R
  unfold rightS at hR
  unfold adV
  obtain ⟨k, n, r⟩ := a
  have hRh := Lib.hid hR
  clear hR
  go_enter Try.func9, Try.ntmps9
  by_cases h1 : k = 1
  · subst h1
    rw [if_pos rfl] at hRh
    go_wp2
    all_goals (go_ret; exact ⟨ret_bool (by rw [← hRh.out, Bool.eq_iff_iff]; simp <;> omega), hb.out _ _ _⟩)
  · rw [if_neg h1] at hRh
    by_cases h3 : k = 3
    · subst h3
      rw [if_pos rfl] at hRh
      go_wp2
      all_goals (go_ret; exact ⟨ret_bool (by rw [← hRh.out, Bool.eq_iff_iff]; simp <;> omega), hb.out _ _ _⟩)
    · rw [if_neg h3] at hRh
      go_wp2
      all_goals (go_ret; exact ⟨ret_bool (by rw [← hRh.out, Bool.eq_iff_iff]; simp <;> omega), hb.out _ _ _⟩)
end Go.Proofs.Ytailhicemogphaa
