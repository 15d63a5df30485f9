/- Contract: allOnce. -/
import Derived.Test.YtbgalmnhhjiagaaM10
import Derived.Shelf.Abstract
set_option maxRecDepth 100000
namespace Go.Proofs.Ytbgalmnhhjiagaa
open Go.RowKit

/-- All are 1. -/
def onceL (l : List Int) : Bool := l.all fun x => decide (x = 1)
theorem onceL_no {l : List Int} {k : Nat} (hk : k < l.length) (h : l[k]'hk ≠ 1) : onceL l = false := by
  unfold onceL
  rw [List.all_eq_false]
  exact ⟨_, List.getElem_mem hk, by simpa using h⟩
theorem onceL_yes {l : List Int} (h : ∀ k (hk : k < l.length), l[k]'hk = 1) : onceL l = true := by
  unfold onceL
  rw [List.all_eq_true]
  intro x hx
  obtain ⟨k, hk, rfl⟩ := List.getElem_of_mem hx
  simpa using h k hk
theorem notOne_any (x : Int) (w : World) : Calls Try.prog 35 #[.int .i64 x] w fun e w' => e = .returned (.bool (x != 1)) ∧ w = w' := by
  go_enter Try.func35, Try.ntmps35
  go_wp2
  go_ret
  exact ⟨rfl, rfl⟩
/-- A place is told just if not all are 1. -/
def IdxRet (l : List Int) (w : World) (e : Ending) (w' : World) : Prop := ∃ z : Int, e = .returned (.int .i64 z) ∧ decide (0 ≤ z) = !onceL l ∧ w = w'
theorem IdxRet.mk {l : List Int} {w w' : World} {z : Int} (h : decide (0 ≤ z) = !onceL l) (hw : w = w') : IdxRet l w (.returned (.int .i64 z)) w' := ⟨z, rfl, h, hw⟩

set_option maxHeartbeats 1000000 in
theorem indexNot_any (A : Option Addr) (n c : Nat) (l : List Int) (B : Nat) (w : World) (hn : n = l.length) (hnc : n ≤ c) (hm : c ≤ maxLen) (h : Vals w B A (l.map (Value.int .i64))) :
    Calls Try.prog 38 #[.slice A n c, .func (.func 35) #[] #[]] w (IdxRet l w) := by
  unfold maxLen at hm
  have eg : ∀ args w, (callFunc 35 args).run Try.prog w = .ok (.enter 35 args) w := enters_of Try.func35 (by kernel_rfl) rfl
  have hH := Lib.hid hn
  clear hn
  go_enter Try.func38, Try.ntmps38
  go_wp2
  go_loop [5, 8] (fun _ i => ∃ k : Nat, k ≤ n ∧ i = .int .i64 (k : Nat) ∧ Hid (∀ j (hj : j < l.length), j < k → l[j]'hj = 1)) (fun _ i => n - (intOf i).toNat)
  case atStart => exact ⟨0, by omega, rfl, Lib.hid fun j hj h => absurd h (by omega)⟩
  case round =>
    obtain ⟨k, hk, rfl, hr⟩ := hrel
    by_cases hlt : k < n
    · have hkl : k < l.length := by have := hH.out; omega
      obtain ⟨ad, hA, -, hd⟩ := h.at_ (k := k) (by rw [List.length_map]; exact hkl)
      subst hA
      rw [List.getElem_map] at hd
      by_cases he : l[k]'hkl = 1
      · have hN := Lib.hid (show ∀ j (hj : j < l.length), j < k + 1 → l[j]'hj = 1 from fun j hj hl => by
          rcases Nat.lt_or_ge j k with h1 | h1
          · exact hr.out j hj h1
          · obtain rfl : j = k := by omega
            exact he)
        rw [he] at hd
        clear he
        have hS := Lib.hid (notOne_any 1 w)
        go_wp2_with (go_at_fn 35; refine (hS.out).mono ?_; rintro e w' ⟨rfl, rfl⟩)
        go_round
        case rel => exact ⟨k + 1, by omega, by go_num, hN⟩
        case measure => simp [intOf]; omega
      · have hP := Lib.hid (onceL_no hkl he)
        have hS := Lib.hid (show Calls Try.prog 35 #[.int .i64 (l[k]'hkl)] w fun e w' => e = .returned (.bool true) ∧ w = w' by
          have := notOne_any (l[k]'hkl) w
          rw [show (l[k]'hkl != 1) = true by rw [bne_iff_ne]; exact he] at this; exact this)
        generalize l[k]'hkl = x at *
        clear he
        go_wp2_with (go_at_fn 35; refine (hS.out).mono ?_; rintro e w' ⟨rfl, rfl⟩)
        go_ret
        exact IdxRet.mk (by rw [hP.out]; simp) rfl
    · obtain rfl : k = n := by omega
      go_wp2
      go_ret
      exact IdxRet.mk (by rw [onceL_yes fun j hj => hr.out j hj (by have := hH.out; omega)]; decide) rfl

theorem containsNot_any (A : Option Addr) (n c : Nat) (l : List Int) (B : Nat) (w : World) (hn : n = l.length) (hnc : n ≤ c) (hm : c ≤ maxLen) (h : Vals w B A (l.map (Value.int .i64))) :
    Calls Try.prog 34 #[.slice A n c, .func (.func 35) #[] #[]] w fun e w' => e = .returned (.bool (!onceL l)) ∧ w = w' := by
  have hI := Lib.hid (indexNot_any A n c l B w hn hnc hm h)
  clear hn h hnc hm
  go_enter Try.func34, Try.ntmps34
  go_wp2_with (go_at_call 38; refine (hI.out).mono ?_; rintro e w' ⟨z, rfl, hz, rfl⟩; have hz' := Lib.hid hz; clear hz)
  go_ret
  exact ⟨ret_bool hz'.out, rfl⟩
theorem allOnce_any (A : Option Addr) (n c : Nat) (l : List Int) (B : Nat) (w : World) (hn : n = l.length) (hnc : n ≤ c) (hm : c ≤ maxLen) (h : Vals w B A (l.map (Value.int .i64))) :
    Calls Try.prog 22 #[.slice A n c] w fun e w' => e = .returned (.bool (onceL l)) ∧ w = w' := by
  have hI := Lib.hid (containsNot_any A n c l B w hn hnc hm h)
  clear hn h hnc hm
  generalize onceL l = b at *
  go_enter Try.func22, Try.ntmps22
  go_wp2_with (go_at_call 34; refine (hI.out).mono ?_; rintro e w' ⟨rfl, rfl⟩)
  go_ret
  exact ⟨ret_bool (by simp), rfl⟩
end Go.Proofs.Ytbgalmnhhjiagaa
