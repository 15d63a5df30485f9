/- Contracts: the reference's test for the same files, of lists that are the same. -/
import Derived.Test.YtkdhfjnfdcopdaaFilB
import Derived.Test.YtkdhfjnfdcopdaaSmB
import Derived.BigQuiet
namespace Go.Proofs.Ytkdhfjnfdcopdaa
open Go.RowKit

set_option maxHeartbeats 2000000 in
theorem sameF_eq (A1 A2 : Option Addr) (n1 c1 n2 c2 : Nat) (fs : List Fil) (Q1 Q2 : Nat → Prop) (w : World) (hn1 : n1 = fs.length) (hn2 : n2 = fs.length) (hc1 : n1 ≤ c1) (hm1 : c1 ≤ maxLen) (h1 : Fils w Q1 A1 fs) (h2 : Fils w Q2 A2 fs) :
    Calls Try.prog 24 #[.slice A1 n1 c1, .slice A2 n2 c2] w fun e w' => e = .returned (.bool true) ∧ ∃ q, w' = w.drewN q := by
  unfold maxLen at hm1
  obtain rfl : n2 = n1 := by omega
  have hH1 := Lib.hid hn1
  clear hn1 hn2
  go_enter Try.func24, Try.ntmps24
  go_wp2
  go_loopw [5] (fun i wr => ∃ k q : Nat, k ≤ n2 ∧ i = .int .i64 ((k : Nat) : Int) ∧ wr = w.drewN q) (fun i _ => n2 - (intOf i).toNat)
  case atStart => exact ⟨0, 0, by omega, rfl, rfl⟩
  case round =>
    obtain ⟨k, q, hk, rfl, rfl⟩ := hrel
    by_cases hlt : k < n2
    · have hlk : k < fs.length := by have := hH1.out; omega
      obtain ⟨ad1, A3, n3, c3, hA1, -, hd1, he1, hn3, hc3, hm3, hB3⟩ := h1.at_ hlk
      obtain ⟨ad2, A4, n4, c4, hA2, -, hd2, he2, hn4, hc4, hm4, hB4⟩ := h2.at_ hlk
      subst hA1
      subst hA2
      have hS := fun m => quiet_at (sameB_any A3 A4 n3 c3 n4 c4 _ _ w.heap.size (w.drewN (q + m)) hn3 hn4 hc3 hc4 hm3 hB3.byt hB4.byt)
      simp only [beq_self_eq_true] at hS
      replace hS := Lib.hid hS
      clear hn3 hn4 hB3 hB4
      generalize fs[k]'hlk = x at *
      obtain ⟨nm, l⟩ := x
      go_wp2
      go_quiet ((go_at_call 21; exact hS.out _))
      all_goals go_wp2
      go_roundw
      case rel => exact ⟨k + 1, _, by omega, by go_num, by first | rfl | exact World.drewN_drewN _ _ _⟩
      case measure => simp [intOf]; omega
    · go_wp2
      go_ret
      exact ⟨rfl, _, rfl⟩
end Go.Proofs.Ytkdhfjnfdcopdaa
