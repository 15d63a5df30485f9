/- Contract: the references' test for the same bytes (palinoderef01.Same). -/
import Derived.Test.YtdjnlploddlkbaaProg
import Derived.Test.YtdjnlploddlkbaaApp
import Derived.Lib.Hide
import Derived.Deep.QuietTactic
import Derived.BigQuiet
set_option maxRecDepth 100000
namespace Go.Proofs.Ytdjnlploddlkbaa
open Go.RowKit

theorem take_next {α : Type} (l : List α) (k : Nat) (h : k < l.length) : l.take (k + 1) = l.take k ++ [l[k]'h] := by simp
theorem u8_ne {a b : UInt8} (h : a ≠ b) : (((a.toNat : Nat) : Int) == ((b.toNat : Nat) : Int)) = false := by
  rw [beq_eq_false_iff_ne]; intro e; exact h (UInt8.toNat_inj.1 (by omega))

set_option maxHeartbeats 1000000 in
theorem sameB_any (A1 A2 : Option Addr) (n1 c1 n2 c2 : Nat) (l1 l2 : List UInt8) (B : Nat) (w : World) (hn1 : n1 = l1.length) (hn2 : n2 = l2.length) (hc1 : n1 ≤ c1) (hc2 : n2 ≤ c2) (hm1 : c1 ≤ maxLen) (h1 : Byt w B A1 l1) (h2 : Byt w B A2 l2) :
    Calls Try.prog 15 #[.slice A1 n1 c1, .slice A2 n2 c2] w fun e w' => e = .returned (.bool (l1 == l2)) ∧ ∃ q, w' = w.drewN q := by
  unfold maxLen at hm1
  by_cases hlen : n1 = n2
  · subst hlen
    have hH1 := Lib.hid hn1
    have hH2 := Lib.hid hn2
    clear hn1 hn2
    go_enter Try.func15, Try.ntmps15
    go_wp2
    go_loopw [5] (fun i wr => ∃ k q : Nat, k ≤ n1 ∧ i = .int .i64 ((k : Nat) : Int) ∧ Hid (l1.take k = l2.take k) ∧ wr = w.drewN q) (fun i _ => n1 - (intOf i).toNat)
    case atStart => exact ⟨0, 0, by omega, rfl, rfl, rfl⟩
    case round =>
      obtain ⟨k, q, hk, rfl, hr, rfl⟩ := hrel
      by_cases hlt : k < n1
      · have hk1 : k < l1.length := by have := hH1.out; omega
        have hk2 : k < l2.length := by have := hH2.out; omega
        obtain ⟨ad1, hA1, -, hd1⟩ := h1.at_ hk1
        obtain ⟨ad2, hA2, -, hd2⟩ := h2.at_ hk2
        subst hA1
        subst hA2
        have t1 := take_next l1 k hk1
        have t2 := take_next l2 k hk2
        by_cases he : l1[k]'hk1 = l2[k]'hk2
        · rw [← he] at hd2 t2
          have hT := Lib.hid (show l1.take (k + 1) = l2.take (k + 1) by rw [t1, t2, hr.out])
          clear t1 t2 he
          generalize ((l1[k]'hk1).toNat : Int) = z at hd1 hd2
          go_wp2_with (first | go_region | fail)
          go_roundw
          case rel => exact ⟨k + 1, q + 1, by omega, by go_num, hT, rfl⟩
          case measure => simp [intOf]; omega
        · have hne := u8_ne he
          have hF : (l1 == l2) = false := by
            rw [beq_eq_false_iff_ne]; intro e; subst e; exact he rfl
          clear t1 t2 he
          have hG := Lib.hid hF
          clear hF
          generalize ((l1[k]'hk1).toNat : Int) = z1 at hd1 hne
          generalize ((l2[k]'hk2).toNat : Int) = z2 at hd2 hne
          go_wp2_with (first | go_region | fail)
          go_ret
          exact ⟨ret_bool hG.out.symm, by first | exact ⟨_, rfl⟩ | exact ⟨_, World.drewN_drewN _ _ _⟩⟩
      · go_wp2
        go_ret
        refine ⟨ret_bool ?_, _, rfl⟩
        have e1 := hr.out
        rw [List.take_of_length_le (by have := hH1.out; omega), List.take_of_length_le (by have := hH2.out; omega)] at e1
        rw [e1]; simp
  · have hF : (l1 == l2) = false := by
      rw [beq_eq_false_iff_ne]; intro e; subst e; omega
    rw [hF]
    clear hF hn1 hn2
    go_enter Try.func15, Try.ntmps15
    go_wp2
    go_ret
    exact ⟨rfl, 0, rfl⟩

/-- A quiet callee, met in a world that has drawn. -/
theorem quiet_at {P : Program} {f : FuncId} {args : Array Value} {w : World} {q n : Nat} {v : Value} (h : Calls P f args (w.drewN (q + n)) fun e w' => e = .returned v ∧ ∃ m, w' = (w.drewN (q + n)).drewN m) :
    Calls P f args (w.drewN (q + n)) fun e w'' => e = .returned v ∧ ∃ m, w'' = w.drewN (q + m) :=
  h.mono fun _ _ ⟨he, m, hm⟩ => ⟨he, n + m, by rw [hm, World.drewN_drewN, Nat.add_assoc]⟩
end Go.Proofs.Ytdjnlploddlkbaa
