/- Contracts: is a span a part of a text (package swap's isPart, the reference's in); its bytes (cut); is a part a text (isText). -/
import Derived.Test.YtkfdehkembcaoaaProg
import Derived.Test.YtkfdehkembcaoaaSwpA
import Derived.Deep.QuietTactic
import Derived.BigQuiet
set_option linter.unusedVariables false
set_option linter.unusedSimpArgs false
set_option maxRecDepth 100000
namespace Go.Proofs.Ytkfdehkembcaoaa
open Go.RowKit

theorem inB_of1 {a b : Int} {n : Nat} (h : ¬ 0 ≤ a) : inB (a, b) n = false := inB_not.2 (.inl (by simpa using h))
theorem inB_of2 {a b : Int} {n : Nat} (h : ¬ a ≤ b) : inB (a, b) n = false := inB_not.2 (.inr (.inl (by simpa using h)))
theorem inB_of3 {a b : Int} {n : Nat} (h : ¬ b ≤ (n : Int)) : inB (a, b) n = false := inB_not.2 (.inr (.inr (by simpa using h)))
set_option maxHeartbeats 1000000 in
theorem isPart_any (A : Option Addr) (n c : Nat) (a b : Int) (w : World) :
    Calls Try.prog 30 #[.slice A n c, .agg #[.int .i64 a, .int .i64 b]] w fun e w' => e = .returned (.bool (inB (a, b) n)) ∧ Below w.heap.size w w' := by
  have hb := Lib.hid ((Below.refl w.heap.size w).alloc (Nat.le_refl _) (.cells #[.int .i64 a, .int .i64 b] 35))
  by_cases h1 : 0 ≤ a
  · by_cases h2 : a ≤ b
    · by_cases h3 : b ≤ (n : Int)
      · have hR := Lib.hid (show inB (a, b) n = true from inB_iff.2 ⟨h1, h2, h3⟩)
        go_enter Try.func30, Try.ntmps30
        go_wp2
        go_ret
        exact ⟨ret_bool hR.out.symm, hb.out⟩
      · have hR := Lib.hid (inB_of3 (a := a) h3)
        go_enter Try.func30, Try.ntmps30
        go_wp2
        go_ret
        exact ⟨ret_bool hR.out.symm, hb.out⟩
    · have hR := Lib.hid (inB_of2 (n := n) h2)
      go_enter Try.func30, Try.ntmps30
      go_wp2
      go_ret
      exact ⟨ret_bool hR.out.symm, hb.out⟩
  · have hR := Lib.hid (inB_of1 (b := b) (n := n) h1)
    go_enter Try.func30, Try.ntmps30
    go_wp2
    go_ret
    exact ⟨ret_bool hR.out.symm, hb.out⟩
set_option maxHeartbeats 1000000 in
theorem inR_any (A : Option Addr) (n c : Nat) (a b : Int) (w : World) :
    Calls Try.prog 29 #[.agg #[.int .i64 a, .int .i64 b], .slice A n c] w fun e w' => e = .returned (.bool (inB (a, b) n)) ∧ Below w.heap.size w w' := by
  have hb := Lib.hid ((Below.refl w.heap.size w).alloc (Nat.le_refl _) (.cells #[.int .i64 a, .int .i64 b] 35))
  by_cases h1 : 0 ≤ a
  · by_cases h2 : a ≤ b
    · by_cases h3 : b ≤ (n : Int)
      · have hR := Lib.hid (show inB (a, b) n = true from inB_iff.2 ⟨h1, h2, h3⟩)
        go_enter Try.func29, Try.ntmps29
        go_wp2
        go_ret
        exact ⟨ret_bool hR.out.symm, hb.out⟩
      · have hR := Lib.hid (inB_of3 (a := a) h3)
        go_enter Try.func29, Try.ntmps29
        go_wp2
        go_ret
        exact ⟨ret_bool hR.out.symm, hb.out⟩
    · have hR := Lib.hid (inB_of2 (n := n) h2)
      go_enter Try.func29, Try.ntmps29
      go_wp2
      go_ret
      exact ⟨ret_bool hR.out.symm, hb.out⟩
  · have hR := Lib.hid (inB_of1 (b := b) (n := n) h1)
    go_enter Try.func29, Try.ntmps29
    go_wp2
    go_ret
    exact ⟨ret_bool hR.out.symm, hb.out⟩
theorem isText_any (k g : Int) (v : Value) (w : World) :
    Calls Try.prog 27 #[.agg #[.int .i64 k, .int .i64 g, v]] w fun e w' => e = .returned (.bool (k == 0)) ∧ Below w.heap.size w w' := by
  have hb := Lib.hid ((Below.refl w.heap.size w).alloc (Nat.le_refl _) (.cells #[.int .i64 k, .int .i64 g, v] 45))
  go_enter Try.func27, Try.ntmps27
  go_wp2
  go_ret
  exact ⟨rfl, hb.out⟩
set_option maxHeartbeats 1000000 in
theorem cut_any (A : Option Addr) (n c : Nat) (t : List UInt8) (B : Nat) (a b : Int) (w : World) (hn : n = t.length) (hnc : n ≤ c) (hm : c ≤ maxLen) (hB : B ≤ w.heap.size) (h : Byt w B A t) :
    Calls Try.prog 28 #[.slice A n c, .agg #[.int .i64 a, .int .i64 b]] w fun e w' => (∃ v, e = .returned v ∧ BytV w' B v (cutB t (a, b))) ∧ Below w.heap.size w w' := by
  have hb := Lib.hid ((Below.refl w.heap.size w).alloc (Nat.le_refl _) (.cells #[.int .i64 a, .int .i64 b] 35))
  have hP := Lib.hid (fun w' => isPart_any A n c a b w')
  cases hi : inB (a, b) n with
  | false =>
    have hR := Lib.hid (show cutB t (a, b) = [] by unfold cutB; rw [← hn, if_neg (by rw [hi]; decide)])
    rw [hi] at hP
    clear hi h hn
    go_enter Try.func28, Try.ntmps28
    go_wp2_with (go_at_call 30; refine (hP.out _).mono ?_; rintro e w1 ⟨rfl, hb1⟩)
    go_ret
    exact ⟨⟨_, rfl, by rw [hR.out]; exact BytV.nil _ _⟩, hb.out.trans (hb1.mono hb.out.size)⟩
  | true =>
    have h3 := inB_iff.1 hi
    obtain ⟨i, rfl⟩ := Int.eq_ofNat_of_zero_le h3.1
    obtain ⟨j, rfl⟩ := Int.eq_ofNat_of_zero_le (Int.le_trans h3.1 h3.2.1)
    have hij : i ≤ j := by have := h3.2.1; simp at this; omega
    have hjn : j ≤ n := by have := h3.2.2; simp at this; omega
    have hR := Lib.hid (show cutB t ((i : Int), (j : Int)) = (t.take j).drop i by unfold cutB; rw [← hn, if_pos hi]; rfl)
    rw [hi] at hP
    have hcut := Lib.hid (h.cut (i := i) (j := j) (cap := c) (by omega) (by omega))
    have hnh := Lib.hid hn
    have hBw := Lib.hid (fun (w' : World) (hb : Below w.heap.size w w') => hb)
    unfold maxLen at hm
    clear hi h hn h3
    go_enter Try.func28, Try.ntmps28
    go_wp2_with (go_at_call 30; refine (hP.out _).mono ?_; rintro e w1 ⟨rfl, hb1⟩; have hb2 := Lib.hid (hb.out.trans (hb1.mono hb.out.size)); have c0 : w1.cell? ⟨w.heap.size, 0, none⟩ = some (.int .i64 (i : Int)) := ((held_new w 35 #[.int .i64 (i : Int), .int .i64 (j : Int)]).keep hb1).at_ rfl; have c1 : w1.cell? ⟨w.heap.size, 1, none⟩ = some (.int .i64 (j : Int)) := ((held_new w 35 #[.int .i64 (i : Int), .int .i64 (j : Int)]).keep hb1).at_ rfl)
    all_goals (have hc := hcut.out)
    · rw [if_pos h] at hc
      go_ret
      exact ⟨⟨_, rfl, _, _, _, rfl, by rw [hR.out, List.length_drop, List.length_take, ← hnh.out, Nat.min_eq_left hjn], by omega, by unfold maxLen; omega, by rw [hR.out]; exact hc.below (hb2.out.mono hB)⟩, hb2.out⟩
    · rw [if_neg h] at hc
      go_ret
      exact ⟨⟨_, rfl, _, _, _, rfl, by rw [hR.out, List.length_drop, List.length_take, ← hnh.out, Nat.min_eq_left hjn], by omega, by unfold maxLen; omega, by rw [hR.out]; exact hc.below (hb2.out.mono hB)⟩, hb2.out⟩
end Go.Proofs.Ytkfdehkembcaoaa
