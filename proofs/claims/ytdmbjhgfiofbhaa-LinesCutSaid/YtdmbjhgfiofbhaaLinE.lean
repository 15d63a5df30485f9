/- Contracts of package lines: Count, Split, Nth, Join. -/
import Derived.Test.YtdmbjhgfiofbhaaLinD
import Derived.BigQuiet
namespace Go.Proofs.Ytdmbjhgfiofbhaa
open Go.RowKit

theorem line_info : (Try.prog.info? 27).map (fun i => (i.zero, i.size, i.bytes)) = some (some (.agg #[.slice none 0 0, .bool false]), 2, 32) := by kernel_rfl
theorem byte_info2 : (Try.prog.info? 5).map (fun i => (i.zero, i.size, i.bytes)) = some (some (.int .u8 0), 1, 1) := by kernel_rfl

set_option maxHeartbeats 1000000 in
theorem count_any (A : Option Addr) (n c : Nat) (l : List UInt8) (w : World) (hn : n = l.length) (hnc : n ≤ c) (hm : c ≤ maxLen) (h : Byt w w.heap.size A l) :
    Calls Try.prog 12 #[.slice A n c] w fun e w' => e = .returned (.int .i64 ((splitS l).length : Nat)) ∧ Below w.heap.size w w' := by
  have hS := splitS_count l
  have hle := splitS_le l
  unfold maxLen at hm
  have hC := Lib.hid (fun (w' : World) (b2 o2 : Nat) (hb : Below w.heap.size w w') (hc2 : w'.cell? ⟨b2, o2, none⟩ = some (.int .u8 10)) => countOne_any A n c b2 o2 1 l 10 _ w' hn (h.below hb) hc2)
  have hb1 : ∀ o1, Below w.heap.size w (w.alloc o1) := fun o1 => (Below.refl _ _).alloc (Nat.le_refl _) o1
  have hc2 : (w.alloc (.cells #[.int .u8 10] 5)).cell? ⟨w.heap.size, 0, none⟩ = some (.int .u8 10) := by
    have := new_one w (.int .u8 10) 5 0 _ rfl
    rwa [add_zero_off] at this
  have hcl : l.count 10 ≤ l.length := List.count_le_length
  rcases Nat.eq_zero_or_pos n with h0 | h0
  · obtain rfl : l = [] := List.eq_nil_of_length_eq_zero (by omega)
    subst hn
    clear hS hle hcl
    go_enter Try.func12, Try.ntmps12
    go_wp2_with (go_at_call 17; refine (hC.out _ _ _ (hb1 _) hc2).mono ?_; rintro e w1 ⟨rfl, rfl⟩)
    go_ret
    exact ⟨ret_int (by simp [splitS]), hb1 _⟩
  · obtain ⟨ad, hA, hbk, hd⟩ := h.at_ (k := n - 1) (by omega)
    subst hA
    have hlast : l.getLast? = some (l[n - 1]'(by omega)) := by
      rw [List.getLast?_eq_getElem?, show l.length - 1 = n - 1 by omega]; exact List.getElem?_eq_getElem (by omega)
    have hd2 := (hb1 (.cells #[.int .u8 10] 5)).cell (p := ad.add (n - 1)) (by rw [block_add]; exact hbk)
    rw [hd] at hd2
    rw [hlast] at hS
    generalize l[n - 1]'(by omega) = x at *
    by_cases hx : x = 10
    · subst hx
      rw [if_pos (.inr rfl)] at hS
      rw [hS]
      clear hS hle hn hlast hd h
      generalize l.count 10 = q at *
      go_enter Try.func12, Try.ntmps12
      go_wp2_with (first
        | (go_at_call 17; refine (hC.out _ _ _ (hb1 _) hc2).mono ?_; rintro e w1 ⟨rfl, rfl⟩))
      go_ret
      exact ⟨ret_int (by simp), hb1 _⟩
    · rw [if_neg (by simp [hx])] at hS
      have hx2 : (((x.toNat : Nat) : Int) == 10) = false := by
        rw [beq_eq_false_iff_ne]; intro e; exact hx (UInt8.toNat_inj.1 (by show x.toNat = 10; omega))
      have hq1 : l.count 10 + 1 ≤ n := by omega
      rw [hS]
      clear hS hle hlast hd h hx
      generalize l.count 10 = q at *
      generalize ((x.toNat : Nat) : Int) = y at *
      rw [← hn] at hcl
      clear hn
      go_enter Try.func12, Try.ntmps12
      go_wp2_with (first
        | (go_at_call 17; refine (hC.out _ _ _ (hb1 _) hc2).mono ?_; rintro e w1 ⟨rfl, rfl⟩))
      go_ret
      exact ⟨ret_int (by omega), hb1 _⟩
end Go.Proofs.Ytdmbjhgfiofbhaa
