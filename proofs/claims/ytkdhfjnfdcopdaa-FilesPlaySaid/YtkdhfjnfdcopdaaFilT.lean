/- Contracts: the law's own functions of package files: all. -/
import Derived.Test.YtkdhfjnfdcopdaaFilN
import Derived.Test.YtkdhfjnfdcopdaaFilI
namespace Go.Proofs.Ytkdhfjnfdcopdaa
open Go.RowKit

theorem flatT (ls : List (List UInt8)) (k : Nat) (h : k < ls.length) : (ls.take (k + 1)).flatten = (ls.take k).flatten ++ ls[k]'h := by
  rw [List.take_succ_eq_append_getElem h, List.flatten_append]; simp
def RelLA (w : World) (l : List UInt8) (ls : List (List UInt8)) (n : Nat) (v i : Value) (wr : World) : Prop :=
  ∃ k : Nat, k ≤ n ∧ i = .int .i64 (k : Nat) ∧ wr.ownsRow w.heap.size 5 1 v (l.length + (ls.take k).flatten.length) (bv (l ++ (ls.take k).flatten)) ∧ Below w.heap.size w wr
theorem RelLA.mk {w : World} {l : List UInt8} {ls : List (List UInt8)} {n : Nat} {v i : Value} {wr : World} (h : ∃ k : Nat, k ≤ n ∧ i = .int .i64 (k : Nat) ∧ wr.ownsRow w.heap.size 5 1 v (l.length + (ls.take k).flatten.length) (bv (l ++ (ls.take k).flatten)) ∧ Below w.heap.size w wr) : RelLA w l ls n v i wr := h

set_option maxHeartbeats 2000000 in
theorem lawAll_any (A1 : Option Addr) (n1 c1 : Nat) (l : List UInt8) (A : Option Addr) (n c : Nat) (ls : List (List UInt8)) (Q1 Q : Nat → Prop) (w : World) (hn1 : n1 = l.length) (hB : BytQ w Q1 A1 l)
    (hn : n = ls.length) (hnc : n ≤ c) (hm : c ≤ maxLen) (h : Bss w Q A ls) (hbig : l.length + ls.flatten.length ≤ 1000000) :
    Calls Try.prog 11 #[.slice A1 n1 c1, .slice A n c] w fun e w' => ∃ v, e = .returned v ∧ w'.ownsRow w.heap.size 5 1 v (l ++ ls.flatten).length (bv (l ++ ls.flatten)) ∧ Below w.heap.size w w' := by
  have hC := Lib.hid (copy_any A1 n1 c1 l Q1 w hn1 (by omega) hB)
  have hpre := Lib.hid (show ∀ k, l.length + (ls.take k).flatten.length ≤ 1000000 from fun k => by have := flat_take_le ls k; omega)
  have hH := Lib.hid hn
  have hh := Lib.hid h
  obtain ⟨i0, hi, hz0, hz1, hz2⟩ := info_parts byte_info4
  have hI1 := Lib.hid hz1
  have hI2 := Lib.hid hz2
  unfold maxLen at hm
  clear hn hn1 hB h hz1 hz2 hbig
  go_enter Try.func11, Try.ntmps11
  go_wp2_with (first
    | (go_at_call 30; refine (hC.out).mono ?_; rintro e w1 ⟨v1, rfl, ho1, hb1⟩
       replace ho1 := Lib.hid ho1))
  go_loopw [5, 6] (fun v i wr => RelLA w l ls n v i wr) (fun _ i _ => n - (intOf i).toNat)
  case atStart => exact RelLA.mk ⟨0, by omega, rfl, by simpa using ho1.out, hb1⟩
  case round =>
    clear ho1 hb1
    obtain ⟨k, hk, rfl, ho, hbr⟩ := hrel
    by_cases hlt : k < n
    · have hlk : k < ls.length := by have := hH.out; omega
      obtain ⟨ad, A2, n2, cp2, hA, hbk2, hd, hn2, hc2, hm2, hB2⟩ := (hh.out.keep (fun p _ hp => hbr.cell hp) (Q' := fun _ => True) (fun _ _ _ => trivial)).at_ hlk
      subst hA
      have hft := Lib.hid (flatT ls k hlk)
      have hp1 := hpre.out (k + 1)
      rw [hft.out, List.length_append, ← hn2] at hp1
      obtain ⟨A0, c0, rfl, -, -, -, -⟩ := own_vals ho
      replace hn2 := Lib.hid hn2
      unfold maxLen at hm2
      generalize hmm : l.length + (ls.take k).flatten.length = m at *
      have hp2 : m + n2 ≤ 1000000 := by omega
      replace hmm := Lib.hid hmm
      clear hp1
      go_wp2_with (at_builtin; refine wpList_append_at rfl _ _ 35 rfl w.heap.size 5 i0 (.int .u8 0) 1 1 Try.underlying35 hi hz0 hI1.out hI2.out rfl (by decide) (.slice A0 m c0) m (bv (l ++ (ls.take k).flatten)) rfl ho A2 n2 cp2 (bv (ls[k]'hlk)) rfl (by rw [bv_length, Nat.mul_one]; exact hn2.out.symm) hB2.byt.vals.src (bv_one _) (by unfold maxLen; omega) (by omega) hbr.size ?_; intro v4 w4 hown4 hg4 hb4)
      go_roundw
      case rel =>
        refine RelLA.mk ⟨k + 1, by omega, by go_num, ?_, below_append hbr ho hbr.size hg4⟩
        have e1 : l.length + (ls.take (k + 1)).flatten.length = m + n2 := by rw [hft.out, List.length_append, hn2.out, ← Nat.add_assoc, hmm.out]
        rw [e1, hft.out, ← List.append_assoc, bv_append]
        exact hown4
      case measure => simp [intOf]; omega
    · obtain rfl : k = n := by omega
      have e : (ls.take k) = ls := List.take_of_length_le (by have := hH.out; omega)
      rw [e] at ho
      replace ho := Lib.hid ho
      clear e
      go_wp2
      go_ret
      refine ⟨_, rfl, ?_, hbr⟩
      rw [List.length_append]; exact ho.out
end Go.Proofs.Ytkdhfjnfdcopdaa
