/- Contract of lines.Join. -/
import Derived.Test.YtdmbjhgfiofbhaaLinE
namespace Go.Proofs.Ytdmbjhgfiofbhaa
open Go.RowKit

theorem joinS_take (ls : List Lin) (k : Nat) : (joinS (ls.take k)).length ≤ (joinS ls).length := by
  have := joinS_append (ls.take k) (ls.drop k)
  rw [List.take_append_drop] at this
  rw [this, List.length_append]; omega
theorem joinS_next (ls : List Lin) (k : Nat) (h : k < ls.length) : joinS (ls.take (k + 1)) = joinS (ls.take k) ++ lineB (ls[k]'h) := by
  rw [List.take_succ_eq_append_getElem h, joinS_append]; simp [joinS]

def RelJ (w : World) (ls : List Lin) (n : Nat) (v i : Value) (wr : World) : Prop :=
  ∃ k : Nat, k ≤ n ∧ i = .int .i64 (k : Nat) ∧ wr.ownsRow w.heap.size 5 1 v (joinS (ls.take k)).length (bv (joinS (ls.take k))) ∧ Below w.heap.size w wr
theorem RelJ.mk {w : World} {ls : List Lin} {n : Nat} {v i : Value} {wr : World} (h : ∃ k : Nat, k ≤ n ∧ i = .int .i64 (k : Nat) ∧ wr.ownsRow w.heap.size 5 1 v (joinS (ls.take k)).length (bv (joinS (ls.take k))) ∧ Below w.heap.size w wr) : RelJ w ls n v i wr := h

set_option maxHeartbeats 2000000 in
theorem join_any (A : Option Addr) (n c : Nat) (ls : List Lin) (w : World) (hn : n = ls.length) (hnc : n ≤ c) (hm : c ≤ maxLen) (hbig : (joinS ls).length ≤ 1000000) (h : Lins w w.heap.size A ls) :
    Calls Try.prog 14 #[.slice A n c] w fun e w' => ∃ v, e = .returned v ∧ w'.ownsRow w.heap.size 5 1 v (joinS ls).length (bv (joinS ls)) ∧ Below w.heap.size w w' := by
  obtain ⟨i0, hi, hz0, hz1, hz2⟩ := info_parts byte_info2
  have hI2 := Lib.hid hz2
  have hI1 := Lib.hid hz1
  have hN := Lib.hid hn
  have hH := Lib.hid h
  unfold maxLen at hm
  clear hn h hz2 hz1
  go_enter Try.func14, Try.ntmps14
  go_wp2
  go_loopw [3, 8] (fun v i wr => RelJ w ls n v i wr) (fun _ i _ => n - (intOf i).toNat)
  case atStart => exact RelJ.mk ⟨0, by omega, rfl, by simpa [joinS, bv] using World.ownsRow_nil w w.heap.size 5 1, Below.refl _ _⟩
  case round =>
    obtain ⟨k, hk, rfl, hown, hbr⟩ := hrel
    by_cases hlt : k < n
    · have hlk : k < ls.length := by have := hN.out; omega
      have hnx := Lib.hid (joinS_next ls k hlk)
      have hb1 := joinS_take ls (k + 1)
      rw [hnx.out, List.length_append, lineB_len] at hb1
      obtain ⟨ad, A1, n1, c1, hA, hbk, hd1, he1, hn1, hc1, hm1, hB1⟩ := (hH.out.below hbr).at_ hlk
      subst hA
      subst hn1
      obtain ⟨A0, c0, rfl, -, -, -, -⟩ := own_byt hown
      generalize joinS (ls.take k) = l0 at *
      generalize ls[k]'hlk = x at *
      obtain ⟨x1, x2⟩ := x
      have hvb : ∀ j, (Value.slice A0 l0.length c0).ownBlock = some j → j < wr.heap.size := fun j hj => (hown.lt j hj).2
      have hnl : ∀ (w1 : World), (wr.alloc (.cells #[.slice A1 x1.length c1, .bool x2] 27)).grownBy w1 (Value.slice A0 l0.length c0).ownBlock → w1.cell? ⟨wr.heap.size, 1, none⟩ = some (.bool x2) := fun w1 hg => by
        refine hg.cell (by go_simp) ?_
        intro e; have := hvb wr.heap.size e.symm; omega
      have hlen : l0.length + x1.length + (if x2 = true then 1 else 0) ≤ 1000000 := by
        have : l0.length + (x1.length + (if x2 = true then 1 else 0)) ≤ (joinS ls).length := hb1
        omega
      have hlen1 : l0.length + x1.length ≤ 1000000 := Nat.le_trans (Nat.le_add_right _ _) hlen
      have hownA := fun o => hown.alloc o
      have hvals : ∀ o : Obj, Vals (wr.alloc o) w.heap.size A1 (bv x1) := fun o => (Byt.keep hB1 fun p hp => World.cell?_alloc_lt wr _ p (by have := hbr.size; omega)).vals
      have hbase : ∀ o : Obj, w.heap.size ≤ (wr.alloc o).heap.size := fun o => by have := hbr.size; simp; omega
      have hX := Lib.hid hnx
      have hX1 := Lib.hid hb1
      clear hnx hb1
      cases x2 with
      | true =>
        simp only [if_true] at hlen
        go_wp2_with (first
          | (at_builtin; refine wpList_append_vals rfl _ _ 22 rfl w.heap.size 5 i0 (.int .u8 0) 1 Try.underlying22 hi hz0 hI1.out hI2.out rfl (.slice A0 l0.length c0) l0.length (bv l0) rfl (hownA _) w.heap.size A1 x1.length c1 (bv x1) rfl (bv_length x1).symm (hvals _) (bv_one x1) (by unfold maxLen; omega) (by omega) (hbase _) ?_; intro v6 w6 hown6 hg6; have hnl6 := hnl w6 hg6; have hb6 := below_append (hbr.alloc hbr.size _) (hownA _) (hbase _) hg6)
          | (at_builtin; refine wpList_append_vals rfl _ _ 22 rfl w.heap.size 5 i0 (.int .u8 0) 1 Try.underlying22 hi hz0 hI1.out hI2.out rfl v6 (l0.length + x1.length) (bv l0 ++ bv x1) rfl (hown6.alloc _) (w6.heap.size + 1) (some ⟨w6.heap.size, 0, none⟩) 1 1 [.int .u8 10] rfl rfl (vals_new w6 [.int .u8 10] 5 (0, 0)) (by simp [Value.oneCell']) (by unfold maxLen; omega) (by omega) (by have := hb6.size; simp; omega) ?_; intro v7 w7 hown7 hg7; have hb7 := below_append (hb6.alloc hb6.size _) (hown6.alloc _) (by have := hb6.size; simp; omega) hg7))
        go_roundw
        case rel =>
          refine RelJ.mk ⟨k + 1, by omega, by go_num, ?_, hb7⟩
          rw [hX.out]
          have e1 : (l0 ++ lineB (x1, true)).length = l0.length + x1.length + 1 := by simp [lineB]; omega
          have e2 : bv (l0 ++ lineB (x1, true)) = bv l0 ++ bv x1 ++ [.int .u8 10] := by simp [lineB, bv]
          rw [e1, e2]; exact hown7
        case measure => simp [intOf]; omega
      | false =>
        clear hlen
        go_wp2_with (first
          | (at_builtin; refine wpList_append_vals rfl _ _ 22 rfl w.heap.size 5 i0 (.int .u8 0) 1 Try.underlying22 hi hz0 hI1.out hI2.out rfl (.slice A0 l0.length c0) l0.length (bv l0) rfl (hownA _) w.heap.size A1 x1.length c1 (bv x1) rfl (bv_length x1).symm (hvals _) (bv_one x1) (by unfold maxLen; omega) (by omega) (hbase _) ?_; intro v6 w6 hown6 hg6; have hnl6 := hnl w6 hg6; have hb6 := below_append (hbr.alloc hbr.size _) (hownA _) (hbase _) hg6))
        go_roundw
        case rel =>
          refine RelJ.mk ⟨k + 1, by omega, by go_num, ?_, hb6⟩
          rw [hX.out]
          have e1 : (l0 ++ lineB (x1, false)).length = l0.length + x1.length := by simp [lineB]
          have e2 : bv (l0 ++ lineB (x1, false)) = bv l0 ++ bv x1 := by simp [lineB, bv]
          rw [e1, e2]; exact hown6
        case measure => simp [intOf]; omega
    · obtain rfl : k = n := by omega
      go_wp2
      go_ret
      refine ⟨_, rfl, ?_, hbr⟩
      rw [hN.out, List.take_length] at hown
      exact hown
end Go.Proofs.Ytdmbjhgfiofbhaa
