/- Contract of lines.Split. -/
import Derived.Test.YtdmbjhgfiofbhaaLinE
namespace Go.Proofs.Ytdmbjhgfiofbhaa
open Go.RowKit

def RelS (w : World) (l : List UInt8) (n : Nat) (v i : Value) (wr : World) : Prop :=
  ∃ (k : Nat) (ls : List Lin), k ≤ n ∧ i = .int .i64 (k : Nat) ∧ ls.length ≤ k ∧ Hid (ls ++ splitS (l.drop k) = splitS l) ∧ OwnLins wr w.heap.size wr.heap.size v ls ∧ Below w.heap.size w wr
theorem RelS.mk {w : World} {l : List UInt8} {n : Nat} {v i : Value} {wr : World} (h : ∃ (k : Nat) (ls : List Lin), k ≤ n ∧ i = .int .i64 (k : Nat) ∧ ls.length ≤ k ∧ Hid (ls ++ splitS (l.drop k) = splitS l) ∧ OwnLins wr w.heap.size wr.heap.size v ls ∧ Below w.heap.size w wr) : RelS w l n v i wr := h

set_option maxHeartbeats 2000000 in
theorem split_any (A : Option Addr) (n c : Nat) (l : List UInt8) (w : World) (hn : n = l.length) (hnc : n ≤ c) (hm : c ≤ maxLen) (hbig : n ≤ 1000000) (h : Byt w w.heap.size A l) :
    Calls Try.prog 11 #[.slice A n c] w fun e w' => ∃ v, e = .returned v ∧ OwnLins w' w.heap.size w'.heap.size v (splitS l) ∧ Below w.heap.size w w' := by
  have hle := splitS_le l
  have hC := count_any A n c l w hn hnc hm h
  have hcut := fun (k : Nat) (hk : k < n) (wr : World) (hb : Below w.heap.size w wr) => cut_yes A n c k l wr hn hnc hm (by omega) ((h.below hb).more hb.size) hk
  obtain ⟨i0, hi, hz0, hz1, hz2⟩ := info_parts line_info
  have hI2 := Lib.hid hz2
  have hN : (splitS l).length ≤ n := by omega
  have hS := Lib.hid (show ∀ k, k < n → splitS (l.drop k) = (lnOf (l.drop k), hasNL (l.drop k)) :: splitS (l.drop (k + adv (l.drop k))) from fun k hk => by
    rw [splitS_cons (l.drop k) (by intro e; have := congrArg List.length e; simp at this; omega), List.drop_drop])
  have hA := Lib.hid (show ∀ k, k < n → 0 < adv (l.drop k) ∧ k + adv (l.drop k) ≤ n from fun k hk => by
    have h1 := adv_pos (d := l.drop k) (by intro e; have := congrArg List.length e; simp at this; omega)
    have h2 := adv_le (l.drop k); rw [List.length_drop] at h2
    exact ⟨h1, by omega⟩)
  have hE := Lib.hid (show splitS (l.drop n) = [] from by rw [hn, List.drop_length]; rfl)
  unfold maxLen at hm
  clear hle hn h hz2
  have hcut := Lib.hid hcut
  generalize hNN : (splitS l).length = N at *
  clear hNN
  have hC := Lib.hid hC
  go_enter Try.func11, Try.ntmps11
  go_wp2_with (first
    | (go_at_call 12; refine (hC.out).mono ?_; rintro e w1 ⟨rfl, hb1⟩)
    | (at_make; refine wpList_make_own _ rfl _ _ 24 rfl w.heap.size 27 i0 _ 2 Try.underlying24 hi hz0 hz1 _ _ _ N rfl rfl rfl (by rw [hI2.out]; omega) (by unfold maxLen; omega) (hb1.size) ?_; intro w2 hown2 hg2))
  have hb2 : Below w.heap.size w w2 := hb1.grown hg2 hb1.size (by simp)
  go_loopw [3, 4] (fun v i wr => RelS w l n v i wr) (fun _ i _ => n - (intOf i).toNat)
  case atStart => exact RelS.mk ⟨0, [], by omega, rfl, by simp, Lib.hid (by rw [List.drop_zero, List.nil_append]), ⟨[], rfl, hown2, by simp⟩, hb2⟩
  case round =>
    clear hown2 hb2 hg2 hb1
    obtain ⟨k, ls, hk, rfl, hlk, hst, hO, hbr⟩ := hrel
    by_cases hlt : k < n
    · obtain ⟨hq0, hq1⟩ := hA.out k hlt
      have hcut := Lib.hid (hcut.out k hlt wr hbr)
      have hS := Lib.hid (hS.out k hlt)
      have hT := Lib.hid (show (ls ++ [(lnOf (l.drop k), hasNL (l.drop k))]) ++ splitS (l.drop (k + adv (l.drop k))) = splitS l by
        rw [← hst.out, hS.out, List.append_assoc]; rfl)
      clear hS hst
      generalize adv (l.drop k) = q at *
      generalize lnOf (l.drop k) = x1 at *
      generalize hasNL (l.drop k) = x2 at *
      obtain ⟨A0, c0, rfl, -, -, -⟩ := hO.lins
      obtain ⟨vs, hl, hown, hBs⟩ := hO
      have hl := Lib.hid hl
      have hszA : ∀ (w : World) (o : Obj), (w.alloc o).heap.size = w.heap.size + 1 := fun w o => by simp
      go_wp2_with (first
        | (go_at_call 15; refine (hcut.out).mono ?_; rintro e w3 ⟨v1, rfl, ho, hb3⟩; obtain ⟨A1, c1, rfl, -, -, -, -⟩ := own_byt ho
           have hnews : ∀ (o1 : Obj) (j : Nat) (u : Value), [Value.slice A1 x1.length c1, .bool x2][j]? = some u → ((w3.alloc o1).alloc (.cells #[Value.slice A1 x1.length c1, .bool x2] 27)).cell? ((⟨w3.heap.size + 1, 0, none⟩ : Addr).add j) = some u := fun o1 => by
             have := new_cells (w3.alloc o1) [Value.slice A1 x1.length c1, .bool x2] 27
             rwa [hszA] at this
           have hbase : ∀ (o1 o2 : Obj), w.heap.size ≤ ((w3.alloc o1).alloc o2).heap.size := fun o1 o2 => by
             rw [hszA, hszA]; have := hbr.size; have := hb3.size; omega)
        | (at_builtin; refine wpList_append_rows rfl _ _ 24 rfl w.heap.size 27 i0 _ 2 32 Try.underlying24 hi hz0 hz1 hI2.out rfl (by decide) (.slice A0 ls.length c0) ls.length (linCells vs ls) rfl (((own_below hown hb3).alloc _).alloc _) ⟨w3.heap.size + 1, 0, none⟩ 1 1 [.slice A1 x1.length c1, .bool x2] rfl rfl (hnews _) (by simp [Value.oneCell']) (by unfold maxLen; omega) (by omega) (hbase _ _) ?_; intro v6 w6 hown6 hg6))
      have hb5 : ∀ (o1 o2 : Obj), Below wr.heap.size wr ((w3.alloc o1).alloc o2) := fun o1 o2 => (hb3.alloc hb3.size _).alloc (by rw [hszA]; have := hb3.size; omega) _
      go_roundw
      case rel =>
        refine RelS.mk ⟨k + q, ls ++ [(x1, x2)], hq1, by go_num, by simp; omega, hT, ?_, below_append (hbr.trans ((hb5 _ _).mono hbr.size)) (((own_below hown hb3).alloc _).alloc _) (hbase _ _) hg6⟩
        refine (OwnLins.snoc (x := (x1, x2)) ⟨ownsRow_base ((ho.alloc _).alloc _) hbr.size, fun j hj => ?_⟩ vs hl.out (fun j a b ha hb => ((hBs j a b ha hb).kept (grown_of_below (hb5 _ _)) (by cases a.ownBlock <;> simp)).more (hb5 _ _).size) (((own_below hown hb3).alloc _).alloc _) hg6 hown6).more hg6.size
        rw [hszA, hszA]; have := (ho.lt j hj).2; omega
      case measure => simp [intOf]; omega
    · obtain rfl : k = n := by omega
      go_wp2
      go_ret
      refine ⟨_, rfl, ?_, hbr⟩
      have e := hst.out
      rw [hE.out, List.append_nil] at e
      rw [← e]; exact hO
end Go.Proofs.Ytdmbjhgfiofbhaa
