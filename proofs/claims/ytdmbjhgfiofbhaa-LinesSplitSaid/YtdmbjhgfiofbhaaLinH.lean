/- Contract of the reference's Split. -/
import Derived.Test.YtdmbjhgfiofbhaaLinE
namespace Go.Proofs.Ytdmbjhgfiofbhaa
open Go.RowKit

/-- Lines of which the first has the bytes cur ahead of it. -/
def headS (cur : List UInt8) : List Lin → List Lin
  | [] => []
  | (x, b) :: t => (cur ++ x, b) :: t
theorem headS_nil (l : List Lin) : headS [] l = l := by cases l <;> rfl
theorem headS_nl (cur r : List UInt8) : headS cur (splitS (10 :: r)) = (cur, true) :: splitS r := by simp [splitS, headS]
theorem headS_more (cur : List UInt8) (c : UInt8) (r : List UInt8) (hc : c ≠ 10) (hr : r ≠ []) : headS cur (splitS (c :: r)) = headS (cur ++ [c]) (splitS r) := by
  rw [splitS, if_neg hc, splitS_cons r hr]; simp [headS]
theorem headS_last (cur : List UInt8) (c : UInt8) (hc : c ≠ 10) : headS cur (splitS [c]) = [(cur ++ [c], false)] := by
  rw [splitS, if_neg hc]; simp [headS, splitS]

def RelR (w : World) (l : List UInt8) (n : Nat) (v u i : Value) (wr : World) : Prop :=
  ∃ (k : Nat) (ls : List Lin) (cur : List UInt8) (B : Nat), k ≤ n ∧ i = .int .i64 (k : Nat) ∧ ls.length ≤ k ∧ cur.length ≤ k ∧ w.heap.size ≤ B ∧ B ≤ wr.heap.size ∧
    (k < n → Hid (ls ++ headS cur (splitS (l.drop k)) = splitS l) ∧ wr.ownsRow B 5 1 u cur.length (bv cur)) ∧ (k = n → Hid (ls = splitS l)) ∧ OwnLins wr w.heap.size B v ls ∧ Below w.heap.size w wr
theorem RelR.mk {w : World} {l : List UInt8} {n : Nat} {v u i : Value} {wr : World} (h : ∃ (k : Nat) (ls : List Lin) (cur : List UInt8) (B : Nat), k ≤ n ∧ i = .int .i64 (k : Nat) ∧ ls.length ≤ k ∧ cur.length ≤ k ∧ w.heap.size ≤ B ∧ B ≤ wr.heap.size ∧
    (k < n → Hid (ls ++ headS cur (splitS (l.drop k)) = splitS l) ∧ wr.ownsRow B 5 1 u cur.length (bv cur)) ∧ (k = n → Hid (ls = splitS l)) ∧ OwnLins wr w.heap.size B v ls ∧ Below w.heap.size w wr) : RelR w l n v u i wr := h

set_option maxHeartbeats 2000000 in
theorem refSplit_any (A : Option Addr) (n c : Nat) (l : List UInt8) (w : World) (hn : n = l.length) (hnc : n ≤ c) (hbig : n ≤ 1000000) (h : Byt w w.heap.size A l) :
    Calls Try.prog 8 #[.slice A n c] w fun e w' => ∃ v, e = .returned v ∧ OwnLins w' w.heap.size w'.heap.size v (splitS l) ∧ Below w.heap.size w w' := by
  obtain ⟨i0, hi, hz0, hz1, hz2⟩ := info_parts byte_info2
  obtain ⟨j0, hj, hy0, hy1, hy2⟩ := info_parts line_info
  have hI2 := Lib.hid hz2
  have hI1 := Lib.hid hz1
  have hJ2 := Lib.hid hy2
  have hJ1 := Lib.hid hy1
  have hN := Lib.hid hn
  have hH := Lib.hid h
  clear hn h hz2 hz1 hy1 hy2
  have hszA : ∀ (w : World) (o : Obj), (w.alloc o).heap.size = w.heap.size + 1 := fun w o => by simp
  have hdrop : ∀ k (hk : k < l.length), l.drop k = l[k] :: l.drop (k + 1) := fun k hk => List.drop_eq_getElem_cons hk
  go_enter Try.func8, Try.ntmps8
  go_wp2
  go_loopw [3, 4, 5] (fun v u i wr => RelR w l n v u i wr) (fun _ _ i _ => n - (intOf i).toNat)
  case atStart =>
    refine RelR.mk ⟨0, [], [], w.heap.size, by omega, rfl, by simp, by simp, Nat.le_refl _, Nat.le_refl _, fun _ => ⟨Lib.hid (by rw [List.drop_zero, headS_nil, List.nil_append]), World.ownsRow_nil _ _ _ _⟩, fun h0 => Lib.hid ?_, OwnLins.nil_ _ _ _, Below.refl _ _⟩
    obtain rfl : l = [] := List.eq_nil_of_length_eq_zero (by have := hN.out; omega)
    rfl
  case round =>
    obtain ⟨k, ls, cur, B, hk, rfl, hlk, hck, hB1, hB2, hlt', hend, hO, hbr⟩ := hrel
    by_cases hlt : k < n
    · have hlk2 : k < l.length := by have := hN.out; omega
      obtain ⟨hst, hown4⟩ := hlt' hlt
      clear hlt' hend
      obtain ⟨A3, c3, rfl, -, -, -⟩ := hO.lins
      obtain ⟨A4, c4, rfl, -, -, -, -⟩ := own_byt hown4
      obtain ⟨ad, hA, hbk, hd⟩ := (hH.out.below hbr).at_ hlk2
      subst hA
      have hD := Lib.hid (hdrop k hlk2)
      have hrl : (l.drop (k + 1)).length = n - (k + 1) := by rw [List.length_drop, ← hN.out]
      have hrl := Lib.hid hrl
      obtain ⟨vs, hl, hown3, hBs⟩ := id hO
      have hl := Lib.hid hl
      clear hdrop
      generalize l[k]'hlk2 = x at *
      generalize hr : l.drop (k + 1) = r at *
      rw [hD.out] at hst
      have hr := Lib.hid hr
      by_cases hx : x = 10
      · subst hx
        have hT := Lib.hid (show (ls ++ [(cur, true)]) ++ splitS r = splitS l by rw [← hst.out, headS_nl, List.append_assoc]; rfl)
        have hT2 := Lib.hid (show k + 1 = n → r = [] from fun e => List.eq_nil_of_length_eq_zero (by rw [hrl.out]; omega))
        clear hst hD
        go_wp2_with (first
          | (at_builtin; refine wpList_append_rows rfl _ _ 24 rfl w.heap.size 27 j0 _ 2 32 Try.underlying24 hj hy0 hJ1.out hJ2.out rfl (by decide) (.slice A3 ls.length c3) ls.length (linCells vs ls) rfl (hown3.alloc _) ⟨wr.heap.size, 0, none⟩ 1 1 [.slice A4 cur.length c4, .bool true] rfl rfl (new_cells wr _ _) (by simp [Value.oneCell']) (by unfold maxLen; omega) (by omega) (by rw [hszA]; omega) ?_; intro v6 w6 hown6 hg6))
        go_roundw
        case rel =>
          refine RelR.mk ⟨k + 1, ls ++ [(cur, true)], [], w6.heap.size, by omega, by go_num, by simp; omega, by simp, ?_, Nat.le_refl _, fun _ => ⟨Lib.hid (by rw [hr.out, headS_nil]; exact hT.out), World.ownsRow_nil _ _ _ _⟩, fun e => Lib.hid ?_, ?_, below_append (hbr.alloc hbr.size _) (hown3.alloc _) (by rw [hszA]; omega) hg6⟩
          · have := hg6.size; rw [hszA] at this; omega
          · have e2 := hT.out; rw [hT2.out e] at e2; simpa [splitS] using e2
          · refine (OwnLins.snoc (x := (cur, true)) ⟨ownsRow_base (hown4.alloc _) hB1, fun j hj => ?_⟩ vs hl.out (fun j a b ha hb => ((hBs j a b ha hb).kept (World.grownBy_alloc wr _ none) (by cases a.ownBlock <;> simp)).more (by rw [hszA]; omega)) (hown3.alloc _) hg6 hown6).more hg6.size
            rw [hszA]; have := (hown4.lt j hj).2; omega
        case measure => simp [intOf]; omega
      · have hx2 : (((x.toNat : Nat) : Int) == 10) = false := by
          rw [beq_eq_false_iff_ne]; intro e; exact hx (UInt8.toNat_inj.1 (by show x.toNat = 10; omega))
        have hne : 27 ≠ 5 := by decide
        have hO6f : ∀ (o : Obj) (w6 : World), (wr.alloc o).grownBy w6 (Value.slice A4 cur.length c4).ownBlock → OwnLins w6 w.heap.size B (.slice A3 ls.length c3) ls := fun o w6 hg =>
          (hO.kept (World.grownBy_alloc wr o none) (by cases (Value.slice A3 ls.length c3).ownBlock <;> simp) (fun _ h => by cases h)).kept hg (ownsRow_ne (hown3.alloc o) (hown4.alloc o) hne) (fun j hj => (hown4.lt j hj).1)
        by_cases hlast : k + 1 = n
        · have hr0 : r = [] := List.eq_nil_of_length_eq_zero (by rw [hrl.out]; omega)
          subst hr0
          have hT := Lib.hid (show ls ++ [(cur ++ [x], false)] = splitS l by rw [← hst.out, headS_last cur x hx])
          clear hst hD hx
          subst hlast
          go_wp2_with (first
            | (at_builtin; refine wpList_append_vals rfl _ _ 22 rfl B 5 i0 (.int .u8 0) 1 Try.underlying22 hi hz0 hI1.out hI2.out rfl (.slice A4 cur.length c4) cur.length (bv cur) rfl (hown4.alloc _) (wr.heap.size + 1) (some ⟨wr.heap.size, 0, none⟩) 1 1 [.int .u8 ((x.toNat : Nat) : Int)] rfl rfl (vals_new wr [.int .u8 ((x.toNat : Nat) : Int)] 5 (0, 0)) (by simp [Value.oneCell']) (by unfold maxLen; omega) (by omega) (by rw [hszA]; omega) ?_; intro v6 w6 hown6 hg6; have hown6b : w6.ownsRow B 5 1 v6 (cur.length + 1) (bv (cur ++ [x])) := (by simpa [bv] using hown6); obtain ⟨A6, c6, rfl, -, -, -, -⟩ := own_byt hown6b; have hO6 := hO6f _ w6 hg6; have hw6 := hg6.size; have hb6 := below_append (hbr.alloc hbr.size _) (ownsRow_base (hown4.alloc _) hB1) (by rw [hszA]; have := hbr.size; omega) hg6; have hbs6 := hb6.size; obtain ⟨vs6, hl6, hown36, hBs6⟩ := hO6; have hl6 := Lib.hid hl6)
            | (at_builtin; refine wpList_append_rows rfl _ _ 24 rfl w.heap.size 27 j0 _ 2 32 Try.underlying24 hj hy0 hJ1.out hJ2.out rfl (by decide) (.slice A3 ls.length c3) ls.length (linCells vs6 ls) rfl (hown36.alloc _) ⟨w6.heap.size, 0, none⟩ 1 1 [.slice A6 (cur.length + 1) c6, .bool false] rfl rfl (new_cells w6 _ _) (by simp [Value.oneCell']) (by unfold maxLen; omega) (by omega) (by rw [hszA]; omega) ?_; intro v7 w7 hown7 hg7))
          go_roundw
          case rel =>
            have hs6 := hw6
            rw [hszA] at hs6
            have hs7 := hg7.size
            rw [hszA] at hs7
            refine RelR.mk ⟨k + 1, ls ++ [(cur ++ [x], false)], [], w7.heap.size, by omega, by go_num, by rw [List.length_append]; simp; try omega, by simp, by omega, Nat.le_refl _, fun e => absurd e (by omega), fun _ => hT, ?_, below_append (hb6.alloc hb6.size _) (hown36.alloc _) (by rw [hszA]; omega) hg7⟩
            refine (OwnLins.snoc (x := (cur ++ [x], false)) ⟨ownsRow_base (by simpa using hown6b.alloc _) hB1, fun j hj => ?_⟩ vs6 hl6.out (fun j a b ha hb => ((hBs6 j a b ha hb).kept (World.grownBy_alloc w6 _ none) (by cases a.ownBlock <;> simp)).more (by rw [hszA]; omega)) (hown36.alloc _) hg7 hown7).more hg7.size
            rw [hszA]; have := (hown6b.lt j hj).2; omega
          case measure => simp [intOf]; try omega
        · have hT := Lib.hid (show ls ++ headS (cur ++ [x]) (splitS r) = splitS l by rw [← hst.out, headS_more cur x r hx (by intro e; have := hrl.out; rw [e] at this; simp at this; omega)])
          clear hst hD hx
          have hk1 : ((k : Int) == (n : Int) - 1) = false := by rw [beq_eq_false_iff_ne]; omega
          go_wp2_with (first
            | (at_builtin; refine wpList_append_vals rfl _ _ 22 rfl B 5 i0 (.int .u8 0) 1 Try.underlying22 hi hz0 hI1.out hI2.out rfl (.slice A4 cur.length c4) cur.length (bv cur) rfl (hown4.alloc _) (wr.heap.size + 1) (some ⟨wr.heap.size, 0, none⟩) 1 1 [.int .u8 ((x.toNat : Nat) : Int)] rfl rfl (vals_new wr [.int .u8 ((x.toNat : Nat) : Int)] 5 (0, 0)) (by simp [Value.oneCell']) (by unfold maxLen; omega) (by omega) (by rw [hszA]; omega) ?_; intro v6 w6 hown6 hg6; have hown6b : w6.ownsRow B 5 1 v6 (cur.length + 1) (bv (cur ++ [x])) := (by simpa [bv] using hown6); obtain ⟨A6, c6, rfl, -, -, -, -⟩ := own_byt hown6b; have hO6 := hO6f _ w6 hg6; have hw6 := hg6.size; have hb6 := below_append (hbr.alloc hbr.size _) (ownsRow_base (hown4.alloc _) hB1) (by rw [hszA]; have := hbr.size; omega) hg6; have hbs6 := hb6.size))
          go_roundw
          case rel =>
            have hs6 := hw6
            rw [hszA] at hs6
            exact RelR.mk ⟨k + 1, ls, cur ++ [x], B, by omega, by go_num, by omega, by simp; omega, hB1, by omega, fun _ => ⟨Lib.hid (by rw [hr.out]; exact hT.out), by simpa using hown6b⟩, fun e => absurd e hlast, hO6, hb6⟩
          case measure => simp [intOf]; omega
    · obtain rfl : k = n := by omega
      have hE := hend rfl
      go_wp2
      go_ret
      refine ⟨_, rfl, ?_, hbr⟩
      rw [← hE.out]; exact hO.more hB2
end Go.Proofs.Ytdmbjhgfiofbhaa
