/- Contracts of package files that only read: fit, room, refusal. -/
import Derived.Test.YtkdhfjnfdcopdaaFilD
namespace Go.Proofs.Ytkdhfjnfdcopdaa
open Go.RowKit

theorem flat_take (ls : List (List UInt8)) (k : Nat) (h : k < ls.length) : (ls.take (k + 1)).flatten.length = (ls.take k).flatten.length + (ls[k]'h).length := by
  rw [List.take_succ_eq_append_getElem h, List.flatten_append, List.length_append]; simp
theorem flat_take_le (ls : List (List UInt8)) (k : Nat) : (ls.take k).flatten.length ≤ ls.flatten.length := by
  have : ls.flatten.length = (ls.take k).flatten.length + (ls.drop k).flatten.length := by
    rw [← List.length_append, ← List.flatten_append, List.take_append_drop]
  omega
set_option maxHeartbeats 1000000 in
theorem fit_any (A : Option Addr) (n c r : Nat) (ls : List (List UInt8)) (Q : Nat → Prop) (w : World) (hn : n = ls.length) (hnc : n ≤ c) (hm : c ≤ maxLen) (h : Bss w Q A ls) (hr : r ≤ 65536) :
    Calls Try.prog 32 #[.int .i64 (r : Nat), .slice A n c] w fun e w' => e = .returned (.bool (decide (ls.flatten.length ≤ r))) ∧ w = w' := by
  unfold maxLen at hm
  have hH := Lib.hid hn
  generalize hg : decide (ls.flatten.length ≤ r) = g
  have hG := Lib.hid hg
  clear hn hg
  go_enter Try.func32, Try.ntmps32
  go_wp2
  go_loop [0, 6, 9] (fun x _ i => ∃ k m : Nat, k ≤ n ∧ i = .int .i64 (k : Nat) ∧ x = .int .i64 (m : Nat) ∧ m ≤ r ∧ Hid ((ls.take k).flatten.length + m = r)) (fun _ _ i => n - (intOf i).toNat)
  case atStart => exact ⟨0, r, by omega, rfl, rfl, Nat.le_refl _, Lib.hid (by simp)⟩
  case round =>
    obtain ⟨k, m, hk, rfl, rfl, hmr, hx⟩ := hrel
    by_cases hlt : k < n
    · have hlk : k < ls.length := by have := hH.out; omega
      obtain ⟨ad, A1, n1, c1, hA, -, hd, hn1, hc1, hm1, -⟩ := h.at_ hlk
      subst hA
      unfold maxLen at hm1
      have ht := Lib.hid (flat_take ls k hlk)
      rw [← hn1] at ht
      have hle := Lib.hid (flat_take_le ls (k + 1))
      clear hn1
      by_cases hbig : m < n1
      · have hF := Lib.hid (show decide (ls.flatten.length ≤ r) = false from decide_eq_false (by have := ht.out; have := hle.out; have := hx.out; omega))
        have hcmp : (m : Int) < (n1 : Int) := by omega
        go_wp2
        go_ret
        exact ⟨ret_bool (hF.out.symm.trans hG.out), rfl⟩
      · have hT := Lib.hid (show (ls.take (k + 1)).flatten.length + (m - n1) = r by have := ht.out; have := hx.out; omega)
        have hcmp : ¬ (m : Int) < (n1 : Int) := by omega
        go_wp2
        go_round
        case rel => exact ⟨k + 1, m - n1, by omega, by go_num, by go_num, by omega, hT⟩
        case measure => simp [intOf]; omega
    · obtain rfl : k = n := by omega
      have hF := Lib.hid (show decide (ls.flatten.length ≤ r) = true from decide_eq_true (by
        have h1 := hx.out
        rw [List.take_of_length_le (by have := hH.out; omega)] at h1
        omega))
      go_wp2
      go_ret
      exact ⟨ret_bool (hF.out.symm.trans hG.out), rfl⟩

theorem room_any (F : Nat → Prop) (T : Nat) (fs : List Fil) (nm : ByteArray) (w : World) (h : Tab w F T fs) (hok : OkF fs) :
    Calls Try.prog 35 #[.pointer (some ⟨T, 0, none⟩), .string nm] w fun e w' => e = .returned (.int .i64 ((65536 - (getF fs nm).length : Nat) : Int)) ∧ Below w.heap.size w w' := by
  have hL := len_any F T fs nm w h
  have hg := getF_le hok nm
  clear h hok
  have hx : lenF fs nm = ((getF fs nm).length : Int) ∨ (lenF fs nm = -1 ∧ (getF fs nm).length = 0) := by
    cases hp : posN fs nm with
    | none => right; simp [lenF, getF, hp]
    | some k => left; simp [lenF, hp]
  generalize (getF fs nm).length = m at *
  generalize lenF fs nm = z at *
  have hL := Lib.hid hL
  rcases hx with rfl | ⟨rfl, rfl⟩
  · go_enter Try.func35, Try.ntmps35
    go_wp2_with (go_at_call 22; refine (hL.out).mono ?_; rintro e w' ⟨rfl, hb'⟩)
    go_ret
    exact ⟨ret_int (by omega), hb'⟩
  · go_enter Try.func35, Try.ntmps35
    go_wp2_with (go_at_call 22; refine (hL.out).mono ?_; rintro e w' ⟨rfl, hb'⟩)
    go_ret
    exact ⟨ret_int (by omega), hb'⟩

set_option maxHeartbeats 1000000 in
theorem refusal_any (F : Nat → Prop) (T : Nat) (fs : List Fil) (nm : ByteArray) (b : Bool) (w : World) (h : Tab w F T fs) (hok : OkF fs) (hs : nm.size ≤ maxLen) :
    Calls Try.prog 31 #[.pointer (some ⟨T, 0, none⟩), .string nm, .bool b] w fun e w' => e = .returned (.int .i64 (refuse fs nm b)) ∧ Below w.heap.size w w' := by
  have hI := isName_any nm w hs
  have hP := Lib.hid (fun (w' : World) (hb : Below w.heap.size w w') => place_any F T fs nm w' (h.below hb))
  have hl := hok.1
  obtain ⟨v, vs, h⟩ := h
  have hslot := h.slot
  have hlt := h.lt
  obtain ⟨A, cap, rfl, h1, h2, hF⟩ := h.row.fils
  clear h hok hF hs
  unfold maxLen at h2
  have hR : refuse fs nm b = if isNm nm = false then 4 else if b = false then 8 else if posN fs nm = none ∧ 16 ≤ fs.length then 7 else 0 := rfl
  generalize isNm nm = is at *
  cases is with
  | false =>
    rw [hR, if_pos rfl]
    clear hR
    have hI := Lib.hid hI
    go_enter Try.func31, Try.ntmps31
    go_wp2_with (first
      | (go_at_call 28; refine (hI.out).mono ?_; rintro e w' ⟨rfl, hb'⟩))
    go_ret
    exact ⟨rfl, hb'⟩
  | true =>
    rw [if_neg (by simp)] at hR
    have hI := Lib.hid hI
    cases b with
    | false =>
      rw [hR, if_pos rfl]
      clear hR
      go_enter Try.func31, Try.ntmps31
      go_wp2_with (first
        | (go_at_call 28; refine (hI.out).mono ?_; rintro e w' ⟨rfl, hb'⟩))
      go_ret
      exact ⟨rfl, hb'⟩
    | true =>
      rw [if_neg (by simp)] at hR
      cases hp : posN fs nm with
      | none =>
        rw [hp] at hR
        rw [posI_neg hp] at hP
        by_cases h16 : 16 ≤ fs.length
        · rw [hR, if_pos ⟨rfl, h16⟩]
          clear hR hp
          generalize fs.length = n at *
          obtain rfl : n = 16 := by omega
          go_enter Try.func31, Try.ntmps31
          go_wp2_with (first
            | (go_at_call 28; refine (hI.out).mono ?_; rintro e w' ⟨rfl, hb'⟩)
            | (go_at_call 29; refine (hP.out _ hb').mono ?_; rintro e w2 ⟨rfl, hb2⟩
               have hbw := hb'.trans (hb2.mono hb'.size)
               have hslot' := (hbw.cell (p := ⟨T, 0, none⟩) hlt).trans hslot))
          go_ret
          exact ⟨rfl, hbw⟩
        · rw [hR, if_neg (fun h => h16 h.2)]
          clear hR hp
          generalize fs.length = n at *
          have h16 : n < 16 := by omega
          go_enter Try.func31, Try.ntmps31
          go_wp2_with (first
            | (go_at_call 28; refine (hI.out).mono ?_; rintro e w' ⟨rfl, hb'⟩)
            | (go_at_call 29; refine (hP.out _ hb').mono ?_; rintro e w2 ⟨rfl, hb2⟩
               have hbw := hb'.trans (hb2.mono hb'.size)
               have hslot' := (hbw.cell (p := ⟨T, 0, none⟩) hlt).trans hslot))
          go_ret
          exact ⟨rfl, hbw⟩
      | some k =>
        rw [hp] at hR
        rw [posI_some hp] at hP
        obtain ⟨hk, -⟩ := posN_lt hp
        rw [hR, if_neg (by simp)]
        clear hR hp
        generalize fs.length = n at *
        go_enter Try.func31, Try.ntmps31
        go_wp2_with (first
          | (go_at_call 28; refine (hI.out).mono ?_; rintro e w' ⟨rfl, hb'⟩)
          | (go_at_call 29; refine (hP.out _ hb').mono ?_; rintro e w2 ⟨rfl, hb2⟩
             have hbw := hb'.trans (hb2.mono hb'.size)
             have hslot' := (hbw.cell (p := ⟨T, 0, none⟩) hlt).trans hslot))
        go_ret
        exact ⟨rfl, hbw⟩
end Go.Proofs.Ytkdhfjnfdcopdaa
