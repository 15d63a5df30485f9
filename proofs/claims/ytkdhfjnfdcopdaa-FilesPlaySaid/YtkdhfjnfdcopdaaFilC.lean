/- Contracts of package files that only read: place, Len, Get. -/
import Derived.Test.YtkdhfjnfdcopdaaFilB
import Derived.Test.YtkdhfjnfdcopdaaByK
namespace Go.Proofs.Ytkdhfjnfdcopdaa
open Go.RowKit

theorem sizeA (w : World) (o : Obj) : (w.alloc o).heap.size = w.heap.size + 1 := by simp
theorem sameName_any (s nm : ByteArray) (v : Value) (b : Nat) (w : World) (hb : b < w.heap.size) (hc : w.cell? ⟨b, 0, none⟩ = some (.string nm)) :
    Calls Try.prog 37 #[.agg #[.string s, v], .pointer (some ⟨b, 0, none⟩)] w fun e w' => e = .returned (.bool (s.toList == nm.toList)) ∧ Below w.heap.size w w' := by
  have hne : b ≠ w.heap.size := by omega
  go_enter Try.func37, Try.ntmps37
  go_wp2
  all_goals (go_ret; exact ⟨by simp_all, (Below.refl _ w).alloc (Nat.le_refl _) _⟩)

set_option maxHeartbeats 1000000 in
theorem indexFunc_any (A : Option Addr) (n c : Nat) (fs : List Fil) (nm : ByteArray) (Q : Nat → Prop) (b : Nat) (w : World) (hn : n = fs.length) (hnc : n ≤ c) (hm : c ≤ maxLen) (h : Fils w Q A fs) (hb : b < w.heap.size) (hc : w.cell? ⟨b, 0, none⟩ = some (.string nm)) :
    Calls Try.prog 36 #[.slice A n c, .func (.func 37) #[] #[.pointer (some ⟨b, 0, none⟩)]] w fun e w' => e = .returned (.int .i64 (posI fs nm)) ∧ Below w.heap.size w w' := by
  unfold maxLen at hm
  have eg : ∀ args w, (callFunc 37 args).run Try.prog w = .ok (.enter 37 args) w := enters_of Try.func37 (by kernel_rfl) rfl
  have hH := Lib.hid hn
  have hS := Lib.hid (fun (s : ByteArray) (A1 : Option Addr) (n1 c1 : Nat) (wr : World) (hbr : Below w.heap.size w wr) => sameName_any s nm (.slice A1 n1 c1) b wr (Nat.lt_of_lt_of_le hb hbr.size) ((hbr.cell (p := ⟨b, 0, none⟩) hb).trans hc))
  clear hn
  go_enter Try.func36, Try.ntmps36
  go_wp2
  go_loopw [5, 8] (fun _ i wr => ∃ k : Nat, k ≤ n ∧ i = .int .i64 (k : Nat) ∧ Hid (∀ j (hj : j < fs.length), j < k → (fs[j]'hj).1 ≠ nm) ∧ Below w.heap.size w wr) (fun _ i _ => n - (intOf i).toNat)
  case atStart => exact ⟨0, by omega, rfl, Lib.hid fun j hj h => absurd h (by omega), Below.refl _ _⟩
  case round =>
    obtain ⟨k, hk, rfl, hr, hbr⟩ := hrel
    by_cases hlt : k < n
    · have hlk : k < fs.length := by have := hH.out; omega
      obtain ⟨ad, A1, n1, c1, hA, -, hd, he1, -, -, -, -⟩ := (h.below hbr).at_ hlk
      subst hA
      by_cases he : (fs[k]'hlk).1 = nm
      · have hP := Lib.hid (posN_first hlk he hr.out)
        have hS := Lib.hid (hS.out nm A1 n1 c1 wr hbr)
        rw [he] at hd
        clear he
        simp only [beq_self_eq_true] at hS
        go_wp2_with (go_at_fn 37; refine (hS.out).mono ?_; rintro e w' ⟨rfl, hb'⟩)
        go_ret
        exact ⟨ret_int (by rw [posI_some hP.out]), hbr.trans (hb'.mono hbr.size)⟩
      · have hN := Lib.hid (show ∀ j (hj : j < fs.length), j < k + 1 → (fs[j]'hj).1 ≠ nm from fun j hj hl => by
          rcases Nat.lt_or_ge j k with h1 | h1
          · exact hr.out j hj h1
          · obtain rfl : j = k := by omega
            exact he)
        have hS := Lib.hid (hS.out (fs[k]'hlk).1 A1 n1 c1 wr hbr)
        rw [str_ne he] at hS
        clear he
        generalize (fs[k]'hlk).1 = s at *
        go_wp2_with (go_at_fn 37; refine (hS.out).mono ?_; rintro e w' ⟨rfl, hb'⟩)
        go_roundw
        case rel => exact ⟨k + 1, by omega, by go_num, hN, hbr.trans (hb'.mono hbr.size)⟩
        case measure => simp [intOf]; omega
    · obtain rfl : k = n := by omega
      go_wp2
      go_ret
      exact ⟨ret_int (by rw [posI_neg (posN_all_ne fun j hj => hr.out j hj (by have := hH.out; omega))]), hbr⟩

theorem place_any (F : Nat → Prop) (T : Nat) (fs : List Fil) (nm : ByteArray) (w : World) (h : Tab w F T fs) :
    Calls Try.prog 29 #[.pointer (some ⟨T, 0, none⟩), .string nm] w fun e w' => e = .returned (.int .i64 (posI fs nm)) ∧ Below w.heap.size w w' := by
  obtain ⟨v, vs, h⟩ := h
  have hslot := h.slot
  have hlt := h.lt
  obtain ⟨A, cap, rfl, h1, h2, hF⟩ := h.row.fils
  have hb1 : ∀ o, Below w.heap.size w (w.alloc o) := fun o => (Below.refl _ w).alloc (Nat.le_refl _) o
  have hI := Lib.hid (indexFunc_any A fs.length cap fs nm F w.heap.size (w.alloc (.cells #[.string nm] 9)) rfl h1 h2 (hF.below (hb1 _)) (by rw [sizeA]; omega) (by have := new_one w (.string nm) 9 0 _ rfl; rwa [add_zero_off] at this))
  clear h hF
  have hne : T ≠ w.heap.size := by omega
  go_enter Try.func29, Try.ntmps29
  go_wp2_with (go_at_call 36; refine (hI.out).mono ?_; rintro e w' ⟨rfl, hb'⟩)
  go_ret
  exact ⟨rfl, (hb1 _).trans (hb'.mono (by rw [sizeA]; omega))⟩
end Go.Proofs.Ytkdhfjnfdcopdaa
