/- Contracts of the references of package files that only read: IsName, At, Get; Copy. -/
import Derived.Test.YtkdhfjnfdcopdaaProg
import Derived.Test.YtkdhfjnfdcopdaaFilW
import Derived.Lib.Hide
import Derived.Lib.ConvBytes
namespace Go.Proofs.Ytkdhfjnfdcopdaa
open Go.RowKit

theorem isNm_long {s : ByteArray} (h : s.size < 1 ∨ 64 < s.size) : isNm s = false := by
  unfold isNm
  rcases h with h | h
  · rw [show decide (1 ≤ s.size) = false from decide_eq_false (by omega)]; rfl
  · rw [show decide (s.size ≤ 64) = false from decide_eq_false (by omega)]; simp
theorem isNm_in {s : ByteArray} (h1 : 1 ≤ s.size) (h2 : s.size ≤ 64) : isNm s = s.data.toList.all okChar := by
  unfold isNm; simp [h1, h2]
theorem okChar_no {c : UInt8} (h : (c.toNat : Int) < 33 ∨ 126 < (c.toNat : Int)) : okChar c = false := by
  unfold okChar
  rcases h with h | h
  · rw [show decide (33 ≤ c.toNat) = false by simp; omega]; rfl
  · rw [show decide (c.toNat ≤ 126) = false by simp; omega]; simp
theorem okChar_yes {c : UInt8} (h1 : ¬ (c.toNat : Int) < 33) (h2 : ¬ 126 < (c.toNat : Int)) : okChar c = true := by
  unfold okChar
  simp; omega
theorem all_step (s : ByteArray) (k : Nat) (h : k < s.size) : (s.data.toList.drop k).all okChar = (okChar s[k] && (s.data.toList.drop (k + 1)).all okChar) := by
  have h1 : k < s.data.toList.length := h
  rw [List.drop_eq_getElem_cons h1]; rfl
theorem refIsName_any (s : ByteArray) (w : World) (hs : s.size ≤ maxLen) :
    Calls Try.prog 27 #[.string s] w fun e w' => e = .returned (.bool (isNm s)) ∧ w = w' := by
  unfold maxLen at hs
  by_cases hb : s.size < 1 ∨ 64 < s.size
  · rw [isNm_long hb]
    rcases hb with hb | hb
    · go_enter Try.func27, Try.ntmps27
      go_wp2
      go_ret
      exact ⟨rfl, rfl⟩
    · go_enter Try.func27, Try.ntmps27
      go_wp2
      go_ret
      exact ⟨rfl, rfl⟩
  · have h1 : 1 ≤ s.size := by omega
    have h2 : s.size ≤ 64 := by omega
    have hI := Lib.hid (isNm_in h1 h2)
    clear hb
    go_enter Try.func27, Try.ntmps27
    go_wp2
    go_loop [3] (fun i => ∃ k : Nat, k ≤ s.size ∧ i = .int .i64 (k : Nat) ∧ Hid (isNm s = (s.data.toList.drop k).all okChar)) (fun i => s.size - (intOf i).toNat)
    case atStart => exact ⟨0, by omega, rfl, Lib.hid (by rw [hI.out, List.drop_zero])⟩
    case round =>
      obtain ⟨k, hk, rfl, hr⟩ := hrel
      by_cases hlt : k < s.size
      · have hst := Lib.hid (all_step s k hlt)
        have hno : Hid ((((s[k]'hlt).toNat : Int) < 33 ∨ 126 < ((s[k]'hlt).toNat : Int)) → isNm s = false) := Lib.hid fun h => by rw [hr.out, hst.out, okChar_no h]; rfl
        have hyes : Hid (¬ ((s[k]'hlt).toNat : Int) < 33 → ¬ 126 < ((s[k]'hlt).toNat : Int) → isNm s = (s.data.toList.drop (k + 1)).all okChar) := Lib.hid fun a b => by rw [hr.out, hst.out, okChar_yes a b]; rfl
        by_cases ha : ((s[k]'hlt).toNat : Int) < 33
        · have hF := Lib.hid (hno.out (.inl ha))
          go_wp2
          go_ret
          exact ⟨ret_bool hF.out.symm, rfl⟩
        · by_cases hb : 126 < ((s[k]'hlt).toNat : Int)
          · have hF := Lib.hid (hno.out (.inr hb))
            go_wp2
            go_ret
            exact ⟨ret_bool hF.out.symm, rfl⟩
          · have hF := Lib.hid (hyes.out ha hb)
            go_wp2
            go_round
            case rel => exact ⟨k + 1, by omega, by go_num, hF⟩
            case measure => simp [intOf]; omega
      · obtain rfl : k = s.size := by omega
        go_wp2
        go_ret
        refine ⟨ret_bool ?_, rfl⟩
        rw [hr.out, List.drop_of_length_le (by rw [len_toList]; omega)]; rfl

theorem str_ne {s t : ByteArray} (h : s ≠ t) : (s.toList == t.toList) = false := by
  rw [beq_eq_false_iff_ne]; intro e; rw [ByteArray.toList_eq, ByteArray.toList_eq] at e; exact h (bytes_ext e)
theorem at_any (A : Option Addr) (n c : Nat) (fs : List Fil) (nm : ByteArray) (Q : Nat → Prop) (w : World) (hn : n = fs.length) (hnc : n ≤ c) (hm : c ≤ maxLen) (h : Fils w Q A fs) :
    Calls Try.prog 20 #[.slice A n c, .string nm] w fun e w' => e = .returned (.int .i64 (posI fs nm)) ∧ w = w' := by
  unfold maxLen at hm
  have hH := Lib.hid hn
  clear hn
  go_enter Try.func20, Try.ntmps20
  go_wp2
  go_loop [5] (fun i => ∃ k : Nat, k ≤ n ∧ i = .int .i64 (k : Nat) ∧ Hid (∀ j (hj : j < fs.length), j < k → (fs[j]'hj).1 ≠ nm)) (fun i => n - (intOf i).toNat)
  case atStart => exact ⟨0, by omega, rfl, Lib.hid fun j hj h => absurd h (by omega)⟩
  case round =>
    obtain ⟨k, hk, rfl, hr⟩ := hrel
    by_cases hlt : k < n
    · have hlk : k < fs.length := by have := hH.out; omega
      obtain ⟨ad, A1, n1, c1, hA, -, hd, -, -, -, -, -⟩ := h.at_ hlk
      subst hA
      by_cases he : (fs[k]'hlk).1 = nm
      · have hP := Lib.hid (posN_first hlk he hr.out)
        rw [he] at hd
        clear he
        go_wp2
        go_ret
        exact ⟨ret_int (by rw [posI_some hP.out]), rfl⟩
      · have hN := Lib.hid (show ∀ j (hj : j < fs.length), j < k + 1 → (fs[j]'hj).1 ≠ nm from fun j hj hl => by
          rcases Nat.lt_or_ge j k with h1 | h1
          · exact hr.out j hj h1
          · obtain rfl : j = k := by omega
            exact he)
        have hb := str_ne he
        clear he
        generalize (fs[k]'hlk).1 = s at *
        go_wp2
        go_round
        case rel => exact ⟨k + 1, by omega, by go_num, hN⟩
        case measure => simp [intOf]; omega
    · obtain rfl : k = n := by omega
      go_wp2
      go_ret
      exact ⟨ret_int (by rw [posI_neg (posN_all_ne fun j hj => hr.out j hj (by have := hH.out; omega))]), rfl⟩
end Go.Proofs.Ytkdhfjnfdcopdaa
