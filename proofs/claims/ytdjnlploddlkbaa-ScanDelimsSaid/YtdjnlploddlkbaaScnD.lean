/- Contracts: the reference's test for a delimiter (palinoderef14.IsDelim). -/
import Derived.Test.YtdjnlploddlkbaaProg
import Derived.Test.YtdjnlploddlkbaaScnA
import Derived.Deep.QuietTactic
set_option linter.unusedVariables false
set_option linter.unusedSimpArgs false
set_option maxRecDepth 100000
namespace Go.Proofs.Ytdjnlploddlkbaa
open Go.RowKit

/-- The same of numbers. -/
def noZ : List Int := [92, 40, 41, 123, 125, 91, 93, 46, 42, 94, 36, 43, 63, 38]
def dlZ (z : Int) : Bool := (cGraph z && !cAlnum z) && !noZ.contains z
theorem contains_num (l : List UInt8) (c : UInt8) : (l.map fun x => (x.toNat : Int)).contains (c.toNat : Int) = l.contains c := by
  induction l with
  | nil => rfl
  | cons x r ih =>
    rw [List.map_cons, List.contains_cons, List.contains_cons, ih]
    congr 1
    rw [Bool.eq_iff_iff, beq_iff_eq, beq_iff_eq]
    constructor
    · intro h; exact UInt8.toNat_inj.1 (by omega)
    · intro h; rw [h]
theorem dlm_num (c : UInt8) : dlm c = dlZ (c.toNat : Int) := by
  unfold dlm dlZ
  rw [← contains_num noDl c]
  rfl
theorem azRow (z : Int) : inRow [65, 90, 97, 122, 48, 57] z = cAlnum z := by
  simp [inRow, cAlnum, cAlpha, cUpper, cLower, cDigit, Bool.or_assoc]
theorem noZ_more {k : Nat} {z x : Int} (h : (noZ.take k).contains z = false) (hk : noZ[k]? = some x) (hne : z ≠ x) : (noZ.take (k + 1)).contains z = false := by
  rw [List.take_add_one, hk]
  rw [List.contains_eq_mem, decide_eq_false_iff_not] at h ⊢
  intro hm
  rcases List.mem_append.1 hm with hm | hm
  · exact h hm
  · exact hne (by simpa using hm)
theorem noZ_at {k : Nat} {z x : Int} (hk : noZ[k]? = some x) (he : z = x) : noZ.contains z = true := by
  subst he
  rw [List.contains_eq_mem, decide_eq_true_iff]
  exact List.mem_of_getElem? hk
set_option maxHeartbeats 4000000 in
theorem rIsDelim_any (c : UInt8) (w : World) : Calls Try.prog 9 #[.int .u8 (c.toNat : Int)] w fun e w' => e = .returned (.bool (dlm c)) ∧ w = w' := by
  rw [dlm_num]
  have hIn := Lib.hid (in_any ⟨#[65, 90, 97, 122, 48, 57]⟩ (c.toNat : Int) w (by decide))
  rw [show (⟨#[65, 90, 97, 122, 48, 57]⟩ : ByteArray).data.toList = [65, 90, 97, 122, 48, 57] from rfl, azRow] at hIn
  have hlt : c.toNat < 256 := UInt8.toNat_lt c
  obtain ⟨hz0, hz1⟩ : 0 ≤ (c.toNat : Int) ∧ (c.toNat : Int) < 256 := by omega
  generalize (c.toNat : Int) = z at *
  clear hlt
  by_cases hg : 33 ≤ z ∧ z ≤ 126
  · obtain ⟨hg1, hg2⟩ := hg
    have hG := Lib.hid (show cGraph z = true from by unfold cGraph isW; simp [hg1, hg2])
    cases ha : cAlnum z with
    | true =>
      rw [ha] at hIn
      have hR := Lib.hid (show dlZ z = false from by unfold dlZ; rw [ha]; simp)
      replace ha := Lib.hid ha
      go_enter Try.func9, Try.ntmps9
      go_wp2_with (go_at_call 26; refine (hIn.out).mono ?_; rintro e w' ⟨rfl, rfl⟩)
      go_ret
      exact ⟨ret_bool hR.out.symm, rfl⟩
    | false =>
      rw [ha] at hIn
      have hR := Lib.hid (show dlZ z = !noZ.contains z from by unfold dlZ; rw [ha, hG.out]; rfl)
      replace ha := Lib.hid ha
      go_enter Try.func9, Try.ntmps9
      go_wp2_with (go_at_call 26; refine (hIn.out).mono ?_; rintro e w' ⟨rfl, rfl⟩)
      go_loop [4] (fun i => ∃ k : Nat, k ≤ 14 ∧ i = .int .i64 ((k : Nat) : Int) ∧ Hid ((noZ.take k).contains z = false)) (fun i => 14 - (intOf i).toNat)
      case atStart => exact ⟨0, by omega, rfl, Lib.hid rfl⟩
      case round =>
        obtain ⟨k, hk, rfl, hN⟩ := hrel
        clear hIn
        obtain rfl | rfl | rfl | rfl | rfl | rfl | rfl | rfl | rfl | rfl | rfl | rfl | rfl | rfl | rfl : k = 0 ∨ k = 1 ∨ k = 2 ∨ k = 3 ∨ k = 4 ∨ k = 5 ∨ k = 6 ∨ k = 7 ∨ k = 8 ∨ k = 9 ∨ k = 10 ∨ k = 11 ∨ k = 12 ∨ k = 13 ∨ k = 14 := by omega
        · go_wp2
          · rename_i hq _
            have he : ((92 : Int) == z) = true := hq
            rw [beq_iff_eq] at he
            have hA := noZ_at (k := 0) rfl he.symm
            go_ret
            exact ⟨ret_bool (by rw [hR.out, hA]; rfl), rfl⟩
          · rename_i hq
            have he : ((92 : Int) == z) = false := hq
            rw [beq_eq_false_iff_ne] at he
            have hM := Lib.hid (noZ_more (k := 0) hN.out rfl fun e => he e.symm)
            go_round
            case rel => exact ⟨1, by omega, by go_num, hM⟩
            case measure => simp [intOf]
        · go_wp2
          · rename_i hq _
            have he : ((40 : Int) == z) = true := hq
            rw [beq_iff_eq] at he
            have hA := noZ_at (k := 1) rfl he.symm
            go_ret
            exact ⟨ret_bool (by rw [hR.out, hA]; rfl), rfl⟩
          · rename_i hq
            have he : ((40 : Int) == z) = false := hq
            rw [beq_eq_false_iff_ne] at he
            have hM := Lib.hid (noZ_more (k := 1) hN.out rfl fun e => he e.symm)
            go_round
            case rel => exact ⟨2, by omega, by go_num, hM⟩
            case measure => simp [intOf]
        · go_wp2
          · rename_i hq _
            have he : ((41 : Int) == z) = true := hq
            rw [beq_iff_eq] at he
            have hA := noZ_at (k := 2) rfl he.symm
            go_ret
            exact ⟨ret_bool (by rw [hR.out, hA]; rfl), rfl⟩
          · rename_i hq
            have he : ((41 : Int) == z) = false := hq
            rw [beq_eq_false_iff_ne] at he
            have hM := Lib.hid (noZ_more (k := 2) hN.out rfl fun e => he e.symm)
            go_round
            case rel => exact ⟨3, by omega, by go_num, hM⟩
            case measure => simp [intOf]
        · go_wp2
          · rename_i hq _
            have he : ((123 : Int) == z) = true := hq
            rw [beq_iff_eq] at he
            have hA := noZ_at (k := 3) rfl he.symm
            go_ret
            exact ⟨ret_bool (by rw [hR.out, hA]; rfl), rfl⟩
          · rename_i hq
            have he : ((123 : Int) == z) = false := hq
            rw [beq_eq_false_iff_ne] at he
            have hM := Lib.hid (noZ_more (k := 3) hN.out rfl fun e => he e.symm)
            go_round
            case rel => exact ⟨4, by omega, by go_num, hM⟩
            case measure => simp [intOf]
        · go_wp2
          · rename_i hq _
            have he : ((125 : Int) == z) = true := hq
            rw [beq_iff_eq] at he
            have hA := noZ_at (k := 4) rfl he.symm
            go_ret
            exact ⟨ret_bool (by rw [hR.out, hA]; rfl), rfl⟩
          · rename_i hq
            have he : ((125 : Int) == z) = false := hq
            rw [beq_eq_false_iff_ne] at he
            have hM := Lib.hid (noZ_more (k := 4) hN.out rfl fun e => he e.symm)
            go_round
            case rel => exact ⟨5, by omega, by go_num, hM⟩
            case measure => simp [intOf]
        · go_wp2
          · rename_i hq _
            have he : ((91 : Int) == z) = true := hq
            rw [beq_iff_eq] at he
            have hA := noZ_at (k := 5) rfl he.symm
            go_ret
            exact ⟨ret_bool (by rw [hR.out, hA]; rfl), rfl⟩
          · rename_i hq
            have he : ((91 : Int) == z) = false := hq
            rw [beq_eq_false_iff_ne] at he
            have hM := Lib.hid (noZ_more (k := 5) hN.out rfl fun e => he e.symm)
            go_round
            case rel => exact ⟨6, by omega, by go_num, hM⟩
            case measure => simp [intOf]
        · go_wp2
          · rename_i hq _
            have he : ((93 : Int) == z) = true := hq
            rw [beq_iff_eq] at he
            have hA := noZ_at (k := 6) rfl he.symm
            go_ret
            exact ⟨ret_bool (by rw [hR.out, hA]; rfl), rfl⟩
          · rename_i hq
            have he : ((93 : Int) == z) = false := hq
            rw [beq_eq_false_iff_ne] at he
            have hM := Lib.hid (noZ_more (k := 6) hN.out rfl fun e => he e.symm)
            go_round
            case rel => exact ⟨7, by omega, by go_num, hM⟩
            case measure => simp [intOf]
        · go_wp2
          · rename_i hq _
            have he : ((46 : Int) == z) = true := hq
            rw [beq_iff_eq] at he
            have hA := noZ_at (k := 7) rfl he.symm
            go_ret
            exact ⟨ret_bool (by rw [hR.out, hA]; rfl), rfl⟩
          · rename_i hq
            have he : ((46 : Int) == z) = false := hq
            rw [beq_eq_false_iff_ne] at he
            have hM := Lib.hid (noZ_more (k := 7) hN.out rfl fun e => he e.symm)
            go_round
            case rel => exact ⟨8, by omega, by go_num, hM⟩
            case measure => simp [intOf]
        · go_wp2
          · rename_i hq _
            have he : ((42 : Int) == z) = true := hq
            rw [beq_iff_eq] at he
            have hA := noZ_at (k := 8) rfl he.symm
            go_ret
            exact ⟨ret_bool (by rw [hR.out, hA]; rfl), rfl⟩
          · rename_i hq
            have he : ((42 : Int) == z) = false := hq
            rw [beq_eq_false_iff_ne] at he
            have hM := Lib.hid (noZ_more (k := 8) hN.out rfl fun e => he e.symm)
            go_round
            case rel => exact ⟨9, by omega, by go_num, hM⟩
            case measure => simp [intOf]
        · go_wp2
          · rename_i hq _
            have he : ((94 : Int) == z) = true := hq
            rw [beq_iff_eq] at he
            have hA := noZ_at (k := 9) rfl he.symm
            go_ret
            exact ⟨ret_bool (by rw [hR.out, hA]; rfl), rfl⟩
          · rename_i hq
            have he : ((94 : Int) == z) = false := hq
            rw [beq_eq_false_iff_ne] at he
            have hM := Lib.hid (noZ_more (k := 9) hN.out rfl fun e => he e.symm)
            go_round
            case rel => exact ⟨10, by omega, by go_num, hM⟩
            case measure => simp [intOf]
        · go_wp2
          · rename_i hq _
            have he : ((36 : Int) == z) = true := hq
            rw [beq_iff_eq] at he
            have hA := noZ_at (k := 10) rfl he.symm
            go_ret
            exact ⟨ret_bool (by rw [hR.out, hA]; rfl), rfl⟩
          · rename_i hq
            have he : ((36 : Int) == z) = false := hq
            rw [beq_eq_false_iff_ne] at he
            have hM := Lib.hid (noZ_more (k := 10) hN.out rfl fun e => he e.symm)
            go_round
            case rel => exact ⟨11, by omega, by go_num, hM⟩
            case measure => simp [intOf]
        · go_wp2
          · rename_i hq _
            have he : ((43 : Int) == z) = true := hq
            rw [beq_iff_eq] at he
            have hA := noZ_at (k := 11) rfl he.symm
            go_ret
            exact ⟨ret_bool (by rw [hR.out, hA]; rfl), rfl⟩
          · rename_i hq
            have he : ((43 : Int) == z) = false := hq
            rw [beq_eq_false_iff_ne] at he
            have hM := Lib.hid (noZ_more (k := 11) hN.out rfl fun e => he e.symm)
            go_round
            case rel => exact ⟨12, by omega, by go_num, hM⟩
            case measure => simp [intOf]
        · go_wp2
          · rename_i hq _
            have he : ((63 : Int) == z) = true := hq
            rw [beq_iff_eq] at he
            have hA := noZ_at (k := 12) rfl he.symm
            go_ret
            exact ⟨ret_bool (by rw [hR.out, hA]; rfl), rfl⟩
          · rename_i hq
            have he : ((63 : Int) == z) = false := hq
            rw [beq_eq_false_iff_ne] at he
            have hM := Lib.hid (noZ_more (k := 12) hN.out rfl fun e => he e.symm)
            go_round
            case rel => exact ⟨13, by omega, by go_num, hM⟩
            case measure => simp [intOf]
        · go_wp2
          · rename_i hq _
            have he : ((38 : Int) == z) = true := hq
            rw [beq_iff_eq] at he
            have hA := noZ_at (k := 13) rfl he.symm
            go_ret
            exact ⟨ret_bool (by rw [hR.out, hA]; rfl), rfl⟩
          · rename_i hq
            have he : ((38 : Int) == z) = false := hq
            rw [beq_eq_false_iff_ne] at he
            have hM := Lib.hid (noZ_more (k := 13) hN.out rfl fun e => he e.symm)
            go_round
            case rel => exact ⟨14, by omega, by go_num, hM⟩
            case measure => simp [intOf]
        · go_wp2
          go_ret
          have hF : noZ.contains z = false := hN.out
          exact ⟨ret_bool (by rw [hR.out, hF]; rfl), rfl⟩
  · have hR := Lib.hid (show dlZ z = false from by unfold dlZ cGraph isW; rw [Bool.and_eq_false_iff, Bool.and_eq_false_iff]; refine .inl (.inl ?_); rw [Bool.and_eq_false_iff, decide_eq_false_iff_not, decide_eq_false_iff_not]; omega)
    by_cases hg1 : 33 ≤ z
    · have hg2 : ¬ z ≤ 126 := fun h => hg ⟨hg1, h⟩
      go_enter Try.func9, Try.ntmps9
      go_wp2
      go_ret
      exact ⟨ret_bool hR.out.symm, rfl⟩
    · go_enter Try.func9, Try.ntmps9
      go_wp2
      go_ret
      exact ⟨ret_bool hR.out.symm, rfl⟩
end Go.Proofs.Ytdjnlploddlkbaa
