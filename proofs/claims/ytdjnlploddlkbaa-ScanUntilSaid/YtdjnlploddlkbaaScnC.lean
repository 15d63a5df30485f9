/- Contracts: is a byte a delimiter (package scan's IsDelim); where the first byte stands that no \ takes along (plain). -/
import Derived.Test.YtdjnlploddlkbaaScnB
import Derived.Test.YtdjnlploddlkbaaByK
set_option linter.unusedVariables false
set_option linter.unusedSimpArgs false
set_option maxRecDepth 100000
namespace Go.Proofs.Ytdjnlploddlkbaa
open Go.RowKit

theorem isDelim_any (c : UInt8) (w : World) : Calls Try.prog 10 #[.int .u8 (c.toNat : Int)] w fun e w' => e = .returned (.bool (dlm c)) ∧ w = w' := by
  have hI := Lib.hid (is_any ⟨#[112, 117, 110, 99, 116]⟩ (c.toNat : Int) w)
  rw [show clsOf (ByteArray.toList ⟨#[112, 117, 110, 99, 116]⟩) (c.toNat : Int) = some (cGraph c.toNat && !cAlnum c.toNat) from by rw [ByteArray.toList_eq]; rfl] at hI
  have hB := Lib.hid (Try.strings_IndexByte ⟨#[92, 40, 41, 123, 125, 91, 93, 46, 42, 94, 36, 43, 63, 38]⟩ (c.toNat : Int) w)
  rw [show (⟨#[92, 40, 41, 123, 125, 91, 93, 46, 42, 94, 36, 43, 63, 38]⟩ : ByteArray).data.toList = noDl from rfl, u8_nat] at hB
  have hC := contains_at noDl c
  have hD : dlm c = ((cGraph c.toNat && !cAlnum c.toNat) && !noDl.contains c) := rfl
  rw [hC] at hD
  replace hD := Lib.hid hD
  clear hC
  generalize Lib.indexByte noDl c = i at *
  cases hp : (cGraph (c.toNat : Int) && !cAlnum (c.toNat : Int)) with
  | false =>
    rw [hp] at hI hD
    replace hp := Lib.hid hp
    have hR := Lib.hid (show dlm c = false from hD.out)
    clear hD
    generalize (c.toNat : Int) = z at *
    go_enter Try.func10, Try.ntmps10
    go_wp2_with (first
      | (go_at_call 27; refine (hI.out).mono ?_; rintro e w' ⟨rfl, rfl⟩)
      | (go_at_call 28; refine (hB.out).mono ?_; rintro e w' ⟨rfl, rfl⟩))
    go_ret
    exact ⟨ret_bool hR.out.symm, rfl⟩
  | true =>
    rw [hp] at hI hD
    replace hp := Lib.hid hp
    have hR := Lib.hid (show dlm c = decide (i < 0) from by
      rw [hD.out, Bool.true_and]
      by_cases h : i < 0
      · rw [decide_eq_true h, decide_eq_false (by omega)]; rfl
      · rw [decide_eq_false h, decide_eq_true (by omega)]; rfl)
    clear hD
    generalize (c.toNat : Int) = z at *
    go_enter Try.func10, Try.ntmps10
    go_wp2_with (first
      | (go_at_call 27; refine (hI.out).mono ?_; rintro e w' ⟨rfl, rfl⟩)
      | (go_at_call 28; refine (hB.out).mono ?_; rintro e w' ⟨rfl, rfl⟩))
    go_ret
    exact ⟨ret_bool hR.out.symm, rfl⟩

set_option maxHeartbeats 2000000 in
theorem plain_any {w : World} {A A2 : Option Addr} {n c n2 c2 : Nat} {l s : List UInt8} {B : Nat} (hn : n = l.length) (hnc : n ≤ c) (hm : n ≤ 1000000) (h : Byt w B A l) (hn2 : n2 = s.length) (h2 : Byt w B A2 s) :
    Calls Try.prog 25 #[.slice A n c, .slice A2 n2 c2] w fun e w' => e = .returned (.int .i64 ((plS (anyOf s) l : Nat) : Int)) ∧ w = w' := by
  have hI := Lib.hid (fun x => indexByte_any A2 n2 c2 s x B w hn2 h2)
  have hnh := Lib.hid hn
  have hh := Lib.hid h
  have hle := Lib.hid (plS_le (anyOf s) l)
  have hct := Lib.hid (anyOf_at s)
  clear hn h hn2 h2
  go_enter Try.func25, Try.ntmps25
  go_wp2
  go_loop [5] (fun i => ∃ k : Nat, i = .int .i64 ((k : Nat) : Int) ∧ Hid ((k ≤ n ∧ plS (anyOf s) l = k + plS (anyOf s) (l.drop k)) ∨ (k = n + 1 ∧ plS (anyOf s) l = n))) (fun i => n + 1 - (intOf i).toNat)
  case atStart => exact ⟨0, rfl, Lib.hid (.inl ⟨Nat.zero_le _, by rw [List.drop_zero, Nat.zero_add]⟩)⟩
  case round =>
    obtain ⟨k, rfl, hP⟩ := hrel
    have hk1 : k ≤ n + 1 := by rcases hP.out with ⟨h, _⟩ | ⟨h, _⟩ <;> omega
    by_cases hlt : k < n
    · have hkx : k < l.length := by rw [← hnh.out]; exact hlt
      have hP1 : plS (anyOf s) l = k + plS (anyOf s) (l.drop k) := by rcases hP.out with ⟨_, h⟩ | ⟨h, _⟩; exact h; omega
      clear hP
      obtain ⟨ad, rfl, -, hc0⟩ := hh.out.at_ hkx
      rw [List.drop_eq_getElem_cons hkx] at hP1
      have hkI : (k : Int) < (n : Int) := by omega
      have hw2 : IntKind.i64.wrap ((k : Int) + 1) = (k : Int) + 1 := IntWalk.i64_in _ (by omega)
      have hw3 : IntKind.i64.wrap ((k : Int) + 1 + 1) = (k : Int) + 1 + 1 := IntWalk.i64_in _ (by omega)
      have hIx := Lib.hid (hI.out (l[k]'hkx))
      have hcx := hct.out (l[k]'hkx)
      have hlen : (l.drop (k + 1)).length = n - (k + 1) := by rw [List.length_drop, ← hnh.out]
      have hdd : (l.drop (k + 1)).drop 1 = l.drop (k + 2) := by rw [List.drop_drop]
      generalize hr : l.drop (k + 1) = r at *
      generalize hx : l[k]'hkx = x at *
      have e92 : ((x.toNat : Int) == 92) = true ↔ x = 92 := (u8_eq_iff (x := x) (d := 92)).symm
      replace hr := Lib.hid hr
      replace hx := Lib.hid hx
      generalize Lib.indexByte s x = i at *
      cases hst : anyOf s x with
      | true =>
        rw [hst] at hcx
        have hi0 : 0 ≤ i := by simpa using hcx.symm
        have hR := Lib.hid (show plS (anyOf s) l = k from by rw [hP1, plS_stop (p := anyOf s) (by exact hst)]; rfl)
        clear hP1 hcx hdd e92 hst hlen
        generalize (x.toNat : Int) = z at *
        go_wp2_with (go_at_call 35; refine (hIx.out).mono ?_; rintro e w' ⟨rfl, rfl⟩)
        go_ret
        exact ⟨ret_int (by rw [hR.out]), rfl⟩
      | false =>
        rw [hst] at hcx
        have hi0 : i < 0 := by have h : ¬ 0 ≤ i := by simpa using hcx.symm
                               omega
        by_cases h92 : x = 92
        · have e1 : ((x.toNat : Int) == 92) = true := e92.2 h92
          have hR := Lib.hid (show (k + 2 ≤ n ∧ plS (anyOf s) l = (k + 2) + plS (anyOf s) (l.drop (k + 2))) ∨ (k + 2 = n + 1 ∧ plS (anyOf s) l = n) from by
            subst h92
            cases r with
            | nil =>
              right
              simp only [List.length_nil] at hlen
              refine ⟨by omega, ?_⟩
              rw [hP1, plS_one (p := anyOf s) hst]; omega
            | cons y t =>
              left
              simp only [List.length_cons] at hlen
              refine ⟨by omega, ?_⟩
              rw [hP1, plS_two (p := anyOf s) hst, ← hdd]
              show _ = _ + plS _ t
              omega)
          clear hP1 hcx hdd e92 hst hlen h92
          generalize (x.toNat : Int) = z at *
          go_wp2_with (go_at_call 35; refine (hIx.out).mono ?_; rintro e w' ⟨rfl, rfl⟩)
          go_round
          case rel => exact ⟨k + 2, by go_num, hR⟩
          case measure => simp [intOf]; omega
        · have e1 : ((x.toNat : Int) == 92) = false := by
            cases hq : ((x.toNat : Int) == 92) with
            | false => rfl
            | true => exact absurd (e92.1 hq) h92
          have hR := Lib.hid (show (k + 1 ≤ n ∧ plS (anyOf s) l = (k + 1) + plS (anyOf s) (l.drop (k + 1))) ∨ (k + 1 = n + 1 ∧ plS (anyOf s) l = n) from by
            left
            refine ⟨by omega, ?_⟩
            rw [hP1, plS_go (p := anyOf s) hst h92, hr.out]; omega)
          clear hP1 hcx hdd e92 hst hlen h92
          generalize (x.toNat : Int) = z at *
          go_wp2_with (go_at_call 35; refine (hIx.out).mono ?_; rintro e w' ⟨rfl, rfl⟩)
          go_round
          case rel => exact ⟨k + 1, by go_num, hR⟩
          case measure => simp [intOf]; omega
    · have hR := Lib.hid (show plS (anyOf s) l = n from by
        rcases hP.out with ⟨h1, h2⟩ | ⟨_, h2⟩
        · rw [h2, List.drop_eq_nil_of_le (by rw [← hnh.out]; omega)]
          show k + 0 = n
          omega
        · exact h2)
      go_wp2
      go_ret
      exact ⟨ret_int (by rw [hR.out]), rfl⟩
end Go.Proofs.Ytdjnlploddlkbaa
