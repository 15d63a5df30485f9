/- Contracts of digit.Text and of the reference's Text. -/
import Derived.Test.YtcflagjannphoaaDoorDigB
import Derived.Test.YtcflagjannphoaaDoorShelf
import Derived.WalkSmall
import Derived.Lib.ItoaLen
import Derived.Deep.RegionWith
import Derived.Deep.RegionHeld3
namespace Go.Proofs.YtcflagjannphoaaDoor
open Go.RowKit


def Tab (w : World) : Prop := Lib.TabIs Tryd.prog w "internal/strconv.uint64pow10" .u64 Lib.pow10Tab

theorem text_any (n : Int) (w : World) (h0 : -9223372036854775808 ≤ n) (h1 : n ≤ 9223372036854775807) (ht : Tab w) :
    Calls Tryd.prog 13 #[.int .i64 n] w fun e w' => e = .returned (.string ⟨(Lib.itoa n).toArray⟩) ∧ Below w.heap.size w w' := by
  have H := Lib.hid (Tryd.strconv_Itoa n h0 h1 w ht)
  clear h0 h1 ht
  go_enter Tryd.func13, Tryd.ntmps13
  go_wp2_with (go_at_call 28; refine (H.out).mono ?_; rintro e w' ⟨rfl, k, os, rfl⟩)
  go_ret
  exact ⟨rfl, below_grow _ _ _ _ (Nat.le_refl _)⟩

theorem itoa_digit (n : Nat) (h : n < 10) : Lib.itoa n = [UInt8.ofNat (48 + n)] := by
  unfold Lib.itoa; rw [if_neg (by omega), Int.toNat_natCast, Lib.decDigits, dif_pos h]
theorem itoa_neg_digit (n : Nat) (h : n < 10) (h0 : 0 < n) : Lib.itoa (-(n : Int)) = [45, UInt8.ofNat (48 + n)] := by
  unfold Lib.itoa; rw [if_pos (by omega), Int.natAbs_neg, Int.natAbs_natCast, Lib.decDigits, dif_pos h]
theorem itoa_more (n : Nat) (h : 10 ≤ n) : Lib.itoa n = Lib.itoa ((n / 10 : Nat) : Int) ++ [UInt8.ofNat (48 + n % 10)] := by
  unfold Lib.itoa; rw [if_neg (by omega), if_neg (by omega), Int.toNat_natCast, Int.toNat_natCast, Lib.decDigits, dif_neg (by omega)]
theorem itoa_neg_more (n : Nat) (h : 10 ≤ n) : Lib.itoa (-(n : Int)) = Lib.itoa (-((n / 10 : Nat) : Int)) ++ [UInt8.ofNat (48 + n % 10)] := by
  unfold Lib.itoa
  rw [if_pos (by omega), if_pos (by omega), Int.natAbs_neg, Int.natAbs_natCast, Int.natAbs_neg, Int.natAbs_natCast, Lib.decDigits, dif_neg (by omega)]; rfl


/-- string(b) of one byte. -/
theorem conv1 (x : Int) (h0 : 0 ≤ x) (h1 : x ≤ 255) (W : World) (b : Nat) (hc : W.cell? ⟨b, 0, none⟩ = some (.int .u8 x)) :
    (convert 26 9 (.slice (some ⟨b, 0, none⟩) 1 1)).run Tryd.prog W = .ok (.string ⟨#[UInt8.ofNat x.toNat]⟩) W := by
  have h := run_convert_bytes_back (P := Tryd.prog) W 26 9 5 ⟨b, 0, none⟩ 1 [UInt8.ofNat x.toNat] Tryd.underlying26 Tryd.underlying5 Tryd.underlying9 (by
    intro j hj
    have : j = 0 := by simp at hj; omega
    subst this
    rw [show (Addr.add ⟨b, 0, none⟩ 0) = ⟨b, 0, none⟩ from rfl, hc]
    obtain ⟨y, rfl⟩ := Int.eq_ofNat_of_zero_le h0
    simp; omega)
  exact h

theorem refText_pos (k : Nat) : ∀ (n : Int) (w : World), 0 ≤ n → n ≤ k → n ≤ 9223372036854775807 →
    Calls Tryd.prog 14 #[.int .i64 n] w fun e w' => e = .returned (.string ⟨(Lib.itoa n).toArray⟩) ∧ Below w.heap.size w w' := by
  have small : ∀ (n : Int) (w : World), 0 ≤ n → n < 10 →
      Calls Tryd.prog 14 #[.int .i64 n] w fun e w' => e = .returned (.string ⟨(Lib.itoa n).toArray⟩) ∧ Below w.heap.size w w' := by
    intro n w h0 hn
    have hi : Hid (Lib.itoa n = [UInt8.ofNat (48 + n).toNat]) := by
      obtain ⟨y, rfl⟩ := Int.eq_ofNat_of_zero_le h0
      rw [itoa_digit y (by omega)]; exact congrArg (fun z => [UInt8.ofNat z]) (by omega)
    have hcv := conv1 (48 + n) (by omega) (by omega)
    go_enter Tryd.func14, Tryd.ntmps14
    go_wp2_with fail
    go_ret
    exact ⟨ret_str (by rw [hi.out]), (Below.refl _ _).alloc (Nat.le_refl _) _⟩
  induction k with
  | zero => exact fun n w h0 hk hn => small n w h0 (by omega)
  | succ k ih =>
    intro n w h0 hk hn
    by_cases h : n < 10
    · exact small n w h0 h
    · have ih := Lib.hid ih
      have hi : Hid (Lib.itoa n = Lib.itoa (n / 10) ++ [UInt8.ofNat (48 + n % 10).toNat]) := by
        obtain ⟨y, rfl⟩ := Int.eq_ofNat_of_zero_le h0
        rw [itoa_more y (by omega)]; exact congrArg (fun z => _ ++ [UInt8.ofNat z]) (by omega)
      have hcv := conv1 (48 + n % 10) (by omega) (by omega)
      clear small
      go_enter Tryd.func14, Tryd.ntmps14
      go_wp2_with fail
      have hp1 : 0 ≤ n / 10 := by omega
      have hp2 : n / 10 ≤ k := by omega
      have hp3 : n / 10 ≤ 9223372036854775807 := by omega
      have hL := Lib.itoa_length_le (n / 10) (by omega) (by omega)
      have e3 : IntKind.u8.wrap (48 + n % 10) = 48 + n % 10 := IntWalk.u8_in _ (by omega)
      have e2 : IntKind.i64.wrap (48 + n % 10) = 48 + n % 10 := IntWalk.i64_in _ (by omega)
      have e1 : IntKind.i64.wrap (n.tdiv 10) = n / 10 := IntWalk.i64_quo _ _ (by omega)
      go_region_with (go_at_call 14; refine (ih.out (n / 10) _ hp1 hp2 hp3).mono ?_; rintro e w' ⟨rfl, hb⟩; obtain ⟨hc1, hf1⟩ := below_cells hb)
      all_goals
        go_wp2
        go_ret
        refine ⟨ret_str (by rw [hi.out]), ?_⟩
        first
        | exact ((Below.refl _ _).drew.trans hb).alloc hb.size _
        | exact ((Below.refl _ _).drew.alloc (Nat.le_refl _) _).trans (hb.mono (by simp))

set_option maxHeartbeats 1000000 in
theorem refText_neg (k : Nat) : ∀ (n : Int) (w : World), n < 0 → -n ≤ k → -9223372036854775808 ≤ n →
    Calls Tryd.prog 14 #[.int .i64 n] w fun e w' => e = .returned (.string ⟨(Lib.itoa n).toArray⟩) ∧ Below w.heap.size w w' := by
  have small : ∀ (n : Int) (w : World), n < 0 → -10 < n →
      Calls Tryd.prog 14 #[.int .i64 n] w fun e w' => e = .returned (.string ⟨(Lib.itoa n).toArray⟩) ∧ Below w.heap.size w w' := by
    intro n w h0 hn
    have hi : Hid (Lib.itoa n = [45, UInt8.ofNat (48 - n).toNat]) := by
      obtain ⟨y, hy⟩ := Int.eq_ofNat_of_zero_le (a := -n) (by omega)
      obtain rfl : n = -(y : Int) := by omega
      rw [itoa_neg_digit y (by omega) (by omega)]; exact congrArg (fun z => [45, UInt8.ofNat z]) (by omega)
    have hcv := conv1 (48 - n) (by omega) (by omega)
    go_enter Tryd.func14, Tryd.ntmps14
    go_wp2_with fail
    go_ret
    exact ⟨ret_str (by rw [hi.out]; rfl), (Below.refl _ _).alloc (Nat.le_refl _) _⟩
  induction k with
  | zero => exact fun n w h0 hk hn => absurd hk (by omega)
  | succ k ih =>
    intro n w h0 hk hn
    by_cases h : -10 < n
    · exact small n w h0 h
    · have ih := Lib.hid ih
      obtain ⟨y, hy⟩ := Int.eq_ofNat_of_zero_le (a := -n) (by omega)
      obtain rfl : n = -(y : Int) := by omega
      have hi : Hid (Lib.itoa (-(y : Int)) = Lib.itoa (-((y : Int) / 10)) ++ [UInt8.ofNat (48 + (y : Int) % 10).toNat]) := by
        rw [itoa_neg_more y (by omega)]; exact congrArg (fun z => _ ++ [UInt8.ofNat z]) (by omega)
      have hcv := conv1 (48 + (y : Int) % 10) (by omega) (by omega)
      generalize UInt8.ofNat (48 + (y : Int) % 10).toNat = u at hi hcv
      clear small hy
      have hL := Lib.itoa_length_le (-((y : Int) / 10)) (by omega) (by omega)
      have hp1 : -((y : Int) / 10) < 0 := by omega
      have hp2 : - -((y : Int) / 10) ≤ k := by omega
      have hp3 : -9223372036854775808 ≤ -((y : Int) / 10) := by omega
      have e3 : IntKind.u8.wrap (48 + (y : Int) % 10) = 48 + (y : Int) % 10 := IntWalk.u8_in _ (by omega)
      have e2 : IntKind.i64.wrap (48 + (y : Int) % 10) = 48 + (y : Int) % 10 := IntWalk.i64_in _ (by omega)
      have e0 : IntKind.i64.wrap (-((y : Int) / 10)) = -((y : Int) / 10) := IntWalk.i64_in _ (by omega)
      have e4 : (-(y : Int)).tmod 10 = -((y : Int) % 10) := by rw [Int.neg_tmod, Int.tmod_eq_emod_of_nonneg (by omega)]
      have e1 : (-(y : Int)).tdiv 10 = -((y : Int) / 10) := by rw [Int.neg_tdiv, Int.tdiv_eq_ediv_of_nonneg (by omega)]
      by_cases hz : (y : Int) % 10 = 0
      · have hzl : ¬ -((y : Int) % 10) < 0 := by omega
        have e5 : IntKind.i64.wrap (48 + -((y : Int) % 10)) = 48 + (y : Int) % 10 := by rw [hz]; rfl
        clear hz
        go_enter Tryd.func14, Tryd.ntmps14
        go_wp2_with fail
        go_region_with (go_at_call 14; refine (ih.out (-((y : Int) / 10)) _ hp1 hp2 hp3).mono ?_; rintro e w' ⟨rfl, hb⟩; obtain ⟨hc1, hf1⟩ := below_cells hb)
        all_goals
          go_wp2
          go_ret
          refine ⟨ret_str (by rw [hi.out]), ?_⟩
          first
          | exact ((Below.refl _ _).drew.trans hb).alloc hb.size _
          | exact ((Below.refl _ _).drew.alloc (Nat.le_refl _) _).trans (hb.mono (by simp))
      · have hzl : -((y : Int) % 10) < 0 := by omega
        clear hz
        go_enter Tryd.func14, Tryd.ntmps14
        go_wp2_with fail
        go_region_with (go_at_call 14; refine (ih.out (-((y : Int) / 10)) _ hp1 hp2 hp3).mono ?_; rintro e w' ⟨rfl, hb⟩; obtain ⟨hc1, hf1⟩ := below_cells hb)
        all_goals
          go_wp2
          go_ret
          refine ⟨ret_str (by rw [hi.out]), ?_⟩
          first
          | exact ((Below.refl _ _).drew.trans hb).alloc hb.size _
          | exact ((Below.refl _ _).drew.alloc (Nat.le_refl _) _).trans (hb.mono (by simp))
theorem refText_any (n : Int) (w : World) (h0 : -9223372036854775808 ≤ n) (h1 : n ≤ 9223372036854775807) :
    Calls Tryd.prog 14 #[.int .i64 n] w fun e w' => e = .returned (.string ⟨(Lib.itoa n).toArray⟩) ∧ Below w.heap.size w w' := by
  by_cases h : 0 ≤ n
  · exact refText_pos n.toNat n w h (by omega) h1
  · exact refText_neg (-n).toNat n w (by omega) (by omega) h0
end Go.Proofs.YtcflagjannphoaaDoor
