/- Contracts of the reference: Alnum, One. -/
import Derived.Test.YtcloimdndcbchaaBrkM
import Derived.Test.YtcloimdndcbchaaBreA
set_option linter.unusedVariables false
set_option maxRecDepth 100000
namespace Go.Proofs.Ytcloimdndcbchaa
open Go.RowKit

theorem inRow_al (c : UInt8) : inRow [65, 90, 97, 122, 48, 57] (c.toNat : Int) = isAl c := by
  unfold isAl cAlnum cAlpha cUpper cLower cDigit
  rw [Bool.eq_iff_iff]
  simp [inRow, isW]
  omega
theorem refAlnum_any (c : UInt8) (w : World) : Calls Try.prog 8 #[.int .i64 (c.toNat : Int)] w fun e w' => e = .returned (.bool (isAl c)) ∧ w = w' := by
  have h0 : (0 : Int) ≤ (c.toNat : Int) := by omega
  have h1 : (c.toNat : Int) < 256 := by have := UInt8.toNat_lt c; omega
  have hw : IntKind.u8.wrap (c.toNat : Int) = (c.toNat : Int) := IntWalk.u8_in _ (by omega)
  have hI := Lib.hid (in_any ⟨#[65, 90, 97, 122, 48, 57]⟩ (c.toNat : Int) w (by decide))
  rw [show inRow (ByteArray.mk #[65, 90, 97, 122, 48, 57]).data.toList (c.toNat : Int) = isAl c from inRow_al c] at hI
  generalize isAl c = r at *
  generalize (c.toNat : Int) = d at *
  go_enter Try.func8, Try.ntmps8
  go_wp2_with (go_at_call 12; refine (hI.out).mono ?_; rintro e w' ⟨rfl, rfl⟩)
  go_ret
  exact ⟨rfl, rfl⟩
theorem oneF_more (c : UInt8) : (fun x => noneF x || decide (x = c.toNat)) = oneF c := by
  funext x
  simp [noneF, oneF, oneF.ofB, eq_comm]
theorem or_zero_u64 (n : Nat) (hn : n < 18446744073709551616) : bits .or .u64 ((0 : Nat) : Int) (n : Int) = (n : Int) := by
  rw [bits_or_u64_nat 0 n (by decide) hn, Nat.zero_or]
theorem one_cells (c : UInt8) {K i : Nat} (he : c.toNat = 64 * K + i) (hi : i < 64) (hK : K = 0 ∨ K = 1 ∨ K = 2 ∨ K = 3) (w : World) : setC (oneF c) = (setC noneF).setIfInBounds K (.int .u64 ((bitN c.toNat : Nat) : Int)) := by
  have hz := set_new w noneF
  have hs := hz.more he hi hK
  rw [oneF_more, show wd noneF K = 0 from wd_none K, or_zero_u64 _ (bitN_lt _)] at hs
  have h2 := heap_setCell_same _ w.heap.size K _ _ (.int .u64 ((bitN c.toNat : Nat) : Int)) hz
  unfold SetAt at hs
  rw [hs] at h2
  injection h2 with h2
  injection h2
set_option maxHeartbeats 4000000 in
theorem refOne_any (c : UInt8) (w : World) : Calls Try.prog 9 #[.int .u8 (c.toNat : Int)] w fun e w' => e = .returned (.agg (setC (oneF c))) ∧ Below w.heap.size w w' := by
  have hc : c.toNat < 256 := UInt8.toNat_lt c
  obtain ⟨K, i, he, hi, hK⟩ := byte_parts c.toNat hc
  have h0 := tdiv_of he hi
  have h1 := ediv_of he hi
  have hset := one_cells c he hi hK w
  rw [hset, setC_noneF]
  have m1 : (0 : Int) ≤ (c.toNat : Int) % 64 := by omega
  have m2 : (c.toNat : Int) % 64 ≤ 64 := by omega
  have mt : ((c.toNat : Int) % 64).toNat = c.toNat % 64 := by omega
  have hpw : IntKind.u64.wrap ((2 : Int) ^ (c.toNat % 64)) = ((bitN c.toNat : Nat) : Int) := by
    rw [show (2 : Int) ^ (c.toNat % 64) = ((bitN c.toNat : Nat) : Int) by simp [bitN]]
    exact IntWalk.u64_in _ (by have := bitN_lt c.toNat; omega)
  clear he hi hc hset
  generalize c.toNat = x at *
  generalize bitN x = bt at *
  rcases hK with rfl | rfl | rfl | rfl
  all_goals
    go_enter Try.func9, Try.ntmps9
    go_wp2
  all_goals
    exact bodyPost_ret (results_cell_row Try.results9 _ _ w.heap.size 35 _ (0, 0) _ rfl ((held_new w 35 _).alloc _) Try.underlying35 rfl (by kernel_rfl)) rfl ⟨rfl, ((Below.refl w.heap.size w).alloc (Nat.le_refl _) _).alloc (by simp) _⟩
end Go.Proofs.Ytcloimdndcbchaa
