/- Contracts of package class: bit, Has. Contracts of package class: Of. -/
import Derived.Test.YtnfbgpjadnlgbabProg
import Derived.Test.YtnfbgpjadnlgbabM04
import Derived.Lib.Hide
import Derived.IntWalk
import Derived.Deep.QuietTactic
import Derived.BigQuiet
import Derived.WalkSmall
import Derived.Deep.RegionWith
import Derived.Deep.RegionHeld3
set_option maxRecDepth 100000
namespace Go.Proofs.Ytnfbgpjadnlgbab
open Go.RowKit

theorem pow_small (c : Nat) : (2 : Int) ^ (c % 64) % 18446744073709551616 = ((bitN c : Nat) : Int) := by
  have hb := bitN_lt c
  have e : (2 : Int) ^ (c % 64) = ((bitN c : Nat) : Int) := by simp [bitN]
  rw [e]
  omega

theorem bit_any (c : Nat) (w : World) (hc : c < 256) :
    Calls Try.prog 60 #[.int .u8 (c : Int)] w fun e w' => e = .returned (.int .u64 ((bitN c : Nat) : Int)) ∧ w = w' := by
  have h1 : (0 : Int) ≤ (c : Int) % 64 := by omega
  have h2 : (c : Int) % 64 ≤ 64 := by omega
  have ht : ((c : Int) % 64).toNat = c % 64 := by omega
  go_enter Try.func60, Try.ntmps60
  go_wp2
  go_ret
  exact ⟨ret_int (pow_small c), rfl⟩


section
variable {w w' : World} {g : Nat} {f : Nat → Bool}
theorem SetAt.more {c k i : Nat} (h : SetAt w g f) (he : c = 64 * k + i) (hi : i < 64) (hk : k = 0 ∨ k = 1 ∨ k = 2 ∨ k = 3) :
    SetAt (w.setCell ⟨g, k, none⟩ (.int .u64 (bits .or .u64 ((wd f k : Nat) : Int) ((bitN c : Nat) : Int)))) g (fun x => f x || decide (x = c)) := by
  unfold SetAt at h ⊢
  rw [heap_setCell_same w g k _ _ _ h, or_bit f c k i he hi]
  have hw : ∀ k', k' ≠ k → wd (fun x => f x || decide (x = c)) k' = wd f k' := fun k' hk' => wd_more f c k k' i he hi hk'
  unfold setC
  rcases hk with rfl | rfl | rfl | rfl
  · rw [hw 1 (by decide), hw 2 (by decide), hw 3 (by decide)]; rfl
  · rw [hw 0 (by decide), hw 2 (by decide), hw 3 (by decide)]; rfl
  · rw [hw 0 (by decide), hw 1 (by decide), hw 3 (by decide)]; rfl
  · rw [hw 0 (by decide), hw 1 (by decide), hw 2 (by decide)]; rfl
end
end Go.Proofs.Ytnfbgpjadnlgbab

set_option maxRecDepth 100000
namespace Go.Proofs.Ytnfbgpjadnlgbab
open Go.RowKit

/-- The set of a list of bytes. -/
def ofL (l : List UInt8) : Nat → Bool := fun c => l.any fun x => decide (x.toNat = c)
theorem ofL_next (l : List UInt8) (k : Nat) (h : k < l.length) : (fun x => ofL (l.take k) x || decide (x = (l[k]'h).toNat)) = ofL (l.take (k + 1)) := by
  funext x
  have e : l.take (k + 1) = l.take k ++ [l[k]'h] := by simp
  unfold ofL
  rw [e, List.any_append]
  simp only [List.any_cons, List.any_nil, Bool.or_false]
  congr 1
  exact decide_eq_decide.2 ⟨fun h => h.symm, fun h => h.symm⟩

def RelOf (w : World) (l : List UInt8) (n : Nat) (i : Value) (wr : World) : Prop :=
  ∃ k : Nat, k ≤ n ∧ i = .int .i64 (k : Nat) ∧ SetAt wr w.heap.size (fun _ => false) ∧ SetAt wr (w.heap.size + 1) (ofL (l.take k)) ∧ Below w.heap.size w wr
theorem RelOf.mk {w : World} {l : List UInt8} {n : Nat} {i : Value} {wr : World} (h : ∃ k : Nat, k ≤ n ∧ i = .int .i64 (k : Nat) ∧ SetAt wr w.heap.size (fun _ => false) ∧ SetAt wr (w.heap.size + 1) (ofL (l.take k)) ∧ Below w.heap.size w wr) : RelOf w l n i wr := h

set_option maxRecDepth 100000 in
set_option maxHeartbeats 4000000 in
theorem of_any (A : Option Addr) (n c : Nat) (l : List UInt8) (B : Nat) (w : World) (hn : n = l.length) (hnc : n ≤ c) (hm : c ≤ maxLen) (hB : B ≤ w.heap.size) (h : Byt w B A l) :
    Calls Try.prog 54 #[.slice A n c] w fun e w' => e = .returned (setV (ofL l)) ∧ Below w.heap.size w w' := by
  unfold maxLen at hm
  have hn' := Lib.hid hn
  clear hn
  have hB' := Lib.hid hB
  clear hB
  go_enter Try.func54, Try.ntmps54
  go_wp2
  go_loopw [8] (RelOf w l n) (fun i _ => n - (intOf i).toNat)
  case atStart => exact RelOf.mk ⟨0, by omega, rfl, (set_zero w).alloc _, set_zero_at _ _ (by simp), ((Below.refl _ _).alloc (Nat.le_refl _) _).alloc (by simp) _⟩
  case round =>
    obtain ⟨k, hk, rfl, hz, hs, hb⟩ := hrel
    by_cases hlt : k < n
    · have hkl : k < l.length := by have := hn'.out; omega
      obtain ⟨ad, hA, hadB, hd⟩ := (h.below (hb.mono hB'.out)).at_ hkl
      subst hA
      have hnx := Lib.hid (ofL_next l k hkl)
      have hc : (l[k]'hkl).toNat < 256 := UInt8.toNat_lt _
      generalize (l[k]'hkl).toNat = x at hd hnx hc
      obtain ⟨K, i, he, hi, hK⟩ := byte_parts x hc
      have h0 := tdiv_of he hi
      have h1 := ediv_of he hi
      have hs1 := hs.more he hi hK
      rw [hnx.out] at hs1
      have hs' := Lib.hid hs1
      have hz' := Lib.hid (hz.set_other (a := ⟨w.heap.size + 1, K, none⟩) (v := .int .u64 (bits .or .u64 ((wd (ofL (l.take k)) K : Nat) : Int) ((bitN x : Nat) : Int))) (by show w.heap.size ≠ w.heap.size + 1; omega))
      have hb' := Lib.hid (hb.setCell (p := ⟨w.heap.size + 1, K, none⟩) (by show w.heap.size ≤ w.heap.size + 1; omega) (.int .u64 (bits .or .u64 ((wd (ofL (l.take k)) K : Nat) : Int) ((bitN x : Nat) : Int))))
      have hlt' := Lib.hid hlt
      have c0 := hs.cell' hK
      have f0 := hs.thawed K
      have k0 : (0 : Int) ≤ (K : Int) := by omega
      have k1 : (K : Int) < 4 := by omega
      have k2 : IntKind.u8.wrap (K : Int) = (K : Int) := IntWalk.u8_in _ (by omega)
      clear he hi hz hb hs hs1 hK
      go_wp2_with (first | (go_region_with ((go_at_call 60; refine (bit_any x _ hc).mono ?_; rintro e w' ⟨rfl, rfl⟩))) | fail)
      all_goals
        go_roundw
        case rel => exact RelOf.mk ⟨k + 1, hlt'.out, by go_num, hz'.out, hs'.out, hb'.out.drew⟩
        case measure => simp [intOf]; omega
    · have hz' := Lib.hid hz
      have hb' := Lib.hid hb
      have hs' := Lib.hid hs
      clear hz hb hs
      go_wp2_with (first
        | (refine wpList_load_row rfl 32 (.tmp 3) rfl (w.heap.size + 1) rfl 32 _ (0, 0) _ hs'.out Try.underlying32 rfl (set_size _) ?_)
        | (refine wpList_store_row rfl 32 (.tmp 2) (.tmp 21) rfl w.heap.size (setC (ofL (l.take k))) rfl rfl 32 _ hz'.out (set_size _) (set_hold _ _) (set_cells _) ?_))
      have e : l.take k = l := List.take_of_length_le (by have := hn'.out; omega)
      refine bodyPost_ret (v := setV (ofL (l.take k))) (results_cell_row Try.results54 _ _ w.heap.size 32 (setC (ofL (l.take k))) (0, 0) _ rfl (hz'.out.put _) Try.underlying32 rfl (set_size _)) rfl ⟨by rw [e], below_put hb'.out (Nat.le_refl _) _⟩
end Go.Proofs.Ytnfbgpjadnlgbab
