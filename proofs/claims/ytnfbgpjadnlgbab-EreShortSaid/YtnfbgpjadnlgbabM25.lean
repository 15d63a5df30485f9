/- Contracts of package bytes in the words of Byt: IndexByte, Count of one byte, CutSuffix of one byte, Clone. Contracts of package class: Range, Named. Contracts: class.Not, the reference's Has. -/
import Derived.Test.YtnfbgpjadnlgbabProg
import Derived.Test.YtnfbgpjadnlgbabM08
import Derived.Test.YtnfbgpjadnlgbabM24
import Derived.Lib.Hide
import Derived.Lib.Bytes
import Derived.Test.YtnfbgpjadnlgbabM20
import Derived.Test.YtnfbgpjadnlgbabM17
import Derived.Deep.RegionWith
set_option maxRecDepth 100000
namespace Go.Proofs.Ytnfbgpjadnlgbab
open Go.RowKit

def ints (l : List UInt8) : List Int := l.map fun c => (c.toNat : Int)
theorem ints_len (l : List UInt8) : (ints l).length = l.length := by simp [ints]
theorem ints_bytes (l : List UInt8) : Lib.bytesOf (ints l) = l := by
  unfold Lib.bytesOf ints; rw [List.map_map]
  have : ((fun n : Int => UInt8.ofNat n.toNat) ∘ fun c : UInt8 => (c.toNat : Int)) = id := by funext c; simp
  rw [this, List.map_id]
theorem ints_bv (l : List UInt8) : (ints l).map (Value.int .u8) = bv l := by simp [ints, bv]
theorem Byt.cells {w : World} {B : Nat} {a : Addr} {l : List UInt8} (h : Byt w B (some a) l) : ∀ i, i < l.length → w.cell? (a.add i) = some (.int .u8 ((ints l).getD i 0)) := by
  intro i hi
  obtain ⟨ad, hA, _, hc⟩ := h.at_ hi
  injection hA with hA
  subst hA
  rw [hc]
  simp [ints, List.getD, hi]
theorem Byt.none_nil {w : World} {B : Nat} {l : List UInt8} (h : Byt w B none l) : l = [] := by
  cases l with
  | nil => rfl
  | cons x r => obtain ⟨ad, h, _⟩ := h.at_ (k := 0) (by simp); cases h
theorem u8_nat (x : UInt8) : ((x.toNat : Nat) : Int).toNat.toUInt8 = x := by simp

theorem indexByte_any (A : Option Addr) (n c : Nat) (l : List UInt8) (x : UInt8) (B : Nat) (w : World) (hn : n = l.length) (h : Byt w B A l) :
    Calls Try.prog 89 #[.slice A n c, .int .u8 (x.toNat : Int)] w fun e w' => e = .returned (.int .i64 (Lib.indexByte l x)) ∧ w = w' := by
  subst hn
  cases A with
  | none =>
    obtain rfl := h.none_nil
    go_enter Try.func89, Try.ntmps89
    go_wp2
    rw [run_callFunc_extern Try.func93 (by kernel_rfl) (by kernel_rfl) (by kernel_rfl) (e := Extern.BytealgIndexByte.indexByte) (by kernel_rfl), Lib.run_indexByteNil w _ c _]
    simp only [Result.andThen]
    rw [Oper.upon_value]
    go_wp2
    go_ret
    exact ⟨rfl, rfl⟩
  | some a =>
    refine (Try.bytes_IndexByte_at a l.length c (ints l) x.toNat w (ints_len l) h.cells).mono fun e w' ⟨he, hw⟩ => ⟨?_, hw.symm⟩
    rw [he, ints_bytes, u8_nat]



end Go.Proofs.Ytnfbgpjadnlgbab

set_option maxRecDepth 100000
namespace Go.Proofs.Ytnfbgpjadnlgbab
open Go.RowKit

def rowS (a k : Nat) : Nat → Bool := fun x => decide (a ≤ x) && decide (x < k)
theorem rowS_none (a : Nat) : rowS a a = fun _ => false := by
  funext x; unfold rowS
  by_cases h : a ≤ x
  · have : ¬ x < a := by omega
    simp [this]
  · simp [h]
theorem rowS_next (a k : Nat) (h : a ≤ k) : (fun x => rowS a k x || decide (x = k)) = rowS a (k + 1) := by
  funext x; unfold rowS
  rw [Bool.eq_iff_iff]
  simp only [Bool.or_eq_true, Bool.and_eq_true, decide_eq_true_eq]
  omega

def RelRow (w : World) (a b : Nat) (i : Value) (wr : World) : Prop :=
  ∃ k : Nat, a ≤ k ∧ (k ≤ b + 1 ∨ k = a) ∧ i = .int .i64 (k : Nat) ∧ SetAt wr w.heap.size (fun _ => false) ∧ SetAt wr (w.heap.size + 1) (rowS a k) ∧ Below w.heap.size w wr
theorem RelRow.mk {w : World} {a b : Nat} {i : Value} {wr : World} (h : ∃ k : Nat, a ≤ k ∧ (k ≤ b + 1 ∨ k = a) ∧ i = .int .i64 (k : Nat) ∧ SetAt wr w.heap.size (fun _ => false) ∧ SetAt wr (w.heap.size + 1) (rowS a k) ∧ Below w.heap.size w wr) : RelRow w a b i wr := h

set_option maxRecDepth 100000 in
set_option maxHeartbeats 4000000 in
theorem range_any (a b : Nat) (w : World) (ha : a < 256) (hb' : b < 256) :
    Calls Try.prog 84 #[.int .u8 (a : Int), .int .u8 (b : Int)] w fun e w' => e = .returned (setV (fun x => decide (a ≤ x) && decide (x ≤ b))) ∧ Below w.heap.size w w' := by
  go_enter Try.func84, Try.ntmps84
  go_wp2
  go_loopw [6] (RelRow w a b) (fun i _ => 256 - (intOf i).toNat)
  case atStart => exact RelRow.mk ⟨a, by omega, .inr rfl, by go_num, (set_zero w).alloc _, by rw [rowS_none]; exact set_zero_at _ _ (by simp), ((Below.refl _ _).alloc (Nat.le_refl _) _).alloc (by simp) _⟩
  case round =>
    obtain ⟨k, hak, hkb, rfl, hz, hs, hb⟩ := hrel
    by_cases hlt : k ≤ b
    · have hnx := Lib.hid (rowS_next a k hak)
      have hc : k < 256 := by omega
      obtain ⟨K, i, he, hi, hK⟩ := byte_parts k hc
      have h0 := tdiv_of he hi
      have h1 := ediv_of he hi
      have hs1 := hs.more he hi hK
      rw [hnx.out] at hs1
      have hs' := Lib.hid hs1
      have hz' := Lib.hid (hz.set_other (a := ⟨w.heap.size + 1, K, none⟩) (v := .int .u64 (bits .or .u64 ((wd (rowS a k) K : Nat) : Int) ((bitN k : Nat) : Int))) (by show w.heap.size ≠ w.heap.size + 1; omega))
      have hb' := Lib.hid (hb.setCell (p := ⟨w.heap.size + 1, K, none⟩) (by show w.heap.size ≤ w.heap.size + 1; omega) (.int .u64 (bits .or .u64 ((wd (rowS a k) K : Nat) : Int) ((bitN k : Nat) : Int))))
      have hlt' := Lib.hid hlt
      have hak' := Lib.hid hak
      have c0 := hs.cell' hK
      have f0 := hs.thawed K
      have k0 : (0 : Int) ≤ (K : Int) := by omega
      have k1 : (K : Int) < 4 := by omega
      have k2 : IntKind.i64.wrap (K : Int) = (K : Int) := IntWalk.i64_in _ (by omega)
      have k3 : IntKind.u8.wrap (k : Int) = (k : Int) := IntWalk.u8_in _ (by omega)
      have k4 : (k : Int) % 256 = (k : Int) := by omega
      clear he hi hz hb hs hs1 hK
      go_wp2_with (first | (go_region_with ((go_at_call 60; refine (bit_any k _ hc).mono ?_; rintro e w' ⟨rfl, rfl⟩))) | fail)
      all_goals
        clear k4
        go_roundw
        case rel => exact RelRow.mk ⟨k + 1, by have := hak'.out; omega, .inl (by have := hlt'.out; omega), by go_num, hz'.out, hs'.out, hb'.out.drew⟩
        case measure => simp [intOf]; omega
    · have hz' := Lib.hid hz
      have hb' := Lib.hid hb
      have hs' := Lib.hid hs
      have hkb' := Lib.hid hkb
      have hlt' := Lib.hid hlt
      clear hz hb hs hkb
      go_wp2_with (first
        | (refine wpList_load_row rfl 32 (.tmp 5) rfl (w.heap.size + 1) rfl 32 _ (0, 0) _ hs'.out Try.underlying32 rfl (set_size _) ?_)
        | (refine wpList_store_row rfl 32 (.tmp 4) (.tmp 24) rfl w.heap.size (setC (rowS a k)) rfl rfl 32 _ hz'.out (set_size _) (set_hold _ _) (set_cells _) ?_))
      have e : setV (rowS a k) = setV (fun x => decide (a ≤ x) && decide (x ≤ b)) := by
        congr 1
        funext x; unfold rowS
        rw [Bool.eq_iff_iff]
        simp only [Bool.and_eq_true, decide_eq_true_eq]
        have := hkb'.out; have := hlt'.out
        omega
      refine bodyPost_ret (v := setV (rowS a k)) (results_cell_row Try.results84 _ _ w.heap.size 32 (setC (rowS a k)) (0, 0) _ rfl (hz'.out.put _) Try.underlying32 rfl (set_size _)) rfl ⟨by rw [e], below_put hb'.out (Nat.le_refl _) _⟩
end Go.Proofs.Ytnfbgpjadnlgbab

set_option maxRecDepth 100000
namespace Go.Proofs.Ytnfbgpjadnlgbab
open Go.RowKit

def halfN (x k : Nat) : Nat := x / 2 ^ k
theorem halfN_zero (x : Nat) : halfN x 0 = x := by simp [halfN]
theorem halfN_next (x k : Nat) : halfN x k / 2 = halfN x (k + 1) := by
  unfold halfN; rw [Nat.div_div_eq_div_mul, Nat.pow_succ]
theorem halfN_lt (x k : Nat) (h : x < 18446744073709551616) : halfN x k < 18446744073709551616 := Nat.lt_of_le_of_lt (Nat.div_le_self _ _) h
theorem halfN_end (f : Nat → Bool) (c k i : Nat) (h : c = 64 * k + i) (hi : i < 64) : ((((halfN (wd f k) i : Nat) : Int) % 2) == 1) = f c := by
  have := wd_bit f k i hi
  rw [← h, Nat.testBit_eq_decide_div_mod_eq] at this
  rw [← this]
  unfold halfN
  generalize wd f k / 2 ^ i = z
  rw [Bool.eq_iff_iff]
  simp only [beq_iff_eq, decide_eq_true_eq]
  omega

def RelHalf (x i0 : Nat) (v i : Value) : Prop := ∃ k : Nat, k ≤ i0 ∧ v = .int .u64 ((halfN x k : Nat) : Int) ∧ i = .int .u8 (k : Nat)
theorem RelHalf.mk {x i0 : Nat} {v i : Value} (h : ∃ k : Nat, k ≤ i0 ∧ v = .int .u64 ((halfN x k : Nat) : Int) ∧ i = .int .u8 (k : Nat)) : RelHalf x i0 v i := h


/-! ### Not -/
def notS (f : Nat → Bool) (k : Nat) : Nat → Bool := fun c => if c < 64 * k then !f c else f c
theorem notS_zero (f : Nat → Bool) : notS f 0 = f := by funext c; simp [notS]
theorem notS_end (f : Nat → Bool) : alike (notS f 4) (fun c => !f c) := fun c hc => by simp [notS, hc]
theorem notS_at (f : Nat → Bool) (k : Nat) : wd (notS f k) k = wd f k := wd_congr fun i hi => by
  have : ¬ 64 * k + i < 64 * k := by omega
  simp [notS, this]
theorem notS_next (f : Nat → Bool) (k : Nat) : wd (notS f (k + 1)) k = 18446744073709551615 - wd f k := by
  rw [wd_not]
  exact wd_congr fun i hi => by
    have : 64 * k + i < 64 * (k + 1) := by omega
    simp [notS, this]
theorem notS_other (f : Nat → Bool) (k j : Nat) (h : j ≠ k) : wd (notS f (k + 1)) j = wd (notS f k) j := wd_congr fun i hi => by
  have : (64 * j + i < 64 * (k + 1)) = (64 * j + i < 64 * k) := by apply propext; omega
  simp [notS, this]
/-- ^x. -/
def comp (x : Nat) : Int := bits .xor .u64 (if IntKind.u64.signed = true then -1 else IntKind.u64.max) (x : Int)
theorem comp_eq (x : Nat) (h : x < 18446744073709551616) : comp x = 18446744073709551615 - (x : Int) := by
  unfold comp
  rw [show (if IntKind.u64.signed = true then -1 else IntKind.u64.max : Int) = ((18446744073709551615 : Nat) : Int) by rfl, bits_xor_u64_nat _ _ (by decide) h]
  have : 18446744073709551615 ^^^ x = 18446744073709551615 - x := by
    apply Nat.eq_of_testBit_eq
    intro j
    rw [Nat.testBit_xor, show 18446744073709551615 - x = 2 ^ 64 - (x + 1) by omega, Nat.testBit_two_pow_sub_succ (by omega), show 18446744073709551615 = 2 ^ 64 - 1 by rfl, Nat.testBit_two_pow_sub_one]
    by_cases hj : j < 64
    · simp [hj]
    · have : x.testBit j = false := Nat.testBit_lt_two_pow (Nat.lt_of_lt_of_le (show x < 2 ^ 64 from h) (Nat.pow_le_pow_right (by decide) (Nat.not_lt.1 hj)))
      simp [hj, this]
  rw [this]
  omega
theorem SetAt.noted {w : World} {g k : Nat} {f : Nat → Bool} (h : SetAt w g (notS f k)) (hk : k = 0 ∨ k = 1 ∨ k = 2 ∨ k = 3) :
    SetAt (w.setCell ⟨g, k, none⟩ (.int .u64 (comp (wd f k)))) g (notS f (k + 1)) := by
  unfold SetAt at h ⊢
  have hl := wd_lt f k
  rw [heap_setCell_same w g k _ _ _ h, comp_eq _ hl, show (18446744073709551615 - ((wd f k : Nat) : Int)) = ((18446744073709551615 - wd f k : Nat) : Int) by omega, ← notS_next]
  unfold setC
  rcases hk with rfl | rfl | rfl | rfl
  · rw [← notS_other f 0 1 (by decide), ← notS_other f 0 2 (by decide), ← notS_other f 0 3 (by decide)]; rfl
  · rw [← notS_other f 1 0 (by decide), ← notS_other f 1 2 (by decide), ← notS_other f 1 3 (by decide)]; rfl
  · rw [← notS_other f 2 0 (by decide), ← notS_other f 2 1 (by decide), ← notS_other f 2 3 (by decide)]; rfl
  · rw [← notS_other f 3 0 (by decide), ← notS_other f 3 1 (by decide), ← notS_other f 3 2 (by decide)]; rfl

def RelNot (w : World) (f : Nat → Bool) (i : Value) (wr : World) : Prop :=
  ∃ k : Nat, k ≤ 4 ∧ i = .int .i64 (k : Nat) ∧ SetAt wr w.heap.size (notS f k) ∧ SetAt wr (w.heap.size + 1) (fun _ => false) ∧ Below w.heap.size w wr
theorem RelNot.mk {w : World} {f : Nat → Bool} {i : Value} {wr : World} (h : ∃ k : Nat, k ≤ 4 ∧ i = .int .i64 (k : Nat) ∧ SetAt wr w.heap.size (notS f k) ∧ SetAt wr (w.heap.size + 1) (fun _ => false) ∧ Below w.heap.size w wr) : RelNot w f i wr := h

set_option maxRecDepth 100000 in
theorem run_index (f : Nat → Bool) (k : Nat) (hk : k = 0 ∨ k = 1 ∨ k = 2 ∨ k = 3) : ∀ w, (Instr.index 32 (.agg (setC f)) (.int .i64 (k : Int))).run Try.prog w = .ok (.int .u64 ((wd f k : Nat) : Int)) w := by
  rcases hk with rfl | rfl | rfl | rfl <;> exact fun _ => by kernel_rfl

set_option maxRecDepth 100000 in
set_option maxHeartbeats 4000000 in
theorem not_any (f : Nat → Bool) (w : World) :
    Calls Try.prog 53 #[setV f] w fun e w' => e = .returned (setV (fun c => !f c)) ∧ Below w.heap.size w w' := by
  show Calls Try.prog 53 #[.agg (setC f)] w _
  go_enter Try.func53, Try.ntmps53
  go_wp2_with (refine wpList_load_row rfl 32 (.tmp 1) rfl w.heap.size rfl 32 _ (0, 0) _ ((set_new w f).alloc _) Try.underlying32 rfl (set_size _) ?_)
  go_loopw [6] (RelNot w f) (fun i _ => 4 - (intOf i).toNat)
  case atStart => exact RelNot.mk ⟨0, by omega, rfl, by rw [notS_zero]; exact (set_new w f).alloc _, set_zero_at _ _ (by simp), ((Below.refl _ _).alloc (Nat.le_refl _) _).alloc (by simp) _⟩
  case round =>
    obtain ⟨k, hk, rfl, hs, hz, hb⟩ := hrel
    by_cases hlt : k < 4
    · have hK : k = 0 ∨ k = 1 ∨ k = 2 ∨ k = 3 := by omega
      have hix := run_index f k hK
      have hs' := Lib.hid (hs.noted hK)
      have hz' := Lib.hid (hz.set_other (a := ⟨w.heap.size, k, none⟩) (v := .int .u64 (comp (wd f k))) (by show w.heap.size + 1 ≠ w.heap.size; omega))
      have hb' := Lib.hid (hb.setCell (p := ⟨w.heap.size, k, none⟩) (Nat.le_refl _) (.int .u64 (comp (wd f k))))
      have c0 := hs.cell' hK
      rw [notS_at] at c0
      have f0 := hs.thawed k
      have hlx := wd_lt f k
      have k0 : (0 : Int) ≤ (k : Int) := by omega
      have k1 : (k : Int) < 4 := by omega
      clear hs hz hb hK
      go_wp2
      go_round
      case rel => exact RelNot.mk ⟨k + 1, by omega, by go_num, hs'.out, hz'.out, hb'.out⟩
      case measure => simp [intOf]; omega
    · obtain rfl : k = 4 := by omega
      have hz' := Lib.hid hz
      have hb' := Lib.hid hb
      have hs' := Lib.hid hs
      clear hz hb hs
      go_wp2_with (first
        | (refine wpList_load_row rfl 32 (.tmp 1) rfl w.heap.size rfl 32 _ (0, 0) _ hs'.out Try.underlying32 rfl (set_size _) ?_)
        | (refine wpList_store_row rfl 32 (.tmp 2) (.tmp 15) rfl (w.heap.size + 1) (setC (notS f 4)) rfl rfl 32 _ hz'.out (set_size _) (set_hold _ _) (set_cells _) ?_))
      refine bodyPost_ret (v := setV (notS f 4)) (results_cell_row Try.results53 _ _ (w.heap.size + 1) 32 (setC (notS f 4)) (0, 0) _ rfl (hz'.out.put _) Try.underlying32 rfl (set_size _)) rfl ⟨by rw [(notS_end f).setV], below_put hb'.out (by omega) _⟩
end Go.Proofs.Ytnfbgpjadnlgbab
