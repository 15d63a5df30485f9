/- What FilesFull needs of the lists. -/
import Derived.Test.YtkdhfjnfdcopdaaFilX
namespace Go.Proofs.Ytkdhfjnfdcopdaa.Full
open Go.RowKit

abbrev nmAt (i : Nat) : ByteArray := ⟨#[102, UInt8.ofNat (97 + i)]⟩
def fsAt (i : Nat) : List Fil := (List.range (min i 16)).map fun j => (nmAt j, [])
theorem fsAt_put : ∀ i, i < 20 → putF (fsAt i) (nmAt i) [] = (fsAt (i + 1), if i < 16 then 0 else 7) := by decide +kernel
theorem fsAt_ok : ∀ i, i < 21 → OkF (fsAt i) := by unfold OkF; decide +kernel
theorem fsAt_len (i : Nat) : (fsAt i).length = min i 16 := by simp [fsAt]
/-- All blocks from B on but those from s0 to s1. -/
def Gap (B s0 s1 k : Nat) : Prop := B ≤ k ∧ (k < s0 ∨ s1 ≤ k)
theorem tab_gap {w w1 : World} {B T : Nat} {fs : List Fil} (h : Tab w (fun k => B ≤ k) T fs) (hb : Below w.heap.size w w1) : Tab w1 (Gap B w.heap.size w1.heap.size) T fs :=
  h.kept (fun _ hk _ => hb.block _ hk) (fun _ hk hF => ⟨hF, .inl hk⟩)
theorem gap_open {B s0 s1 : Nat} (h : B ≤ s1) : ∀ k, s1 ≤ k → Gap B s0 s1 k := fun _ hk => ⟨Nat.le_trans h hk, .inr hk⟩
theorem tab_ungap {w : World} {B s0 s1 T : Nat} {fs : List Fil} (h : Tab w (Gap B s0 s1) T fs) : Tab w (fun k => B ≤ k) T fs := h.kept (fun _ _ _ => rfl) (fun _ _ h => h.1)
/-- Zeros. -/
def zeros (n : Nat) : List UInt8 := List.replicate n 0
theorem zeros_len (n : Nat) : (zeros n).length = n := by simp [zeros]
theorem bv_zeros (n : Nat) : bv (zeros n) = List.replicate n (.int .u8 0) := by simp [bv, zeros]
theorem isA : isNm nA = true := by decide
theorem putEq {fs : List Fil} {nm : ByteArray} {b : List UInt8} {e : Int} (h : refuse fs nm (decide (b.length ≤ 65536)) = e) : putF fs nm b = if e = 0 then (setF fs nm b, 0) else (fs, e) := by
  unfold putF; simp only [h]
theorem put_long (fs : List Fil) (n : Nat) (h : 65536 < n) : putF fs nA (zeros n) = (fs, 8) := by
  have e : refuse fs nA (decide ((zeros n).length ≤ 65536)) = 8 := by
    unfold refuse
    rw [isA, zeros_len, decide_eq_false (by omega)]; simp
  rw [putEq e, if_neg (by decide)]
theorem put_new (n : Nat) (h : n ≤ 65536) : putF [] nA (zeros n) = ([(nA, zeros n)], 0) := by
  have e : refuse [] nA (decide ((zeros n).length ≤ 65536)) = 0 := refuse_of isA (by rw [zeros_len]; simpa using h) (fun _ => by simp)
  rw [putEq e, if_pos rfl]; rfl
theorem getA (l : List UInt8) : getF [(nA, l)] nA = l := by simp [getF, posN]
theorem add_long (l b : List UInt8) (h : 65536 < l.length + b.length) : addF [(nA, l)] nA b = ([(nA, l)], 8) := by
  have e : refuse [(nA, l)] nA (decide ((l ++ b).length ≤ 65536)) = 8 := by
    unfold refuse
    rw [isA, List.length_append, decide_eq_false (by omega)]; simp
  unfold addF
  rw [getA, putEq e, if_neg (by decide)]
theorem add_fits (l b : List UInt8) (h : l.length + b.length ≤ 65536) : addF [(nA, l)] nA b = ([(nA, l ++ b)], 0) := by
  have e : refuse [(nA, l)] nA (decide ((l ++ b).length ≤ 65536)) = 0 := refuse_of isA (by rw [List.length_append]; simpa using h) (fun e => by simp [posN] at e)
  unfold addF
  rw [getA, putEq e, if_pos rfl]
  simp [setF, posN]
theorem len_one (l : List UInt8) : lenF [(nA, l)] nA = (l.length : Int) := by simp [lenF, getF, posN]
theorem ok_one (l : List UInt8) (h : l.length ≤ 65536) : OkF [(nA, l)] := by
  refine ⟨by simp, fun f hf => ?_⟩
  obtain rfl : f = (nA, l) := by simpa using hf
  exact ⟨isA, h⟩
/-- n zeros, made: in a block of their own. -/
structure Made (w w' : World) (n : Nat) : Prop where
  below : Below w.heap.size w w'
  more : w.heap.size < w'.heap.size
  held : BytQ w' (fun k => k = w.heap.size) (some ⟨w.heap.size, 0, none⟩) (zeros n)
theorem made_of {w w' : World} {n c : Nat} (hown : w'.ownsRow w.heap.size 5 1 (.slice (some ⟨w.heap.size, 0, none⟩) n c) n (List.replicate n (.int .u8 0))) (hg : w.grownBy w' none) : Made w w' n := by
  refine ⟨⟨hg.os, hg.tape, hg.output, hg.size, fun k hk => hg.block k hk (by simp)⟩, (hown.lt w.heap.size rfl).2, fun k hk => ?_⟩
  rw [zeros_len] at hk
  refine ⟨_, rfl, rfl, ?_⟩
  rw [add_zero_off, hown.cellAt k (by omega)]
  simp [zeros, hk]
theorem mk_zeros (n : Nat) (h : n ≤ 100000) (w : World) : ∃ w', (Instr.makeSlice 35 (.int .i64 (n : Int)) (.int .i64 (n : Int))).run Try.prog w = .ok (.slice (some ⟨w.heap.size, 0, none⟩) n n) w' ∧ Made w w' n := by
  obtain ⟨i0, hi, hz0, hz1, hz2⟩ := info_parts byte_info3
  obtain ⟨w', hr, ho, hg⟩ := run_make_full (P := Try.prog) w w.heap.size 35 5 i0 (.int .u8 0) 1 Try.underlying35 hi hz0 hz1 .i64 .i64 n (by rw [hz2]; omega) (by unfold maxLen; omega) (Nat.le_refl _)
  have e : (madeCells (Value.int .u8 0).cells (n * 1)).toList = List.replicate n (.int .u8 0) := by rw [Nat.mul_one]; exact toList_madeCells_one _ n
  rw [e] at ho
  exact ⟨w', hr, made_of ho hg⟩
theorem gap_no {B s0 s1 k : Nat} (h1 : s0 ≤ k) (h2 : k < s1) : ¬ Gap B s0 s1 k := fun h => by rcases h.2 with h | h <;> omega
theorem made_gap {w w' w1 : World} {n B : Nat} (h : Made w w' n) (hb : Below w'.heap.size w' w1) : BytQ w1 (fun k => ¬ Gap B w.heap.size w1.heap.size k) (some ⟨w.heap.size, 0, none⟩) (zeros n) :=
  h.held.keep (fun _ _ hp => hb.cell hp) (fun k hk _ => gap_no (by omega) (by have := h.more; have := hb.size; omega))
theorem bss_made1 {w w' : World} {n : Nat} (B : Nat) (h : Made w w' n) (hn : n ≤ 100000) (t : TypeId) :
    Bss (w'.alloc (.cells #[.slice (some ⟨w.heap.size, 0, none⟩) n n] t)) (fun k => ¬ Gap B w.heap.size (w'.alloc (.cells #[.slice (some ⟨w.heap.size, 0, none⟩) n n] t)).heap.size k) (some ⟨w'.heap.size, 0, none⟩) [zeros n] := by
  have hb : Below w'.heap.size w' (w'.alloc (.cells #[.slice (some ⟨w.heap.size, 0, none⟩) n n] t)) := (Below.refl _ w').alloc (Nat.le_refl _) _
  intro k hk
  obtain rfl : k = 0 := by simpa using hk
  have hm := h.more
  exact ⟨_, _, rfl, gap_no (by show w.heap.size ≤ w'.heap.size; omega) (by rw [sizeA]; show w'.heap.size < _; omega), new_one w' _ t 0 _ rfl, _, n, n, rfl, (zeros_len n).symm, Nat.le_refl _, by unfold maxLen; omega, made_gap h hb⟩
theorem bss_made2 {w w' : World} {n : Nat} (B : Nat) (h : Made w w' n) (hn : n ≤ 100000) (t1 t : TypeId) (w2 : World)
    (h2 : w2 = (w'.alloc (.cells #[.int .u8 1] t1)).alloc (.cells #[.slice (some ⟨w.heap.size, 0, none⟩) n n, .slice (some ⟨w'.heap.size, 0, none⟩) 1 1] t)) :
    Bss w2 (fun k => ¬ Gap B w.heap.size w2.heap.size k) (some ⟨w'.heap.size + 1, 0, none⟩) [zeros n, [1]] := by
  have hb1 : Below w'.heap.size w' (w'.alloc (.cells #[.int .u8 1] t1)) := (Below.refl _ w').alloc (Nat.le_refl _) _
  have hb2 : Below (w'.alloc (.cells #[.int .u8 1] t1)).heap.size (w'.alloc (.cells #[.int .u8 1] t1)) w2 := by rw [h2]; exact (Below.refl _ _).alloc (Nat.le_refl _) _
  have hs : w2.heap.size = w'.heap.size + 2 := by rw [h2, sizeA, sizeA]
  have hm := h.more
  have hcells := new_cells (w'.alloc (.cells #[.int .u8 1] t1)) [.slice (some ⟨w.heap.size, 0, none⟩) n n, .slice (some ⟨w'.heap.size, 0, none⟩) 1 1] t
  rw [sizeA] at hcells
  have hw2 : (w'.alloc (.cells #[.int .u8 1] t1)).alloc (.cells [Value.slice (some ⟨w.heap.size, 0, none⟩) n n, .slice (some ⟨w'.heap.size, 0, none⟩) 1 1].toArray t) = w2 := h2.symm
  rw [hw2] at hcells
  intro k hk
  have hk : k < 2 := hk
  match k, hk with
  | 0, _ =>
    exact ⟨_, _, rfl, gap_no (by show w.heap.size ≤ w'.heap.size + 1; omega) (by rw [hs]; show w'.heap.size + 1 < _; omega), hcells 0 _ rfl, _, n, n, rfl, (zeros_len n).symm, Nat.le_refl _, by unfold maxLen; omega, made_gap h (hb1.trans (hb2.mono hb1.size))⟩
  | 1, _ =>
    refine ⟨_, _, rfl, gap_no (by show w.heap.size ≤ w'.heap.size + 1; omega) (by rw [hs]; show w'.heap.size + 1 < _; omega), hcells 1 _ rfl, _, 1, 1, rfl, rfl, Nat.le_refl _, by unfold maxLen; omega, ?_⟩
    intro j hj
    obtain rfl : j = 0 := by simpa using hj
    refine ⟨_, rfl, gap_no (by show w.heap.size ≤ w'.heap.size; omega) (by rw [hs]; show w'.heap.size < _; omega), ?_⟩
    refine (hb2.cell ?_).trans (new_one w' (.int .u8 1) t1 0 _ rfl)
    rw [sizeA, add_zero_off]; exact Nat.lt_succ_self _
end Go.Proofs.Ytkdhfjnfdcopdaa.Full
