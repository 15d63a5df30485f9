/- Contracts: Rest, Text (package scan). -/
import Derived.Test.YtdjnlploddlkbaaScnG
set_option linter.unusedVariables false
set_option linter.unusedSimpArgs false
set_option maxRecDepth 100000
namespace Go.Proofs.Ytdjnlploddlkbaa
open Go.RowKit

theorem lnOf_all (r : List UInt8) (h : hasNL r = false) : lnOf r = r := by
  induction r with
  | nil => rfl
  | cons x r ih =>
    rw [hasNL_cons, Bool.or_eq_false_iff, decide_eq_false_iff_not] at h
    rw [lnOf_cons, if_neg h.1, ih h.2]
theorem lnOf_take (r : List UInt8) : r.take (lnOf r).length = lnOf r := by
  unfold lnOf
  induction r with
  | nil => rfl
  | cons x r ih =>
    rw [List.takeWhile_cons]
    split
    · rw [List.length_cons, List.take_succ_cons, ih]
    · rfl
theorem lnOf_le (r : List UInt8) : (lnOf r).length ≤ r.length := by
  rw [← lnOf_take r, List.length_take]; omega
theorem adv_min {r : List UInt8} {a L : Nat} (hr : r.length = L - a) (ha : a ≤ L) : min (a + (lnOf r).length + 1) L = a + adv r := by
  have h1 := adv_le r
  have h2 := lnOf_le r
  unfold adv at h1 ⊢
  by_cases h : hasNL r = true
  · rw [if_pos h] at h1 ⊢; omega
  · rw [if_neg h] at h1 ⊢
    have : (lnOf r).length = r.length := by
      have h3 := lnOf_all r (by simpa using h)
      rw [h3]
    omega
section
variable {w : World} {B C : Nat} {v : Value} {l : List UInt8} {a : Nat}
theorem Mx.same {w w' : World} (h : Mx w) (hb : Below w.heap.size w w') : Mx w' := h.grow hb
/-- The bytes ahead of the first newline. -/
theorem cutNL_any {w : World} {A : Option Addr} {n c b2 : Nat} {r : List UInt8} {B : Nat} (hn : n = r.length) (hnc : n ≤ c) (hl : n ≤ 1000000) (hA : A = none → c = 0) (h : Byt w B A r) (h2 : w.cell? ⟨b2, 0, none⟩ = some (.int .u8 10)) (hm : Mx w) :
    Calls Try.prog 29 #[.slice A n c, .slice (some ⟨b2, 0, none⟩) 1 1] w fun e w' => (∃ x y, e = .returned (.tuple #[.slice A (lnOf r).length c, x, y])) ∧ ∃ q, w' = w.drewN q := by
  subst hn
  obtain ⟨m, _, hm⟩ := hm
  have hx : ∀ x ∈ ints r, 0 ≤ x ∧ x < 256 := by
    intro x hx
    obtain ⟨y, _, rfl⟩ := List.mem_map.1 hx
    have : y.toNat < 256 := UInt8.toNat_lt y
    omega
  have hb2 : Lib.BytesIn w (some ⟨b2, 0, none⟩) 1 (ints [10]) := by
    intro _
    refine ⟨b2, 0, rfl, fun i hi => ?_⟩
    obtain rfl : i = 0 := by omega
    exact h2
  have hb1 : Lib.BytesIn w A r.length (ints r) := by
    cases A with
    | none => obtain rfl := h.none_nil; exact Lib.BytesIn.nil _ _ _
    | some ad => exact Lib.BytesIn.of_cells h.cells
  refine (Try.bytes_Cut_all A (some ⟨b2, 0, none⟩) r.length c 1 1 (ints r) (ints [10]) m w (ints_len r) rfl hx (by decide) hb1 hb2 hA hnc (by omega) (by decide) hm).mono fun e w' ⟨he, hw⟩ => ⟨?_, hw⟩
  rw [he, ints_bytes, ints_bytes, Lib.index_one, indexByte_adv]
  unfold Lib.cutV
  by_cases hN : hasNL r = true
  · rw [if_pos hN, if_pos (by omega)]
    exact ⟨_, _, rfl⟩
  · rw [if_neg hN, if_neg (by omega)]
    refine ⟨.slice none 0 0, .bool false, ?_⟩
    rw [lnOf_all r (by simpa using hN)]
set_option maxHeartbeats 4000000 in
theorem rest_any (h : Cur w B C v l a) (hmx : Mx w) :
    Calls Try.prog 16 #[.pointer (some ⟨C, 0, none⟩)] w fun e w' => (∃ u, e = .returned u ∧ OwnB w' w.heap.size u (lnOf (l.drop a))) ∧ CurQ w w' B C v l (a + adv (l.drop a)) := by
  obtain ⟨A, c, hlv, h1, h2, h3, h4⟩ := h.rest
  have hL := Lib.hid (left_any h)
  rw [hlv] at hL
  have hle := h.le
  have hfew := h.few
  have hrl := Lib.hid (show (l.drop a).length = l.length - a from List.length_drop)
  have hmf : (l.drop a).length ≤ 1000000 := by rw [hrl.out]; omega
  have hK := Lib.hid (fun (q : Nat) => show Below w.heap.size w ((w.drewN q).alloc (.cells #[.int .u8 10] 5 (1, 2))) from (below_drewN (Below.refl _ _) q).alloc (Nat.le_refl _) _)
  have hCu := Lib.hid (fun (q : Nat) => cutNL_any (b2 := w.heap.size) (B := w.heap.size) (w := (w.drewN q).alloc (.cells #[.int .u8 10] 5 (1, 2))) rfl h1 hmf h3 (h4.below (hK.out q)) ((cell_of_row ((w.drewN q).alloc (.cells #[.int .u8 10] 5 (1, 2))) w.heap.size 0 _ 5 (1, 2) (heap_alloc_new (w.drewN q) _)).trans rfl) (hmx.grow (hK.out q)))
  have hzl := lnOf_le (l.drop a)
  have hmin := Lib.hid (adv_min hrl.out hle)
  have htk := Lib.hid (lnOf_take (l.drop a))
  have kc := fun (q : Nat) => (show (convert 24 24 (.slice (some ⟨w.heap.size, 0, none⟩) 1 1)).run Try.prog ((w.drewN q).alloc (.cells #[.int .u8 10] 5)) = .ok (.slice (some ⟨w.heap.size, 0, none⟩) 1 1) ((w.drewN q).alloc (.cells #[.int .u8 10] 5 (1, 2))) from Lib.run_convert_bytes_const (P := Try.prog) (w.drewN q) 24 5 #[.int .u8 10] 1 1 Try.underlying24 Try.underlying5)
  have hh := Lib.hid h
  have hlvh := Lib.hid hlv
  unfold maxLen at h2
  clear h h3 h4 hlv hmx
  rw [← hmin.out]
  generalize hz : (lnOf (l.drop a)).length = z at *
  generalize hm : (l.drop a).length = m at *
  replace hz := Lib.hid hz
  replace hm := Lib.hid hm
  go_enter Try.func16, Try.ntmps16
  go_upto_region 4 with (first
    | (go_at_call 24; refine (hL.out).mono ?_; rintro e w1 ⟨rfl, q, rfl⟩; have hPq := Lib.hid (hCu.out q); have hKq := Lib.hid (hK.out q))
    | (go_at_call 29; refine (hPq.out).mono ?_; rintro e w2 ⟨⟨x, y, rfl⟩, q2, rfl⟩))
  have hb2 := Lib.hid (show Below w.heap.size w (((w.drewN q).alloc (.cells #[.int .u8 10] 5 (1, 2))).drewN q2) from below_drewN hKq.out q2)
  clear hL hCu hK hPq hKq kc
  generalize ((w.drewN q).alloc (.cells #[.int .u8 10] 5 (1, 2))).drewN q2 = w2 at *
  have hC2 := Lib.hid (hh.out.keep hb2.out)
  have hPL := Lib.hid (passLine_any hC2.out z (by have := hrl.out; omega))
  go_upto_region 5 with (go_at_call 30; refine (hPL.out).mono ?_; rintro e w3 ⟨rfl, hc3, hg3⟩)
  have hQ3 := Lib.hid (CurQ.of_keep hb2.out ⟨hc3, hg3⟩)
  have hC := Lib.hid (clone_any A z c ((l.drop a).take z) w3.heap.size w3 (by rw [List.length_take, hm.out]; omega) (by omega) ((hc3.own.rest_at hle hlvh.out).pre z))
  have hsz := Lib.hid (show w.heap.size ≤ w3.heap.size from hQ3.out.grown.size)
  clear hPL hc3 hg3
  go_wp2_with (go_at_call 23; refine (hC.out).mono ?_; rintro e w4 ⟨v4, rfl, ho4, hb4⟩; have ho4h := Lib.hid ho4; have hb4h := Lib.hid hb4; clear ho4 hb4)
  go_ret
  refine ⟨⟨_, rfl, ?_⟩, hQ3.out.keep hb4h.out⟩
  have := sw_base ho4h.out hsz.out
  have e1 : (l.drop a).take z = lnOf (l.drop a) := htk.out
  rw [e1] at this
  unfold OwnB
  rw [hz.out]
  exact this
end
end Go.Proofs.Ytdjnlploddlkbaa
