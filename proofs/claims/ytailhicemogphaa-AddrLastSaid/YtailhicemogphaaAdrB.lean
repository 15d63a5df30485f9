/- The reference's Holds (palinoderef15), of any address and any look. -/
import Derived.Test.YtailhicemogphaaAdrA
set_option linter.unusedVariables false
set_option linter.unusedSimpArgs false
set_option maxRecDepth 100000
namespace Go.Proofs.Ytailhicemogphaa
open Go.RowKit

def lkV (line : Int) (last : Bool) (A : Option Addr) (n c : Nat) : Value := .agg #[.int .i64 line, .bool last, .slice A n c]
/-- Does an address hold, an error's number. -/
def holdsS (a : Ad) (line : Int) (last : Bool) (bs : List Bool) : Bool × Int :=
  if a.k = 3 then if a.r < 0 ∨ (bs.length : Int) ≤ a.r then (false, 27) else (bs.getD a.r.toNat false, 0)
  else if a.k < 0 ∨ 3 < a.k then (false, 1)
  else ((decide (a.k = 0) || (decide (a.k = 1) && decide (a.n = line))) || (decide (a.k = 2) && last), 0)
theorem Vals.bool {w : World} {B k : Nat} {A : Option Addr} {bs : List Bool} (h : Vals w B A (bs.map Value.bool)) (hk : k < bs.length) : ∃ ad, A = some ad ∧ ad.block < B ∧ w.cell? (ad.add k) = some (.bool (bs.getD k false)) := by
  obtain ⟨ad, h1, h2, h3⟩ := h k (by rw [List.length_map]; exact hk)
  refine ⟨ad, h1, h2, ?_⟩
  rw [h3, List.getElem_map, List.getD_eq_getElem?_getD, List.getElem?_eq_getElem hk]; rfl
theorem ret_be {a b : Bool} {x y : Int} (h : (a, x) = (b, y)) : Ending.returned (.tuple #[.bool a, .int .i64 x]) = .returned (.tuple #[.bool b, .int .i64 y]) := by cases h; rfl
set_option maxHeartbeats 4000000 in
theorem rHolds_any (a : Ad) (line : Int) (last : Bool) {A : Option Addr} {n c : Nat} {bs : List Bool} {w : World} (hn : n = bs.length) (hc : n ≤ c) (hm : c ≤ maxLen) (h : Vals w w.heap.size A (bs.map Value.bool)) :
    Calls Try.prog 13 #[adV a, lkV line last A n c] w fun e w' => e = .returned (.tuple #[.bool (holdsS a line last bs).1, .int .i64 (holdsS a line last bs).2]) ∧ Below w.heap.size w w' := by
  have hb := Lib.hid (fun x y z x' y' z' => ((Below.refl w.heap.size w).alloc (Nat.le_refl _) (.cells #[.int .i64 x, .int .i64 y, .int .i64 z] 23)).alloc (by rw [sizeA']; exact Nat.le_succ _) (.cells #[.int .i64 x', .bool y', z'] 28))
  generalize hR : holdsS a line last bs = R
  unfold holdsS at hR
  unfold adV lkV
  obtain ⟨k, m, r⟩ := a
  obtain ⟨R1, R2⟩ := R
  have hRh := Lib.hid hR
  clear hR
  by_cases h3 : k = 3
  · subst h3
    rw [if_pos rfl] at hRh
    by_cases hr : r < 0 ∨ (bs.length : Int) ≤ r
    · rw [if_pos hr] at hRh
      subst hn
      go_enter Try.func13, Try.ntmps13
      go_wp2
      · go_ret2
        exact ⟨ret_be hRh.out, hb.out _ _ _ _ _ _⟩
      · go_ret2
        exact ⟨ret_be hRh.out, hb.out _ _ _ _ _ _⟩
    · rw [if_neg hr] at hRh
      obtain ⟨i, rfl⟩ := Int.eq_ofNat_of_zero_le (show 0 ≤ r by omega)
      have hi : i < bs.length := by omega
      obtain ⟨ad, rfl, hlt, hcell⟩ := h.bool hi
      have hcell2 := (hb.out 3 m (i : Int) line last (.slice (some ad) n c)).cell (p := ad.add i) (by rw [block_add]; exact hlt)
      rw [hcell] at hcell2
      clear hcell h
      rw [show ((i : Int).toNat) = i from rfl] at hRh
      generalize bs.getD i false = b at *
      subst hn
      go_enter Try.func13, Try.ntmps13
      go_wp2
      all_goals first
        | (go_ret2; exact ⟨ret_be hRh.out, hb.out _ _ _ _ _ _⟩)
        | (exfalso; omega)
  · rw [if_neg h3] at hRh
    by_cases hk : k < 0 ∨ 3 < k
    · rw [if_pos hk] at hRh
      go_enter Try.func13, Try.ntmps13
      go_wp2
      all_goals first
        | (go_ret2; exact ⟨ret_be hRh.out, hb.out _ _ _ _ _ _⟩)
        | (exfalso; omega)
    · rw [if_neg hk] at hRh
      cases last <;> (
      go_enter Try.func13, Try.ntmps13
      go_wp2
      all_goals first
        | (go_ret2; exact ⟨ret_be (by rw [← hRh.out, Prod.mk.injEq]; exact ⟨by rw [Bool.eq_iff_iff]; simp <;> omega, rfl⟩), hb.out _ _ _ _ _ _⟩)
        | (exfalso; omega))
end Go.Proofs.Ytailhicemogphaa
