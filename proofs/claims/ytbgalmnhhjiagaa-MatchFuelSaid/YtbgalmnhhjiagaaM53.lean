/- Contract of the reference's One, of the byte a. The document's example: a* at the beginning of aab, with fuel 9: from 0 to 2, and 3 is left. Nothing here speaks of a program. -/
import Derived.Test.YtbgalmnhhjiagaaM26
import Derived.Test.YtbgalmnhhjiagaaM06
import Derived.Test.YtbgalmnhhjiagaaM22
set_option linter.unusedVariables false
set_option maxRecDepth 100000
namespace Go.Proofs.Ytbgalmnhhjiagaa
open Go.RowKit
def f97 : Nat → Bool := fun c => decide (c = 97)
theorem setC_97 : setC f97 = #[.int .u64 0, .int .u64 8589934592, .int .u64 0, .int .u64 0] := by
  have h0 : wd f97 0 = 0 := by decide +kernel
  have h1 : wd f97 1 = 8589934592 := by decide +kernel
  have h2 : wd f97 2 = 0 := by decide +kernel
  have h3 : wd f97 3 = 0 := by decide +kernel
  unfold setC
  rw [h0, h1, h2, h3]; rfl
set_option maxHeartbeats 4000000 in
theorem one97_any (w : World) : Calls Try.prog 12 #[.int .u8 97] w fun e w' => e = .returned (.agg (setC f97)) ∧ Below w.heap.size w w' := by
  rw [setC_97]
  go_enter Try.func12, Try.ntmps12
  go_wp2
  exact bodyPost_ret (results_cell_row Try.results12 _ _ w.heap.size 46 _ (0, 0) _ rfl ((held_new w 46 _).alloc _) Try.underlying46 rfl (by kernel_rfl)) rfl ⟨rfl, ((Below.refl w.heap.size w).alloc (Nat.le_refl _) _).alloc (by simp) _⟩
end Go.Proofs.Ytbgalmnhhjiagaa

set_option linter.unusedVariables false
set_option linter.unusedSimpArgs false
set_option maxRecDepth 100000
namespace Go.Proofs.Ytbgalmnhhjiagaa
open Go.RowKit

def exM (s : Nat → Bool) : List Nod := [⟨1, 0, 0, 0, 0, 0, s⟩, ⟨4, 0, 0, 0, -1, 0, zset⟩]
theorem ex_stk (s : Nat → Bool) (h97 : s 97 = true) (h98 : s 98 = false) : Stk (exM s) [97, 97, 98] [([.node 1], pt0 0)] 6 [⟨2, (pt0 0).sp⟩, ⟨1, (pt0 0).sp⟩, pt0 0] := by
  have n0 : ndA (exM s) 0 = ⟨1, 0, 0, 0, 0, 0, s⟩ := rfl
  have n1 : ndA (exM s) 1 = ⟨4, 0, 0, 0, -1, 0, zset⟩ := rfl
  have r : ∀ p : Pt, nexts (exM s) [97, 97, 98] (.node 1) p = [([.node 0, .times 1 1 p.i], p), ([], p)] := fun p => by
    rw [next_rep (by rw [n1]), n1]; rfl
  have ra : ∀ p : Pt, p.i < 2 → nexts (exM s) [97, 97, 98] (.node 0) p = [([], ⟨p.i + 1, p.sp⟩)] := fun p hp => by
    have hc : ([97, 97, 98] : List UInt8)[p.i]? = some 97 := by
      obtain ⟨i, sp⟩ := p
      have : i = 0 ∨ i = 1 := by simp at hp; omega
      rcases this with rfl | rfl <;> rfl
    rw [next_set (by rw [n0]) hc, n0]
    show (if s 97 = true then _ else _) = _
    rw [if_pos h97]
  have rb : ∀ sp : Spn, nexts (exM s) [97, 97, 98] (.node 0) ⟨2, sp⟩ = [] := fun sp => by
    rw [next_set (by rw [n0]) (c := 98) rfl, n0]
    show (if s 98 = true then _ else _) = _
    rw [h98]; rfl
  have on : ∀ (k : Int) (q : Nat) (p : Pt), p.i ≠ q → 0 ≤ k → nexts (exM s) [97, 97, 98] (.times 1 k q) p = [([.node 0, .times 1 (k + 1) p.i], p), ([], p)] := fun k q p h hk => by
    rw [next_on h, n1]
    show (if (-1 : Int) = -1 ∨ _ then _ else _) ++ (if (0 : Int) ≤ k then _ else _) = _
    rw [if_pos (.inl rfl), if_pos hk]; rfl
  have e0 : Stk (exM s) [97, 97, 98] [([.node 0, .times 1 3 2], ⟨2, (pt0 0).sp⟩)] 1 [] := .go0 (rb _)
  have hit : ∀ p : Pt, Stk (exM s) [97, 97, 98] [([], p)] 0 [p] := fun p => .hit p .nil
  have e1 : Stk (exM s) [97, 97, 98] [([.times 1 2 1], ⟨2, (pt0 0).sp⟩)] 2 [⟨2, (pt0 0).sp⟩] := Stk.go2 (on 2 1 ⟨2, _⟩ (by decide) (by decide)) e0 (hit _)
  have e2 : Stk (exM s) [97, 97, 98] [([.node 0, .times 1 2 1], ⟨1, (pt0 0).sp⟩)] 3 [⟨2, (pt0 0).sp⟩] := Stk.go1 (ra ⟨1, _⟩ (by decide)) e1
  have e3 : Stk (exM s) [97, 97, 98] [([.times 1 1 0], ⟨1, (pt0 0).sp⟩)] 4 [⟨2, (pt0 0).sp⟩, ⟨1, (pt0 0).sp⟩] := Stk.go2 (on 1 0 ⟨1, _⟩ (by decide) (by decide)) e2 (hit _)
  have e4 : Stk (exM s) [97, 97, 98] [([.node 0, .times 1 1 0], pt0 0)] 5 [⟨2, (pt0 0).sp⟩, ⟨1, (pt0 0).sp⟩] := Stk.go1 (ra (pt0 0) (by decide)) e3
  exact Stk.go2 (r (pt0 0)) e4 (hit _)
/-- What is told of it, whoever tells it. -/
theorem ex_told (s : Nat → Bool) (h97 : s 97 = true) (h98 : s 98 = false) {x : Option (Option Spn × Int)} (h : Told11 (exM s) [97, 97, 98] 1 0 9 x) : ∃ m, x = some (some m, 3) ∧ m 0 = (0, 2) ∧ ∀ g, 1 ≤ g → m g = (-1, -1) := by
  refine ⟨hitS 0 ⟨2, (pt0 0).sp⟩, ?_, rfl, fun g hg => by rw [hitS_g 0 _ hg]; rfl⟩
  rw [h.det (.fin (ex_stk s h97 h98) (by decide))]
  rfl
end Go.Proofs.Ytbgalmnhhjiagaa
