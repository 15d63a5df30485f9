/- Contract: leastOf. -/
import Derived.Test.YtmcfbocdkhimmaaTreG
import Derived.Lib.MinMax
set_option linter.unusedVariables false
namespace Go.Proofs.Ytmcfbocdkhimmaa
open Go.RowKit

/-- How many bytes a node takes at least, where those of its parts are told by f. -/
def leastI (n : Nod) (f : Nat → Int) : Int :=
  if n.kind = 1 then 1 else if n.kind = 2 then f n.a.toNat + f n.b.toNat else if n.kind = 3 then min (f n.a.toNat) (f n.b.toNat) else if n.kind = 4 then n.lo * f n.a.toNat else if n.kind = 5 then f n.a.toNat else 0
/-- What leastOf asks of its node. -/
structure Lst (n : Nod) (m : Nat) : Prop where
  pa : ∀ p ∈ partsN n, 0 ≤ p ∧ p < (m : Int)
  lo : n.kind = 4 → 0 ≤ n.lo ∧ n.lo ≤ 255
theorem fits_lst {n : Nod} {t : Nat} {g : Int} {m : Nat} (h : fitsN n (t : Int) g = true) (hm : t ≤ m) : Lst n m := by
  refine ⟨fun p hp => by have := fits_part h hp; omega, fun hk => ?_⟩
  unfold fitsN at h
  simp only [Bool.and_eq_true, Bool.or_eq_true, decide_eq_true_eq] at h
  rcases h.2.1 with h1 | h1
  · exact absurd hk h1
  · unfold timesN at h1
    simp only [Bool.and_eq_true, decide_eq_true_eq] at h1
    exact ⟨h1.1, h1.2.1⟩
/-- Numbers that a row may hold. -/
def LowF (f : Nat → Int) : Prop := ∀ i, 0 ≤ f i ∧ f i ≤ 65537
theorem mul_low {a b : Int} (h0 : 0 ≤ a) (h1 : a ≤ 255) (h2 : 0 ≤ b) (h3 : b ≤ 65537) : 0 ≤ a * b ∧ a * b ≤ 16711935 :=
  ⟨Int.mul_nonneg h0 h2, Int.le_trans (Int.mul_le_mul h1 h3 h2 (by omega)) (by omega)⟩
theorem least_low {n : Nod} {m : Nat} {f : Nat → Int} (hf : LowF f) (h : Lst n m) : 0 ≤ leastI n f ∧ leastI n f ≤ 16711935 := by
  have h1 := hf n.a.toNat
  have h2 := hf n.b.toNat
  unfold leastI
  split
  · omega
  split
  · omega
  split
  · omega
  split
  · have := h.lo ‹_›
    exact mul_low this.1 this.2 h1.1 h1.2
  split
  · omega
  · omega

set_option maxHeartbeats 8000000 in
theorem leastOf_any (n : Nod) (m g : Nat) (f : Nat → Int) (w : World) (hr : Held w g 3 (rowC m f)) (hf : LowF f) (hL : Lst n m) (hm : m ≤ 1000) :
    Calls Try.prog 22 #[nodV n, .slice (some ⟨g, 0, none⟩) m m] w fun e w' => e = .returned (.int .i64 (leastI n f)) ∧ Below w.heap.size w w' := by
  have hb := Lib.hid ((Below.refl w.heap.size w).alloc (Nat.le_refl _) (.cells (nodC n) 42))
  have hR := hr.alloc (.cells (nodC n) 42)
  by_cases h1 : n.kind = 1
  · rw [show leastI n f = 1 by simp [leastI, h1]]
    obtain ⟨k, a, b, lo, hi, gr, s⟩ := n
    simp only at h1
    subst h1
    rw [nodV_lit]
    clear hR hr hf hL
    go_enter Try.func22, Try.ntmps22
    go_wp2
    go_ret
    exact ⟨rfl, hb.out⟩
  by_cases h2 : n.kind = 2
  · have ha := hL.pa n.a (by rw [partsN_2 h2]; simp)
    have hbb := hL.pa n.b (by rw [partsN_2 h2]; simp)
    rw [show leastI n f = f n.a.toNat + f n.b.toNat by simp [leastI, h2]]
    obtain ⟨k, a, b, lo, hi, gr, s⟩ := n
    simp only at h2 ha hbb ⊢
    subst h2
    obtain ⟨x, rfl⟩ := Int.eq_ofNat_of_zero_le ha.1
    obtain ⟨y, rfl⟩ := Int.eq_ofNat_of_zero_le hbb.1
    rw [Int.toNat_natCast, Int.toNat_natCast]
    have cx := hR.at_ (rowC_get m f x (by omega))
    have cy := hR.at_ (rowC_get m f y (by omega))
    have gx := hf x
    have gy := hf y
    rw [show nodC ⟨2, (x : Int), (y : Int), lo, hi, gr, s⟩ = #[.int .i64 2, .int .i64 (x : Int), .int .i64 (y : Int), .int .i64 lo, .int .i64 hi, .int .i64 gr, .int .u64 (wd s 0 : Nat), .int .u64 (wd s 1 : Nat), .int .u64 (wd s 2 : Nat), .int .u64 (wd s 3 : Nat)] from rfl] at cx cy hb
    rw [nodV_lit]
    have hx1 := ha.2
    have hy1 := hbb.2
    have hx0 := ha.1
    have hy0 := hbb.1
    obtain ⟨gx0, gx1⟩ := gx
    obtain ⟨gy0, gy1⟩ := gy
    clear hR hr hf hL h1 ha hbb
    generalize f x = fx at *
    generalize f y = fy at *
    have hs : IntKind.i64.wrap (fx + fy) = fx + fy := IntWalk.i64_in _ (by omega)
    go_enter Try.func22, Try.ntmps22
    go_wp2
    go_quiet (fail)
    go_wp2
    go_ret
    exact ⟨rfl, below_drewN hb.out _⟩
  by_cases h3 : n.kind = 3
  · have ha := hL.pa n.a (by rw [partsN_3 h3]; simp)
    have hbb := hL.pa n.b (by rw [partsN_3 h3]; simp)
    rw [show leastI n f = min (f n.a.toNat) (f n.b.toNat) by simp [leastI, h3]]
    obtain ⟨k, a, b, lo, hi, gr, s⟩ := n
    simp only at h3 ha hbb ⊢
    subst h3
    obtain ⟨x, rfl⟩ := Int.eq_ofNat_of_zero_le ha.1
    obtain ⟨y, rfl⟩ := Int.eq_ofNat_of_zero_le hbb.1
    rw [Int.toNat_natCast, Int.toNat_natCast]
    have cx := hR.at_ (rowC_get m f x (by omega))
    have cy := hR.at_ (rowC_get m f y (by omega))
    have gx := hf x
    have gy := hf y
    rw [show nodC ⟨3, (x : Int), (y : Int), lo, hi, gr, s⟩ = #[.int .i64 3, .int .i64 (x : Int), .int .i64 (y : Int), .int .i64 lo, .int .i64 hi, .int .i64 gr, .int .u64 (wd s 0 : Nat), .int .u64 (wd s 1 : Nat), .int .u64 (wd s 2 : Nat), .int .u64 (wd s 3 : Nat)] from rfl] at cx cy hb
    rw [nodV_lit]
    have hx1 := ha.2
    have hy1 := hbb.2
    have hx0 := ha.1
    have hy0 := hbb.1
    obtain ⟨gx0, gx1⟩ := gx
    obtain ⟨gy0, gy1⟩ := gy
    clear hR hr hf hL h1 h2 ha hbb
    generalize f x = fx at *
    generalize f y = fy at *
    have hs : min fx fy = min fx fy := rfl
    generalize hmn : min fx fy = mn at *
    clear hs
    go_enter Try.func22, Try.ntmps22
    go_wp2
    go_quiet (fail)
    go_wp2
    go_ret
    exact ⟨rfl, below_drewN hb.out _⟩
  by_cases h4 : n.kind = 4
  · have ha := hL.pa n.a (by rw [partsN_4 h4]; simp)
    have hlo := hL.lo h4
    rw [show leastI n f = n.lo * f n.a.toNat by simp [leastI, h4]]
    obtain ⟨k, a, b, lo, hi, gr, s⟩ := n
    simp only at h4 ha hlo ⊢
    subst h4
    obtain ⟨x, rfl⟩ := Int.eq_ofNat_of_zero_le ha.1
    rw [Int.toNat_natCast]
    have cx := hR.at_ (rowC_get m f x (by omega))
    have gx := hf x
    rw [show nodC ⟨4, (x : Int), b, lo, hi, gr, s⟩ = #[.int .i64 4, .int .i64 (x : Int), .int .i64 b, .int .i64 lo, .int .i64 hi, .int .i64 gr, .int .u64 (wd s 0 : Nat), .int .u64 (wd s 1 : Nat), .int .u64 (wd s 2 : Nat), .int .u64 (wd s 3 : Nat)] from rfl] at cx hb
    rw [nodV_lit]
    have hx1 := ha.2
    have hx0 := ha.1
    obtain ⟨gx0, gx1⟩ := gx
    clear hR hr hf hL h1 h2 h3 ha
    generalize f x = fx at *
    have hmul := mul_low hlo.1 hlo.2 gx0 gx1
    have hs : IntKind.i64.wrap (lo * fx) = lo * fx := IntWalk.i64_in _ (by omega)
    clear hmul hlo
    go_enter Try.func22, Try.ntmps22
    go_wp2
    go_quiet (fail)
    go_wp2
    go_ret
    exact ⟨rfl, below_drewN hb.out _⟩
  by_cases h5 : n.kind = 5
  · have ha := hL.pa n.a (by rw [partsN_5 h5]; simp)
    rw [show leastI n f = f n.a.toNat by simp [leastI, h5]]
    obtain ⟨k, a, b, lo, hi, gr, s⟩ := n
    simp only at h5 ha ⊢
    subst h5
    obtain ⟨x, rfl⟩ := Int.eq_ofNat_of_zero_le ha.1
    rw [Int.toNat_natCast]
    have cx := hR.at_ (rowC_get m f x (by omega))
    have gx := hf x
    rw [show nodC ⟨5, (x : Int), b, lo, hi, gr, s⟩ = #[.int .i64 5, .int .i64 (x : Int), .int .i64 b, .int .i64 lo, .int .i64 hi, .int .i64 gr, .int .u64 (wd s 0 : Nat), .int .u64 (wd s 1 : Nat), .int .u64 (wd s 2 : Nat), .int .u64 (wd s 3 : Nat)] from rfl] at cx hb
    rw [nodV_lit]
    have hx1 := ha.2
    have hx0 := ha.1
    obtain ⟨gx0, gx1⟩ := gx
    clear hR hr hf hL h1 h2 h3 h4 ha
    generalize f x = fx at *
    go_enter Try.func22, Try.ntmps22
    go_wp2
    go_ret
    exact ⟨rfl, hb.out⟩
  · rw [show leastI n f = 0 by simp [leastI, h1, h2, h3, h4, h5]]
    obtain ⟨k, a, b, lo, hi, gr, s⟩ := n
    replace h1 := beq_no h1
    replace h2 := beq_no h2
    replace h3 := beq_no h3
    replace h4 := beq_no h4
    replace h5 := beq_no h5
    simp only at h1 h2 h3 h4 h5
    rw [nodV_lit]
    clear hR hr hf hL
    go_enter Try.func22, Try.ntmps22
    go_wp2
    go_ret
    exact ⟨rfl, hb.out⟩
end Go.Proofs.Ytmcfbocdkhimmaa
