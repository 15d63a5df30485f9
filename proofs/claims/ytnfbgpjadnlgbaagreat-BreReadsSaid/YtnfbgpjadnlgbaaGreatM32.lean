/- The contract of the reference's Of: an array of 256 bools. The contract of the reference's Of: the walk. Arrays of 256 bools: made, written, read whole. -/
import Derived.Test.YtnfbgpjadnlgbaaGreatM15
import Derived.Test.YtnfbgpjadnlgbaaGreatM11
import Derived.Deep.MidRow
import Derived.Deep.WholeRow
set_option maxRecDepth 100000
namespace Go.Proofs.YtnfbgpjadnlgbaaGreat
open Go.RowKit

def boolsC (f : Nat → Bool) : Array Value := ((List.range 256).map fun c => Value.bool (f c)).toArray
theorem bools_get (f : Nat → Bool) (c : Nat) (hc : c < 256) : (boolsC f)[c]? = some (.bool (f c)) := by
  unfold boolsC
  rw [List.getElem?_toArray, List.getElem?_map, List.getElem?_range hc]; rfl
theorem bools_size (f : Nat → Bool) : (boolsC f).size = 256 := by simp [boolsC]
/-- A block that holds 256 bools. -/
def BoolsAt (w : World) (g : Nat) (f : Nat → Bool) : Prop := w.heap[g]? = some (.cells (boolsC f) 107 (0, 0))
section
variable {w w' : World} {g : Nat} {f : Nat → Bool}
theorem BoolsAt.lt (h : BoolsAt w g f) : g < w.heap.size := by
  unfold BoolsAt at h
  exact (Array.getElem?_eq_some_iff.1 h).1
theorem BoolsAt.cell (h : BoolsAt w g f) {k : Nat} (hk : k < 256) : w.cell? ⟨g, k, none⟩ = some (.bool (f k)) := by
  rw [cell_of_row w g k _ _ _ h, bools_get f k hk]
theorem BoolsAt.thawed (h : BoolsAt w g f) (k : Nat) : w.frozen? ⟨g, k, none⟩ = false := frozen_of_row w g k _ _ h
theorem BoolsAt.below {B : Nat} (h : BoolsAt w g f) (hb : Below B w w') (hg : g < B) : BoolsAt w' g f := by
  unfold BoolsAt at h ⊢; rw [hb.block g hg]; exact h
theorem BoolsAt.set_other {a : Addr} {v : Value} (h : BoolsAt w g f) (hne : g ≠ a.block) : BoolsAt (w.setCell a v) g f := by
  unfold BoolsAt at h ⊢; rw [heap_setCell_other w a g v hne]; exact h
theorem BoolsAt.alloc (h : BoolsAt w g f) (o : Obj) : BoolsAt (w.alloc o) g f := by
  have hl := h.lt
  unfold BoolsAt at h ⊢; rw [Below.heap_alloc w o g hl]; exact h
theorem bools_new (w : World) (f : Nat → Bool) : BoolsAt (w.alloc (.cells (boolsC f) 107)) w.heap.size f := heap_alloc_new _ _
theorem SetAt.store {f' : Nat → Bool} {k x : Nat} (h : SetAt w g f) (hk : k = 0 ∨ k = 1 ∨ k = 2 ∨ k = 3) (hx : wd f' k = x) (ho : ∀ j, j < 4 → j ≠ k → wd f' j = wd f j) :
    SetAt (w.setCell ⟨g, k, none⟩ (.int .u64 (x : Int))) g f' := by
  subst hx
  unfold SetAt at h ⊢
  rw [heap_setCell_same w g k _ _ _ h]
  unfold setC
  rcases hk with rfl | rfl | rfl | rfl
  · rw [ho 1 (by decide) (by decide), ho 2 (by decide) (by decide), ho 3 (by decide) (by decide)]; rfl
  · rw [ho 0 (by decide) (by decide), ho 2 (by decide) (by decide), ho 3 (by decide) (by decide)]; rfl
  · rw [ho 0 (by decide) (by decide), ho 1 (by decide) (by decide), ho 3 (by decide) (by decide)]; rfl
  · rw [ho 0 (by decide) (by decide), ho 1 (by decide) (by decide), ho 2 (by decide) (by decide)]; rfl
theorem SetAt.any {k x : Nat} (h : SetAt w g f) (hk : k = 0 ∨ k = 1 ∨ k = 2 ∨ k = 3) (hx : x < 18446744073709551616) :
    ∃ G, SetAt (w.setCell ⟨g, k, none⟩ (.int .u64 (x : Int))) g G ∧ wd G k = x ∧ ∀ j, j < 4 → j ≠ k → wd G j = wd f j := by
  have hw := fun j => wd_lt f j
  have hy : ∀ j, (if j = k then x else wd f j) < 18446744073709551616 := fun j => by split <;> simp [hx, hw]
  obtain ⟨G, g0, g1, g2, g3⟩ := set_of _ _ _ _ (hy 0) (hy 1) (hy 2) (hy 3)
  have hG : ∀ j, j < 4 → wd G j = if j = k then x else wd f j := by
    intro j hj
    have : j = 0 ∨ j = 1 ∨ j = 2 ∨ j = 3 := by omega
    rcases this with rfl | rfl | rfl | rfl
    · exact g0
    · exact g1
    · exact g2
    · exact g3
  have e1 : wd G k = x := by rw [hG k (by omega), if_pos rfl]
  have e2 : ∀ j, j < 4 → j ≠ k → wd G j = wd f j := fun j hj hne => by rw [hG j hj, if_neg hne]
  exact ⟨G, h.store hk e1 e2, e1, e2⟩
end

/-- What lies in the four numbers once the bytes from k on are read: each number's bits moved down to its first that is read. -/
def dn (f : Nat → Bool) (k : Nat) : Nat → Bool := fun c => decide (max k (64 * (c / 64)) + c % 64 < 64 * (c / 64 + 1)) && f (max k (64 * (c / 64)) + c % 64)
theorem dn_all (f : Nat → Bool) : alike (fun _ => false) (dn f 256) := fun c hc => by
  have : ¬ max 256 (64 * (c / 64)) + c % 64 < 64 * (c / 64 + 1) := by omega
  simp [dn, this]
theorem dn_zero (f : Nat → Bool) : alike (dn f 0) f := fun c _ => by
  have h1 : max 0 (64 * (c / 64)) + c % 64 = c := by omega
  have h2 : c < 64 * (c / 64 + 1) := by omega
  simp only [dn, h1, h2, decide_true, Bool.true_and]
theorem dn_wd (f : Nat → Bool) (k j i : Nat) (hi : i < 64) : dn f k (64 * j + i) = (decide (max k (64 * j) + i < 64 * (j + 1)) && f (max k (64 * j) + i)) := by
  have h1 : (64 * j + i) / 64 = j := by omega
  have h2 : (64 * j + i) % 64 = i := by omega
  simp only [dn, h1, h2]
theorem dn_other (f : Nat → Bool) (k j K i : Nat) (he : k = 64 * K + i) (hi : i < 64) (hj : j ≠ K) : wd (dn f k) j = wd (dn f (k + 1)) j := wd_congr fun x hx => by
  rw [dn_wd f k j x hx, dn_wd f (k + 1) j x hx]
  by_cases h : K < j
  · have h1 : max k (64 * j) = 64 * j := by omega
    have h2 : max (k + 1) (64 * j) = 64 * j := by omega
    rw [h1, h2]
  · have h1 : ¬ max k (64 * j) + x < 64 * (j + 1) := by omega
    have h2 : ¬ max (k + 1) (64 * j) + x < 64 * (j + 1) := by omega
    simp [h1, h2]
theorem dn_half (f : Nat → Bool) (k K i : Nat) (he : k = 64 * K + i) (hi : i < 64) :
    wd (dn f (k + 1)) K < 9223372036854775808 ∧ wd (dn f k) K = wd (dn f (k + 1)) K * 2 + (if f k then 1 else 0) := by
  have e1 : wd (dn f (k + 1)) K = num (fun x => dn f (k + 1) (64 * K + x)) 63 := by
    unfold wd
    show num _ 63 + (if dn f (k + 1) (64 * K + 63) = true then 2 ^ 63 else 0) = _
    have : dn f (k + 1) (64 * K + 63) = false := by
      rw [dn_wd f (k + 1) K 63 (by decide)]
      have : ¬ max (k + 1) (64 * K) + 63 < 64 * (K + 1) := by omega
      simp [this]
    rw [this]; simp
  have e2 : wd (dn f k) K = 2 * num (fun x => dn f k (64 * K + (x + 1))) 63 + (if dn f k (64 * K + 0) then 1 else 0) := num_cons _ 63
  have e3 : num (fun x => dn f k (64 * K + (x + 1))) 63 = num (fun x => dn f (k + 1) (64 * K + x)) 63 := num_congr fun x hx => by
    rw [dn_wd f k K (x + 1) (by omega), dn_wd f (k + 1) K x (by omega)]
    have h1 : max k (64 * K) + (x + 1) = k + 1 + x := by omega
    have h2 : max (k + 1) (64 * K) + x = k + 1 + x := by omega
    rw [h1, h2]
  have e4 : dn f k (64 * K + 0) = f k := by
    rw [dn_wd f k K 0 (by decide)]
    have h1 : max k (64 * K) + 0 = k := by omega
    have h2 : k < 64 * (K + 1) := by omega
    rw [h1]; simp [h2]
  rw [e2, e3, e4, ← e1]
  have hl := num_lt (fun x => dn f (k + 1) (64 * K + x)) 63
  rw [← e1] at hl
  exact ⟨hl, by omega⟩

def RelR (w : World) (f : Nat → Bool) (i : Value) (wr : World) : Prop :=
  ∃ k : Nat, k ≤ 256 ∧ i = .int .i64 ((k : Int) - 1) ∧ BoolsAt wr w.heap.size f ∧ SetAt wr (w.heap.size + 1) (fun _ => false) ∧ SetAt wr (w.heap.size + 2) (dn f k) ∧ Below w.heap.size w wr
theorem RelR.mk {w : World} {f : Nat → Bool} {i : Value} {wr : World} (h : ∃ k : Nat, k ≤ 256 ∧ i = .int .i64 ((k : Int) - 1) ∧ BoolsAt wr w.heap.size f ∧ SetAt wr (w.heap.size + 1) (fun _ => false) ∧ SetAt wr (w.heap.size + 2) (dn f k) ∧ Below w.heap.size w wr) : RelR w f i wr := h

end Go.Proofs.YtnfbgpjadnlgbaaGreat

set_option maxRecDepth 100000
namespace Go.Proofs.YtnfbgpjadnlgbaaGreat
open Go.RowKit

set_option maxRecDepth 100000 in
set_option maxHeartbeats 400000 in
theorem refOf_any (f : Nat → Bool) (w : World) :
    Calls Tryz.prog 90 #[.agg (boolsC f)] w fun e w' => e = .returned (setV f) ∧ Below w.heap.size w w' := by
  go_enter Tryz.func90, Tryz.ntmps90
  go_wp2
  go_loopw [4] (RelR w f) (fun i _ => (intOf i + 1).toNat)
  case atStart =>
    exact RelR.mk ⟨256, by omega, rfl, ((bools_new w f).alloc _).alloc _, (set_zero_at _ _ (by simp)).alloc _, (set_zero_at _ _ (by simp)).alike (dn_all f), (((Below.refl _ _).alloc (Nat.le_refl _) _).alloc (by simp) _).alloc (by simp; omega) _⟩
  case round =>
    obtain ⟨k, hk, rfl, hbo, hz, hs, hb⟩ := hrel
    obtain rfl | ⟨m, rfl⟩ : k = 0 ∨ ∃ m, k = m + 1 := by cases k with
      | zero => exact .inl rfl
      | succ m => exact .inr ⟨m, rfl⟩
    · have hz' := Lib.hid hz
      have hb' := Lib.hid hb
      have hs' := Lib.hid (hs.alike (dn_zero f))
      clear hz hb hs hbo
      have e0 : (((0 : Nat) : Int) - 1) = -1 := rfl
      rw [e0]
      clear e0
      go_wp2_with (first
        | (refine wpList_load_row rfl 37 (.tmp 3) rfl (w.heap.size + 2) rfl 37 _ (0, 0) _ hs'.out Tryz.underlying37 rfl (set_size _) ?_)
        | (refine wpList_store_row rfl 37 (.tmp 2) (.tmp 28) rfl (w.heap.size + 1) (setC f) rfl rfl 37 _ hz'.out (set_size _) (set_hold _ _) (set_cells _) ?_))
      refine bodyPost_ret (v := setV f) (results_cell_row Tryz.results90 _ _ (w.heap.size + 1) 37 (setC f) (0, 0) _ rfl (hz'.out.put _) Tryz.underlying37 rfl (set_size _)) rfl ⟨rfl, below_put hb'.out (by omega) _⟩
    · have hi0 : (((m + 1 : Nat) : Int) - 1) = (m : Int) := by omega
      rw [hi0]
      obtain ⟨K, i, he, hi, hK⟩ := byte_parts m (by omega)
      have h0 := tdiv_of he hi
      have h1 := ediv_of he hi
      obtain ⟨hx63, hxd⟩ := dn_half f m K i he hi
      have hoth := fun j (_ : j < 4) hj => dn_other f m j K i he hi hj
      have hcell := hbo.cell (k := m) (by omega)
      have c0 := hs.cell' hK
      have f0 := hs.thawed K
      generalize hX : wd (dn f (m + 1)) K = x at *
      clear hX
      obtain ⟨G, hG, hGk, hGo⟩ := hs.any (x := x * 2) hK (by omega)
      have c1 := hG.cell' hK
      rw [hGk] at c1
      have f1 := hG.thawed K
      have hbo1 := hbo.set_other (a := ⟨w.heap.size + 2, K, none⟩) (v := .int .u64 ((x * 2 : Nat) : Int)) (by show w.heap.size ≠ w.heap.size + 2; omega)
      have hcell1 := hbo1.cell (k := m) (by omega)
      have hz1 := hz.set_other (a := ⟨w.heap.size + 2, K, none⟩) (v := .int .u64 ((x * 2 : Nat) : Int)) (by show w.heap.size + 1 ≠ w.heap.size + 2; omega)
      have hb1 := hb.setCell (p := ⟨w.heap.size + 2, K, none⟩) (by show w.heap.size ≤ w.heap.size + 2; omega) (.int .u64 ((x * 2 : Nat) : Int))
      have hD : (x : Int) * 2 = ((x * 2 : Nat) : Int) := by omega
      have hDl : x * 2 < 18446744073709551615 := by omega
      have k0 : (0 : Int) ≤ (K : Int) := by omega
      have k1 : (K : Int) < 4 := by omega
      have k2 : IntKind.i64.wrap (K : Int) = (K : Int) := IntWalk.i64_in _ (by omega)
      have m0 : (m : Int) < 256 := by omega
      have hm := Lib.hid hk
      generalize x * 2 = D at *
      cases hfk : f m
      · rw [hfk] at hcell hcell1
        have hse := Lib.hid (hs.store (x := D) (f' := dn f m) hK (by rw [hxd, hfk]; rfl) hoth)
        replace hbo1 := Lib.hid hbo1
        replace hz1 := Lib.hid hz1
        replace hb1 := Lib.hid hb1
        clear he hi hi0 hx63 hxd hoth hG hGk hGo hbo hz hs hb hfk hK
        go_wp2
        go_round
        case rel => exact RelR.mk ⟨m, by have := hm.out; omega, by go_num, hbo1.out, hz1.out, hse.out, hb1.out⟩
        case measure => simp [intOf]
      · rw [hfk] at hcell hcell1
        have hse := Lib.hid (hG.store (x := D + 1) (f' := dn f m) hK (by rw [hxd, hfk]; rfl) (fun j hj hne => (hoth j hj hne).trans (hGo j hj hne).symm))
        have hbo2 := Lib.hid (hbo1.set_other (a := ⟨w.heap.size + 2, K, none⟩) (v := .int .u64 ((D + 1 : Nat) : Int)) (by show w.heap.size ≠ w.heap.size + 2; omega))
        have hz2 := Lib.hid (hz1.set_other (a := ⟨w.heap.size + 2, K, none⟩) (v := .int .u64 ((D + 1 : Nat) : Int)) (by show w.heap.size + 1 ≠ w.heap.size + 2; omega))
        have hb2 := Lib.hid (hb1.setCell (p := ⟨w.heap.size + 2, K, none⟩) (by show w.heap.size ≤ w.heap.size + 2; omega) (.int .u64 ((D + 1 : Nat) : Int)))
        clear he hi hi0 hx63 hxd hoth hG hGk hGo hbo hz hs hb hfk hK hbo1 hz1 hb1
        go_wp2
        go_round
        case rel => exact RelR.mk ⟨m, by have := hm.out; omega, by go_num, hbo2.out, hz2.out, hse.out, hb2.out⟩
        case measure => simp [intOf]
end Go.Proofs.YtnfbgpjadnlgbaaGreat

set_option maxRecDepth 100000
namespace Go.Proofs.YtnfbgpjadnlgbaaGreat
open Go.RowKit

def boolsL (f : Nat → Bool) : List Value := (List.range 256).map fun c => Value.bool (f c)
theorem boolsL_C (f : Nat → Bool) : (boolsL f).toArray = boolsC f := rfl
theorem boolsL_len (f : Nat → Bool) : (boolsL f).length = 256 := by simp [boolsL]
theorem bools_one (f : Nat → Bool) : ∀ v ∈ boolsL f, v.oneCell' = true := by
  intro v hv
  obtain ⟨c, _, rfl⟩ := List.mem_map.1 hv
  rfl
theorem size_bools : (Tryz.prog.info? 107).map (·.size) = some 256 := by kernel_rfl
theorem bools_info (f : Nat → Bool) : (Tryz.prog.info? 107).map (·.size) = some (boolsL f).length := by rw [boolsL_len]; exact size_bools
theorem zero_bools' : (Tryz.prog.info? 107).map (fun i => (i.zero, i.size)) = some (some (.agg (boolsC fun _ => false)), 256) := by kernel_rfl
theorem zero_bools (w : World) : (zeroValue 107).run Tryz.prog w = .ok (.agg (boolsC fun _ => false)) w := (zero_of_info zero_bools').1 w

theorem BoolsAt.range {w : World} {g : Nat} {f : Nat → Bool} (h : BoolsAt w g f) : w.rangeAt g 0 (boolsL f) := by
  intro j v hj
  rw [Nat.zero_add, cell_of_row w g j _ _ _ h, ← boolsL_C, List.getElem?_toArray]; exact hj
theorem SetAt.range {w : World} {g : Nat} {f : Nat → Bool} (h : SetAt w g f) : w.rangeAt g 0 (setC f).toList := by
  intro j v hj
  rw [Nat.zero_add, cell_of_row w g j _ _ _ h]; simpa using hj
/-- f, turned at x. -/
def putB (f : Nat → Bool) (x : Nat) (b : Bool) : Nat → Bool := fun c => if c = x then b else f c
theorem BoolsAt.store {w : World} {g : Nat} {f : Nat → Bool} (h : BoolsAt w g f) {x : Nat} (hx : x < 256) (b : Bool) : BoolsAt (w.setCell ⟨g, x, none⟩ (.bool b)) g (putB f x b) := by
  unfold BoolsAt at h ⊢
  rw [heap_setCell_same w g x _ _ _ h]
  congr 2
  apply Array.ext_getElem?
  intro i
  rw [Array.getElem?_setIfInBounds]
  by_cases hi : x = i
  · subst hi
    rw [if_pos rfl, if_pos (by rw [bools_size]; exact hx), bools_get _ _ hx]
    simp [putB]
  · rw [if_neg hi]
    by_cases hl : i < 256
    · rw [bools_get _ _ hl, bools_get _ _ hl]
      have : ¬ i = x := fun e => hi e.symm
      simp [putB, this]
    · rw [Array.getElem?_eq_none (by rw [bools_size]; omega), Array.getElem?_eq_none (by rw [bools_size]; omega)]
theorem BoolsAt.alike {w : World} {g : Nat} {f f' : Nat → Bool} (h : BoolsAt w g f) (ha : Go.Proofs.YtnfbgpjadnlgbaaGreat.alike f f') : BoolsAt w g f' := by
  unfold BoolsAt at h ⊢
  rw [h]
  congr 2
  apply Array.ext_getElem?
  intro i
  by_cases hl : i < 256
  · rw [bools_get _ _ hl, bools_get _ _ hl, ha i hl]
  · rw [Array.getElem?_eq_none (by rw [bools_size]; omega), Array.getElem?_eq_none (by rw [bools_size]; omega)]
theorem bools_zero_at (w : World) (g : Nat) (hg : g = w.heap.size) : BoolsAt (w.alloc (.cells (boolsC fun _ => false) 107)) g (fun _ => false) := hg ▸ bools_new w _
/-- A byte more. -/
theorem putB_of (l : List UInt8) (k : Nat) (h : k < l.length) : putB (ofL (l.take k)) (l[k]'h).toNat true = ofL (l.take (k + 1)) := by
  rw [← ofL_next l k h]
  funext x
  unfold putB
  by_cases hx : x = (l[k]'h).toNat
  · simp [hx]
  · simp [hx]
/-- The next of a row that is told. -/
def upto (F : Nat → Bool) (k : Nat) : Nat → Bool := fun x => decide (x < k) && F x
theorem upto_zero (F : Nat → Bool) : upto F 0 = fun _ => false := by funext x; simp [upto]
theorem upto_end (F : Nat → Bool) : alike (upto F 256) F := fun c hc => by simp [upto, hc]
theorem upto_next (F : Nat → Bool) (k : Nat) : putB (upto F k) k (F k) = upto F (k + 1) := by
  funext x
  unfold putB upto
  by_cases hx : x = k
  · subst hx; simp
  · have : (x < k + 1) = (x < k) := by apply propext; omega
    simp [hx, this]
end Go.Proofs.YtnfbgpjadnlgbaaGreat
