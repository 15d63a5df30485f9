/- The contract of the reference's Of: the walk. -/
import Derived.Test.YtiiaheaadbhomaaClsH
import Derived.Test.YtiiaheaadbhomaaClsD
namespace Go.Proofs.Ytiiaheaadbhomaa
open Go.RowKit

set_option maxRecDepth 100000 in
set_option maxHeartbeats 400000 in
theorem refOf_any (f : Nat → Bool) (w : World) :
    Calls Try.prog 20 #[.agg (boolsC f)] w fun e w' => e = .returned (setV f) ∧ Below w.heap.size w w' := by
  go_enter Try.func20, Try.ntmps20
  go_wp2
  go_loopw [4] (RelR w f) (fun i _ => (intOf i + 1).toNat)
  case atStart =>
    exact RelR.mk ⟨256, by omega, rfl, ((bools_new w f).alloc _).alloc _, (set_zero_at _ _ (by simp)).alloc _, (set_zero_at _ _ (by simp)).alike (dn_all f), (((Below.refl _ _).alloc (Nat.le_refl _) _).alloc (by simp) _).alloc (by simp; omega) _⟩
  case round =>
    obtain ⟨k, hk, rfl, hbo, hz, hs, hb⟩ := hrel
    obtain rfl | ⟨m, rfl⟩ : k = 0 ∨ ∃ m, k = m + 1 := by cases k with
      | zero => exact .inl rfl
      | succ m => exact .inr ⟨m, rfl⟩
    · have hz' := Lib.hid hz
      have hb' := Lib.hid hb
      have hs' := Lib.hid (hs.alike (dn_zero f))
      clear hz hb hs hbo
      have e0 : (((0 : Nat) : Int) - 1) = -1 := rfl
      rw [e0]
      clear e0
      go_wp2_with (first
        | (refine wpList_load_row rfl 24 (.tmp 3) rfl (w.heap.size + 2) rfl 24 _ (0, 0) _ hs'.out Try.underlying24 rfl (set_size _) ?_)
        | (refine wpList_store_row rfl 24 (.tmp 2) (.tmp 28) rfl (w.heap.size + 1) (setC f) rfl rfl 24 _ hz'.out (set_size _) (set_hold _ _) (set_cells _) ?_))
      refine bodyPost_ret (v := setV f) (results_cell_row Try.results20 _ _ (w.heap.size + 1) 24 (setC f) (0, 0) _ rfl (hz'.out.put _) Try.underlying24 rfl (set_size _)) rfl ⟨rfl, below_put hb'.out (by omega) _⟩
    · have hi0 : (((m + 1 : Nat) : Int) - 1) = (m : Int) := by omega
      rw [hi0]
      obtain ⟨K, i, he, hi, hK⟩ := byte_parts m (by omega)
      have h0 := tdiv_of he hi
      have h1 := ediv_of he hi
      obtain ⟨hx63, hxd⟩ := dn_half f m K i he hi
      have hoth := fun j (_ : j < 4) hj => dn_other f m j K i he hi hj
      have hcell := hbo.cell (k := m) (by omega)
      have c0 := hs.cell' hK
      have f0 := hs.thawed K
      generalize hX : wd (dn f (m + 1)) K = x at *
      clear hX
      obtain ⟨G, hG, hGk, hGo⟩ := hs.any (x := x * 2) hK (by omega)
      have c1 := hG.cell' hK
      rw [hGk] at c1
      have f1 := hG.thawed K
      have hbo1 := hbo.set_other (a := ⟨w.heap.size + 2, K, none⟩) (v := .int .u64 ((x * 2 : Nat) : Int)) (by show w.heap.size ≠ w.heap.size + 2; omega)
      have hcell1 := hbo1.cell (k := m) (by omega)
      have hz1 := hz.set_other (a := ⟨w.heap.size + 2, K, none⟩) (v := .int .u64 ((x * 2 : Nat) : Int)) (by show w.heap.size + 1 ≠ w.heap.size + 2; omega)
      have hb1 := hb.setCell (p := ⟨w.heap.size + 2, K, none⟩) (by show w.heap.size ≤ w.heap.size + 2; omega) (.int .u64 ((x * 2 : Nat) : Int))
      have hD : (x : Int) * 2 = ((x * 2 : Nat) : Int) := by omega
      have hDl : x * 2 < 18446744073709551615 := by omega
      have k0 : (0 : Int) ≤ (K : Int) := by omega
      have k1 : (K : Int) < 4 := by omega
      have k2 : IntKind.i64.wrap (K : Int) = (K : Int) := IntWalk.i64_in _ (by omega)
      have m0 : (m : Int) < 256 := by omega
      have hm := Lib.hid hk
      generalize x * 2 = D at *
      cases hfk : f m
      · rw [hfk] at hcell hcell1
        have hse := Lib.hid (hs.store (x := D) (f' := dn f m) hK (by rw [hxd, hfk]; rfl) hoth)
        replace hbo1 := Lib.hid hbo1
        replace hz1 := Lib.hid hz1
        replace hb1 := Lib.hid hb1
        clear he hi hi0 hx63 hxd hoth hG hGk hGo hbo hz hs hb hfk hK
        go_wp2
        go_round
        case rel => exact RelR.mk ⟨m, by have := hm.out; omega, by go_num, hbo1.out, hz1.out, hse.out, hb1.out⟩
        case measure => simp [intOf]
      · rw [hfk] at hcell hcell1
        have hse := Lib.hid (hG.store (x := D + 1) (f' := dn f m) hK (by rw [hxd, hfk]; rfl) (fun j hj hne => (hoth j hj hne).trans (hGo j hj hne).symm))
        have hbo2 := Lib.hid (hbo1.set_other (a := ⟨w.heap.size + 2, K, none⟩) (v := .int .u64 ((D + 1 : Nat) : Int)) (by show w.heap.size ≠ w.heap.size + 2; omega))
        have hz2 := Lib.hid (hz1.set_other (a := ⟨w.heap.size + 2, K, none⟩) (v := .int .u64 ((D + 1 : Nat) : Int)) (by show w.heap.size + 1 ≠ w.heap.size + 2; omega))
        have hb2 := Lib.hid (hb1.setCell (p := ⟨w.heap.size + 2, K, none⟩) (by show w.heap.size ≤ w.heap.size + 2; omega) (.int .u64 ((D + 1 : Nat) : Int)))
        clear he hi hi0 hx63 hxd hoth hG hGk hGo hbo hz hs hb hfk hK hbo1 hz1 hb1
        go_wp2
        go_round
        case rel => exact RelR.mk ⟨m, by have := hm.out; omega, by go_num, hbo2.out, hz2.out, hse.out, hb2.out⟩
        case measure => simp [intOf]
end Go.Proofs.Ytiiaheaadbhomaa
