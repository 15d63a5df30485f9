/- Contracts of package files: All, Copy. -/
import Derived.Test.YtkdhfjnfdcopdaaFilK
import Derived.Deep.AppendLies
import Derived.Deep.RegionHeld3
namespace Go.Proofs.Ytkdhfjnfdcopdaa
open Go.RowKit

theorem take_next_f (l : List Fil) (k : Nat) (h : k < l.length) : l.take (k + 1) = l.take k ++ [l[k]'h] := by simp
def RelAll (w : World) (fs : List Fil) (n : Nat) (v i : Value) (wr : World) : Prop :=
  ∃ (k : Nat) (vs : List Value), k ≤ n ∧ i = .int .i64 (k : Nat) ∧ Row wr (fun b => w.heap.size ≤ b) v vs (fs.take k) ∧ Below w.heap.size w wr
theorem RelAll.mk {w : World} {fs : List Fil} {n : Nat} {v i : Value} {wr : World} (h : ∃ (k : Nat) (vs : List Value), k ≤ n ∧ i = .int .i64 (k : Nat) ∧ Row wr (fun b => w.heap.size ≤ b) v vs (fs.take k) ∧ Below w.heap.size w wr) : RelAll w fs n v i wr := h

set_option maxHeartbeats 4000000 in
theorem all_any (F : Nat → Prop) (T : Nat) (fs : List Fil) (w : World) (h : Tab w F T fs) (hok : OkF fs) :
    Calls Try.prog 25 #[.pointer (some ⟨T, 0, none⟩)] w fun e w' => ∃ v vs, e = .returned v ∧ Row w' (fun b => w.heap.size ≤ b) v vs fs ∧ Below w.heap.size w w' := by
  have hl := hok.1
  have hokf := Lib.hid hok.2
  obtain ⟨v, vs, h⟩ := h
  have hslot := h.slot
  have hlt := h.lt
  obtain ⟨A, cap, rfl, h1, h2, hF⟩ := h.row.fils
  unfold maxLen at h2
  obtain ⟨i0, hi, hz0, hz1, hz2⟩ := info_parts file_info
  have hI2 := Lib.hid hz2
  replace hF := Lib.hid hF
  clear h hz2 hok
  generalize hN : fs.length = n at *
  replace hN := Lib.hid hN
  go_enter Try.func25, Try.ntmps25
  go_wp2_with (first
    | (at_make; refine wpList_make_own _ rfl _ _ 22 rfl w.heap.size 52 i0 _ 2 Try.underlying22 hi hz0 hz1 _ _ _ n rfl rfl rfl (by rw [hI2.out]; omega) (by unfold maxLen; omega) (Nat.le_refl _) ?_; intro w2 hown2 hg2
       have hb2 : Below w.heap.size w w2 := (Below.refl _ w).grown hg2 (Nat.le_refl _) (by simp)
       have hslot2 := (hb2.cell (p := ⟨T, 0, none⟩) hlt).trans hslot
       have hlt2 := Nat.lt_of_lt_of_le hlt hb2.size
       have hle2 := hb2.size))
  go_loopw [3, 5, 17] (fun v _ i wr => RelAll w fs n v i wr) (fun _ _ i _ => n - (intOf i).toNat)
  case atStart => exact RelAll.mk ⟨0, [], by omega, rfl, ⟨rfl, own_base hown2 (Nat.zero_le _), fun b e => (hown2.lt b e).1, fun k x y hk => by simp at hk, fun i j x y b hk => by simp at hk⟩, hb2⟩
  case round =>
    clear hown2 hg2 hb2 hslot2 hlt2 hle2
    obtain ⟨k, vs2, hk, rfl, hR, hbr⟩ := hrel
    by_cases hlt' : k < n
    · have hlk : k < fs.length := by rw [hN.out]; exact hlt'
      obtain ⟨ad, A1, n1, c1, hA, hbk, hd, he1, hn1, hc1, hm1, hB1⟩ := (hF.out.below hbr).at_ hlk
      subst hA
      have hbig := (hokf.out _ (List.getElem_mem hlk)).2
      have htk := take_next_f fs k hlk
      have hC := fun (w' : World) (hb : Below wr.heap.size wr w') => clone_any A1 n1 c1 (fs[k]'hlk).2 wr.heap.size w' hn1 (by omega) (hB1.byt.below hb)
      replace hC := Lib.hid hC
      replace hn1 := Lib.hid hn1
      replace htk := Lib.hid htk
      replace hB1 := Lib.hid hB1
      unfold maxLen at hm1
      generalize fs[k]'hlk = x at *
      obtain ⟨nm, l⟩ := x
      obtain ⟨A0, c0, rfl, -, -, -⟩ := hR.fils
      have hb1 : ∀ o, Below wr.heap.size wr (wr.alloc o) := fun o => (Below.refl _ wr).alloc (Nat.le_refl _) o
      replace hR := Lib.hid hR
      have hlen : (fs.take k).length = k := by rw [List.length_take]; have := hN.out; omega
      rw [hlen] at hR ⊢
      have hwa : ∀ o, Below wr.heap.size wr (wr.alloc o).drew := fun o => (hb1 o).drew
      have hwz : wr.heap.size ≠ ad.block := by omega
      have kA : ((wr.alloc (.cells #[.string nm, .slice A1 n1 c1] 52)).drew).cell? ⟨wr.heap.size, 0, none⟩ = some (.string nm) := by
        have := new_cells wr [.string nm, .slice A1 n1 c1] 52 0 _ rfl; rwa [add_zero_off] at this
      have kB : ((wr.alloc (.cells #[.string nm, .slice A1 n1 c1] 52)).drew).cell? ⟨wr.heap.size, 1, none⟩ = some (.slice A1 n1 c1) := by
        have := new_cells wr [.string nm, .slice A1 n1 c1] 52 1 _ rfl; rwa [add_zero_off] at this
      have hne : some wr.heap.size ≠ (Value.slice A0 k c0).ownBlock := fun e => absurd (hR.out.own.lt _ e.symm).2 (Nat.lt_irrefl _)
      replace hne := Lib.hid hne
      go_wp2
      go_region_held3 (fun w' => w'.cell? ⟨wr.heap.size, 0, none⟩ = some (.string nm) ∧ w'.cell? ⟨wr.heap.size, 1, none⟩ = some (.slice A1 n1 c1)) (go_keep) (first
        | (go_at_call 33; refine (hC.out _ (hwa _)).mono ?_; rintro e w3 ⟨v3, rfl, ho3, hb3⟩
           obtain ⟨A3, c3, rfl, -, -, -, -⟩ := own_byt ho3
           have hb3w : Below wr.heap.size wr w3 := (hwa _).trans (hb3.mono (hwa (.cells #[.string nm, .slice A1 n1 c1] 52)).size)
           have hb4w : ∀ o, Below wr.heap.size wr (w3.alloc o) := fun o => hb3w.alloc hb3w.size o
           have hR4 := fun o => hR.out.below (hb4w o)
           have hs3 := hb3.size
           have hs4 : wr.heap.size < w3.heap.size := by simp at hs3; omega
           have k0 := (hb3.cell (p := ⟨wr.heap.size, 0, none⟩) (by simp)).trans kA
           have k1 := (hb3.cell (p := ⟨wr.heap.size, 1, none⟩) (by simp)).trans kB
           replace hR4 := Lib.hid hR4
           have ho4 := fun o => (ho3.alloc o)
           replace ho4 := Lib.hid ho4)
        | ((refine step_append_lies _ (by rfl) _ _ 22 (by rfl) 0 52 i0 _ 2 40 Try.underlying22 hi hz0 hz1 hI2.out rfl (by decide) (.slice A0 k c0) k (filCells vs2 (fs.take k)) (by rfl) (by have := (hR4.out (.cells #[.string nm, .slice A3 n1 c3] 52)).own; rwa [hlen] at this) ⟨w3.heap.size, 0, none⟩ 1 1 [.string nm, .slice A3 n1 c3] (by rfl) rfl (new_cells w3 [.string nm, .slice A3 n1 c3] 52) (by simp [Value.oneCell']) (by omega) (by unfold maxLen; omega) (by omega) (Nat.zero_le _) (w3.heap.size + 1) (by simp) ?_; intro g6 c6 w6 hown6 hg6 hb6 hg6lt
            have k2 := ((hg6.cell_far ⟨wr.heap.size, 0, none⟩ (by rw [sizeA]; exact Nat.lt_succ_of_lt hs4) hne.out).trans (((Below.refl _ w3).alloc (Nat.le_refl _) _).cell (p := ⟨wr.heap.size, 0, none⟩) hs4)).trans k0
            have k3 := ((hg6.cell_far ⟨wr.heap.size, 1, none⟩ (by rw [sizeA]; exact Nat.lt_succ_of_lt hs4) hne.out).trans (((Below.refl _ w3).alloc (Nat.le_refl _) _).cell (p := ⟨wr.heap.size, 1, none⟩) hs4)).trans k1)))
      go_wp2
      go_roundw
      case rel =>
        have hfr : Fr (fun b => w.heap.size ≤ b) wr w6 := (Fr.of_below (hb4w (.cells #[.string nm, .slice A3 n1 c3] 52))).trans (Fr.grown hg6 fun b e => (hR4.out (.cells #[.string nm, .slice A3 n1 c3] 52)).kind b e)
        refine RelAll.mk ⟨k + 1, vs2 ++ [.slice A3 n1 c3], by omega, by go_num, ?_, hbr.trans (hfr.below (fun b _ h => h) hbr.size)⟩
        rw [htk.out]
        refine (hR4.out (.cells #[.string nm, .slice A3 n1 c3] 52)).snoc (z := (nm, l)) (u := .slice A3 n1 c3) ⟨?_, fun b e => ?_⟩ ?_ (by rw [hlen]; exact hown6) hg6 (fun b e => ?_)
        · have := own_base (ho4.out (.cells #[.string nm, .slice A3 n1 c3] 52)) (Nat.zero_le _)
          rw [← hn1.out]; exact this
        · have := (ho3.lt b e).1; have := hbr.size; simp at *; omega
        · intro j y b hy ey eu
          have h5 := (ho3.lt b eu).1
          have hj : j < (fs.take k).length := by have := (List.getElem?_eq_some_iff.1 hy).1; have := hR.out.len; omega
          have h6 := (hR.out.each j y _ hy (List.getElem?_eq_getElem hj)).lt ey
          simp at h5
          omega
        · have := hbr.size
          rcases hb6 with h | h
          · left; rw [h]; exact e
          · right; injection e with e; have e : g6 = b := e; omega
      case measure => simp [intOf]; omega
    · obtain rfl : k = n := by omega
      go_wp2
      go_ret
      refine ⟨_, vs2, rfl, ?_, hbr⟩
      rw [List.take_of_length_le (by rw [hN.out]; omega)] at hR
      exact hR

theorem copy_table (F : Nat → Prop) (T : Nat) (fs : List Fil) (w : World) (h : Tab w F T fs) (hok : OkF fs) :
    Calls Try.prog 18 #[.pointer (some ⟨T, 0, none⟩)] w fun e w' => ∃ T', e = .returned (.pointer (some ⟨T', 0, none⟩)) ∧ Tab w' (fun b => w.heap.size ≤ b) T' fs ∧ Below w.heap.size w w' := by
  have hA := Lib.hid (all_any F T fs w h hok)
  clear h
  go_enter Try.func18, Try.ntmps18
  go_wp2_with (first
    | (go_at_call 25; refine (hA.out).mono ?_; rintro e w1 ⟨v, vs, rfl, hR, hb1⟩; obtain ⟨A1, c1, rfl, -, -, -⟩ := hR.fils; have hR := Lib.hid hR))
  go_ret
  exact ⟨_, rfl, ⟨_, vs, hb1.size, heap_alloc_new w1 _, hR.out.below ((Below.refl _ w1).alloc (Nat.le_refl _) _)⟩, hb1.alloc hb1.size _⟩
end Go.Proofs.Ytkdhfjnfdcopdaa
