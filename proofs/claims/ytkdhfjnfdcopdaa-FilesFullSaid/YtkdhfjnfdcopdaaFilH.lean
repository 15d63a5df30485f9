/- Contracts of package files that write: open. -/
import Derived.Test.YtkdhfjnfdcopdaaFilE
import Derived.Test.YtkdhfjnfdcopdaaFilG
import Derived.OwnWalk
namespace Go.Proofs.Ytkdhfjnfdcopdaa
open Go.RowKit

theorem file_info : (Try.prog.info? 52).map (fun i => (i.zero, i.size, i.bytes)) = some (some (.agg #[.string ByteArray.empty, .slice none 0 0]), 2, 40) := by kernel_rfl
theorem byte_info3 : (Try.prog.info? 5).map (fun i => (i.zero, i.size, i.bytes)) = some (some (.int .u8 0), 1, 1) := by kernel_rfl
/-- The table with a file of that name in it. -/
def opF (fs : List Fil) (nm : ByteArray) : List Fil := setF fs nm (getF fs nm)
theorem opF_none {fs : List Fil} {nm : ByteArray} (h : posN fs nm = none) : opF fs nm = fs ++ [(nm, [])] := by simp [opF, setF, getF, h]
theorem opF_some {fs : List Fil} {nm : ByteArray} {k : Nat} (h : posN fs nm = some k) : opF fs nm = fs := setF_same h
theorem own_some {w : World} {base : Nat} {e : TypeId} {size n : Nat} {v : Value} {xs : List Value} (h : w.ownsRow base e size v n xs) (hn : 0 < n) : ∃ g c, v = .slice (some ⟨g, 0, none⟩) n c ∧ n ≤ c ∧ c ≤ maxLen ∧ g < w.heap.size := by
  obtain ⟨_, ⟨rfl, h0⟩ | ⟨g, cap, cur, rfl, _, hh, hnc, hcm, _⟩⟩ := h
  · omega
  · exact ⟨g, cap, rfl, hnc, hcm, (Array.getElem?_eq_some_iff.1 hh).1⟩
theorem obj_frozen {w : World} {T : Nat} {cs : Array Value} {t : TypeId} (h : w.heap[T]? = some (.cells cs t (0, 0))) : w.frozen? ⟨T, 0, none⟩ = false := frozen_of_row w T 0 cs t h

set_option maxHeartbeats 2000000 in
theorem open_any (F : Nat → Prop) (T : Nat) (fs : List Fil) (nm : ByteArray) (w : World) (h : Tab w F T fs) (hok : OkF fs) (hop : ∀ k, w.heap.size ≤ k → F k) :
    Calls Try.prog 34 #[.pointer (some ⟨T, 0, none⟩), .string nm] w fun e w' => ∃ g c k vs, e = .returned (.pointer (some ⟨g, k * 2, none⟩)) ∧
      TabAt w' F T (.slice (some ⟨g, 0, none⟩) (opF fs nm).length c) vs (opF fs nm) ∧ posN (opF fs nm) nm = some k ∧ Fr F w w' := by
  have hP := place_any F T fs nm w h
  have hl := hok.1
  obtain ⟨v, vs, h⟩ := h
  have hslot := h.slot
  have hlt := h.lt
  obtain ⟨A, cap, rfl, h1, h2, hF⟩ := h.row.fils
  unfold maxLen at h2
  cases hp : posN fs nm with
  | none =>
    rw [posI_neg hp] at hP
    have hP := Lib.hid hP
    have hO := Lib.hid (opF_none hp)
    have hps := Lib.hid (posN_snoc hp [])
    obtain ⟨i0, hi, hz0, hz1, hz2⟩ := info_parts file_info
    have hI2 := Lib.hid hz2
    have h := Lib.hid h
    clear hF hp hz2 hok
    have hsz : fs.length ≤ 16 := hl
    go_enter Try.func34, Try.ntmps34
    go_wp2_with (first
      | (go_at_call 29; refine (hP.out).mono ?_; rintro e w1 ⟨rfl, hb1⟩
         have hslot1 := (hb1.cell (p := ⟨T, 0, none⟩) hlt).trans hslot
         have hlt1 : T < w1.heap.size := Nat.lt_of_lt_of_le hlt hb1.size
         have hTab := h.out.below hb1
         have hal : ∀ o, Below w1.heap.size w1 (w1.alloc o) := fun o => (Below.refl _ w1).alloc (Nat.le_refl _) o)
      | (at_builtin; refine wpList_append_at rfl _ _ 22 rfl 0 52 i0 _ 2 40 Try.underlying22 hi hz0 hz1 hI2.out rfl (by decide) (.slice A fs.length cap) fs.length (filCells vs fs) rfl (hTab.row.below (hal _)).own (some ⟨w1.heap.size, 0, none⟩) 1 1 [.string nm, .slice none 0 0] rfl rfl (src_new w1 [.string nm, .slice none 0 0] 52) (by simp [Value.oneCell']) (by unfold maxLen; omega) (by omega) (Nat.zero_le _) ?_; intro v2 w2 hown2 hg2 hb2
         have hX := hTab.below (hal (.cells #[.string nm, .slice none 0 0] 52))
         have hR2 := hX.row.snoc (z := (nm, [])) (u := .slice none 0 0) ⟨World.ownsRow_nil _ _ _ _, fun _ e => by cases e⟩ (fun _ _ _ _ _ e => by cases e) hown2 hg2 (fun b e => (hb2 b e).imp id fun hle => hop b (by rw [sizeA] at hle; have := hb1.size; omega))
         have hT2 : w2.heap[T]? = some (.cells #[.slice A fs.length cap] 60 (0, 0)) := (hg2.block T hX.lt (fun e => hX.row.ne_obj hX.cell e.symm)).trans hX.cell
         have hS2 := TabAt.store hT2 hX.kind hR2
         have hfr2 := obj_frozen hT2
         have hc2 : w2.cell? ⟨T, 0, none⟩ = some (.slice A fs.length cap) := by rw [cell_of_row w2 T 0 _ _ _ hT2]; rfl
         have hFr : Fr F w (w2.setCell ⟨T, 0, none⟩ v2) := (((Fr.of_below hb1).trans (Fr.of_below (hal _))).trans (Fr.grown hg2 fun b e => hX.row.kind b e)).trans (Fr.setCell _ _ hX.kind)
         obtain ⟨g2, c2, rfl, hc2a, hc2b, hg2lt⟩ := own_some hown2 (by omega)
         unfold maxLen at hc2b
         have hnc2 := Lib.hid (hS2.slot)
         have hS2 := Lib.hid hS2
         clear hown2 hg2 hb2 hR2 hT2 hX hTab))
    go_ret
    refine ⟨g2, c2, fs.length, vs ++ [.slice none 0 0], rfl, ?_, by rw [hO.out]; exact hps.out, hFr⟩
    rw [hO.out, List.length_append]
    exact hS2.out
  | some k =>
    obtain ⟨hk, -⟩ := posN_lt hp
    rw [posI_some hp] at hP
    rw [opF_some hp]
    have hP := Lib.hid hP
    have hp := Lib.hid hp
    obtain ⟨g, c, e, -, -, -⟩ := own_some h.row.own (by omega)
    injection e with e1 e2 e3
    subst e1
    subst e3
    have h := Lib.hid h
    clear hF e2
    have hk1 := Lib.hid hk
    generalize hL : fs.length = n at *
    go_enter Try.func34, Try.ntmps34
    go_wp2_with (first
      | (go_at_call 29; refine (hP.out).mono ?_; rintro e w1 ⟨rfl, hb1⟩
         have hslot1 := (hb1.cell (p := ⟨T, 0, none⟩) hlt).trans hslot
         have hlt1 : T < w1.heap.size := Nat.lt_of_lt_of_le hlt hb1.size))
    go_ret
    exact ⟨g, cap, k, _, rfl, h.out.below hb1, hp.out, Fr.of_below hb1⟩
end Go.Proofs.Ytkdhfjnfdcopdaa
