/- The contract of the law's awake. -/
import Derived.Test.YtdmbjhgfiofbhaaLinF
import Derived.Lib.SlBytesConst
namespace Go.Proofs.Ytdmbjhgfiofbhaa
open Go.RowKit

theorem two_lins {w : World} {lo hi : Nat} {v : Value} {x y : Lin} (h : OwnLins w lo hi v [x, y]) :
    ∃ g cap A1 c1 A2 c2, v = .slice (some ⟨g, 0, none⟩) 2 cap ∧ 2 ≤ cap ∧ cap ≤ maxLen ∧ g < w.heap.size ∧ w.cell? ⟨g, 0, none⟩ = some (.slice A1 x.1.length c1) ∧ w.cell? ⟨g, 1, none⟩ = some (.bool x.2) ∧
      w.cell? ⟨g, 2, none⟩ = some (.slice A2 y.1.length c2) ∧ w.cell? ⟨g, 3, none⟩ = some (.bool y.2) ∧ y.1.length ≤ c2 ∧ c2 ≤ maxLen ∧ Byt w w.heap.size A2 y.1 := by
  obtain ⟨vs, hl, hown, hB⟩ := h
  obtain ⟨_, ⟨rfl, h0⟩ | ⟨g, cap, cur, rfl, _, hh, hnc, hcm, hsz, htake⟩⟩ := id hown
  · simp at h0
  · match vs, hl with
    | [u1, u2], _ =>
      obtain ⟨A1, c1, rfl, -, -, -, -⟩ := own_byt (hB 0 u1 x rfl rfl).1
      obtain ⟨A2, c2, rfl, -, e2, e3, e4⟩ := own_byt (hB 1 u2 y rfl rfl).1
      refine ⟨g, cap, A1, c1, A2, c2, rfl, hnc, hcm, (hown.lt g rfl).2, ?_, ?_, ?_, ?_, e2, e3, e4⟩
      · exact hown.cellAt 0 (by simp)
      · exact hown.cellAt 1 (by simp)
      · exact hown.cellAt 2 (by simp)
      · exact hown.cellAt 3 (by simp)

theorem add_nil (a : Addr) : a.add 0 = a := by unfold Addr.add; simp
theorem awake_split : splitS [97, 10, 98] = [([97], true), ([98], false)] := by decide
theorem awake_cut : lnOf [97, 10, 98] = [97] ∧ hasNL [97, 10, 98] = true ∧ adv [97, 10, 98] = 2 := by decide

set_option maxHeartbeats 2000000 in
theorem awake_any (w : World) : Calls Try.prog 7 #[] w fun e w' => e = .returned (.bool true) ∧ Below w.heap.size w w' := by
  have hszA : ∀ (w : World) (o : Obj), (w.alloc o).heap.size = w.heap.size + 1 := fun w o => by simp
  have hbt : ∀ w : World, Byt (w.alloc (.cells #[.int .u8 97, .int .u8 10, .int .u8 98] 5 (3, 4))) (w.heap.size + 1) (some ⟨w.heap.size, 0, none⟩) [97, 10, 98] := fun w => byt_new w [97, 10, 98] 5 (3, 4)
  have hS := Lib.hid (fun (w : World) => split_any (some ⟨w.heap.size, 0, none⟩) 3 3 [97, 10, 98] (w.alloc (.cells #[.int .u8 97, .int .u8 10, .int .u8 98] 5 (3, 4))) rfl (Nat.le_refl _) (by simp [maxLen]) (by omega) ((hbt w).more (by rw [hszA]; omega)))
  have hC := Lib.hid (fun (w : World) => cut_yes (some ⟨w.heap.size, 0, none⟩) 3 3 0 [97, 10, 98] (w.alloc (.cells #[.int .u8 97, .int .u8 10, .int .u8 98] 5 (3, 4))) rfl (Nat.le_refl _) (by simp [maxLen]) (by omega) ((hbt w).more (by rw [hszA]; omega)) (by omega))
  rw [awake_split] at hS
  rw [List.drop_zero, awake_cut.1, awake_cut.2.1, awake_cut.2.2] at hC
  clear hbt
  have kc := fun (w : World) (C : Array Value) (n c : Nat) => Lib.run_convert_bytes_const (P := Try.prog) w 22 5 C n c Try.underlying22 Try.underlying5
  go_enter Try.func7, Try.ntmps7
  go_wp2_with (first
    | (go_at_call 11; refine (hS.out _).mono ?_; rintro e w1 ⟨v, rfl, hO, hb1⟩
       obtain ⟨g, cap, A1, c1, A2, c2, rfl, hc, hcm, hg, k0, k1, k2, k3, hc2, hm2, hB2⟩ := two_lins hO
       obtain ⟨ad, rfl, hbk, hd⟩ := hB2.at_ (k := 0) (by simp))
    | (go_at_call 15; refine (hC.out _).mono ?_; rintro e w2 ⟨v2, rfl, ho2, hb2⟩
       obtain ⟨A3, c3, rfl, -, -, -, -⟩ := own_byt ho2
       have hbX : Below w1.heap.size w1 w2 := ((Below.refl _ _).alloc (Nat.le_refl _) _).trans (hb2.mono (by rw [hszA]; omega))
       have k0 := (hbX.cell (p := ⟨g, 0, none⟩) hg).trans k0
       have k1 := (hbX.cell (p := ⟨g, 1, none⟩) hg).trans k1
       have k2 := (hbX.cell (p := ⟨g, 2, none⟩) hg).trans k2
       have k3 := (hbX.cell (p := ⟨g, 3, none⟩) hg).trans k3
       have hd := (hbX.cell (p := ad.add 0) (by rw [block_add]; exact hbk)).trans hd
       rw [add_nil] at hd
       have hg2 : g < w2.heap.size := Nat.lt_of_lt_of_le hg hbX.size
       have hbk2 : ad.block < w2.heap.size := Nat.lt_of_lt_of_le hbk hbX.size))
  go_ret
  have hbW : Below w.heap.size w w1 := ((Below.refl _ _).alloc (Nat.le_refl _) _).trans (hb1.mono (by rw [hszA]; omega))
  exact ⟨rfl, (hbW.trans (hbX.mono hbW.size)).alloc (Nat.le_trans hbW.size hbX.size) _⟩
end Go.Proofs.Ytdmbjhgfiofbhaa
