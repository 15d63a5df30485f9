/- Contract of package match's Better. -/
import Derived.Test.YtbgalmnhhjiagaaM29
set_option linter.unusedVariables false
set_option maxRecDepth 100000
namespace Go.Proofs.Ytbgalmnhhjiagaa
open Go.RowKit

theorem betG_at {a b : Spn} : ∀ (m g k : Nat), g ≤ k → k < g + m → (∀ j, g ≤ j → j < k → a j = b j) → a k ≠ b k → betG a b m g = betS (a k) (b k)
  | 0, g, k, h1, h2, _, _ => absurd h2 (by omega)
  | m + 1, g, k, h1, h2, h3, h4 => by
    rw [betG]
    by_cases e : g = k
    · subst e
      rw [if_neg h4]
    · rw [if_pos (h3 g (Nat.le_refl _) (by omega))]
      exact betG_at m (g + 1) k (by omega) (by omega) (fun j j1 j2 => h3 j (by omega) j2) h4
theorem betG_all {a b : Spn} : ∀ (m g : Nat), (∀ j, g ≤ j → j < g + m → a j = b j) → betG a b m g = false
  | 0, g, _ => rfl
  | m + 1, g, h => by
    rw [betG, if_pos (h g (Nat.le_refl _) (by omega))]
    exact betG_all m (g + 1) fun j j1 j2 => h j (by omega) (by omega)
theorem held_from {w : World} {B : Nat} {t : TypeId} {s : Spn} (h : Held w B t (hitC s)) {k : Nat} (hk : k < 10) : w.cell? ⟨B, k * 2, none⟩ = some (.int .i64 (s k).1) ∧ w.cell? ⟨B, k * 2 + 1, none⟩ = some (.int .i64 (s k).2) := by
  refine ⟨h.at_ ?_, h.at_ ?_⟩
  · rw [Nat.mul_comm]; unfold hitC; rw [List.getElem?_toArray]; exact hitL_from s hk
  · rw [Nat.mul_comm]; unfold hitC; rw [List.getElem?_toArray]; exact hitL_to s hk
/-- While spans are compared. -/
def RelBt (a b : Spn) (w : World) (W0 : World) (i : Value) (wr : World) : Prop := ∃ k : Nat, 1 ≤ k ∧ k ≤ 10 ∧ i = .int .i64 (k : Int) ∧ (∀ j, 1 ≤ j → j < k → a j = b j) ∧ Below W0.heap.size W0 wr
set_option maxHeartbeats 8000000 in
theorem mbetter_any (a b : Spn) (w : World) : Calls Try.prog 41 #[hitV a, hitV b] w fun e w' => e = .returned (.bool (bet a b)) ∧ Below w.heap.size w w' := by
  have hA := Lib.hid ((held_new w 31 (hitC a)).alloc (.cells (hitC b) 31))
  have hB := Lib.hid (held_new2 w (.cells (hitC a) 31) 31 (hitC b))
  have hb0 := Lib.hid (((Below.refl w.heap.size w).alloc (Nat.le_refl _) (.cells (hitC a) 31)).alloc (by simp) (.cells (hitC b) 31))
  have hG := Lib.hid (fun w x y => betterGroup_any x y w)
  have hsz : ((w.alloc (.cells (hitC a) 31)).alloc (.cells (hitC b) 31)).heap.size = w.heap.size + 2 := by simp
  have ⟨a00, a01⟩ := held_from hA.out (k := 0) (by decide)
  have ⟨b00, b01⟩ := held_from hB.out (k := 0) (by decide)
  show Calls Try.prog 41 #[.agg (hitC a), .agg (hitC b)] w _
  have hgen := Lib.hid (fun wr (hb : Below (w.heap.size + 2) ((w.alloc (.cells (hitC a) 31)).alloc (.cells (hitC b) 31)) wr) k (hk : k < 10) => And.intro (held_from (hA.out.below hb (by omega)) hk) (held_from (hB.out.below hb (by omega)) hk))
  have hE := span_neq
  have hEG := span_guard
  unfold spnV at hE hEG
  clear hA hB
  generalize hca : hitC a = ca at *
  generalize hcb : hitC b = cb at *
  have hb00 := Lib.hid (Below.refl (w.heap.size + 2) ((w.alloc (.cells ca 31)).alloc (.cells cb 31)))
  by_cases e0 : (a 0).2 = (b 0).2
  · have d0 : ((a 0).2 != (b 0).2) = false := by rw [bne_eq_false_iff_eq]; exact e0
    have hbet : bet a b = betG a b 9 1 := by unfold bet; rw [if_neg (by simpa using e0)]
    rw [hbet]
    replace e0 := Lib.hid e0
    clear hbet
    generalize hr : betG a b 9 1 = r
    replace hr := Lib.hid hr
    go_enter Try.func41, Try.ntmps41
    go_wp2
    generalize ((w.alloc (.cells ca 31)).alloc (.cells cb 31)) = w2 at *
    go_loopw [5] (fun i wr => ∃ k : Nat, 1 ≤ k ∧ k ≤ 10 ∧ i = .int .i64 (k : Int) ∧ Hid (∀ j, 1 ≤ j → j < k → a j = b j) ∧ Hid (Below (w.heap.size + 2) w2 wr)) (fun i _ => 10 - (intOf i).toNat)
    case atStart => exact ⟨1, by decide, by decide, rfl, Lib.hid fun j h1 h2 => absurd h2 (by omega), hb00⟩
    case round =>
      obtain ⟨k, hk1, hk, rfl, hall, hbr⟩ := hrel
      by_cases hlt : k < 10
      · have ⟨⟨p0, p1⟩, q0, q1⟩ := hgen.out wr hbr.out k hlt
        have hEk := fun w => hE w (a k) (b k)
        have hGk := Lib.hid (fun w => hG.out w (a k) (b k))
        have hEGk := fun w op p q => hEG w op p q (a k) (b k)
        unfold spnV at hGk
        have hgen2 := Lib.hid (fun w3 (hb : Below (w.heap.size + 2) w2 w3) => let h := hgen.out w3 hb k hlt; (⟨h.1.1, h.1.2, h.2.1, h.2.2⟩ : w3.cell? ⟨w.heap.size, k * 2, none⟩ = some (.int .i64 (a k).1) ∧ w3.cell? ⟨w.heap.size, k * 2 + 1, none⟩ = some (.int .i64 (a k).2) ∧ w3.cell? ⟨w.heap.size + 1, k * 2, none⟩ = some (.int .i64 (b k).1) ∧ w3.cell? ⟨w.heap.size + 1, k * 2 + 1, none⟩ = some (.int .i64 (b k).2)))
        have hAt := Lib.hid (fun (hne : a k ≠ b k) => betG_at 9 1 k hk1 (by omega) hall.out hne)
        have hNx := Lib.hid (fun (he : a k = b k) j (j1 : 1 ≤ j) (j2 : j < k + 1) => show a j = b j by
          rcases Nat.lt_or_ge j k with h | h
          · exact hall.out j j1 h
          · obtain rfl : j = k := by omega
            exact he)
        have k0 : (0 : Int) ≤ (k : Int) := by omega
        have k10 : (k : Int) < 10 := by omega
        clear hE hEG hG hgen hall a00 a01 b00 b01 d0
        have hbf2 := Lib.hid (fun w3 (hb : Below (w.heap.size + 2) w2 w3) => show Below w.heap.size w w3 from hb0.out.trans (hb.mono (by omega)))
        by_cases he : a k = b k
        · have dk : decide (a k = b k) = true := decide_eq_true he
          rw [dk] at hEk
          have hNx2 := Lib.hid (hNx.out he)
          clear hAt hNx dk
          replace he := Lib.hid he
          go_wp2
          go_quiet (fail)
          go_wp2
          go_roundw
          case rel => exact ⟨k + 1, by omega, by omega, by go_num, hNx2, by first | exact hbr | exact Lib.hid (below_drewN hbr.out _) | exact Lib.hid (hbr.out.drew)⟩
          case measure => simp [intOf]; omega
        · have dk : decide (a k = b k) = false := decide_eq_false he
          rw [dk] at hEk
          have hA2 := Lib.hid (hAt.out he)
          clear hAt hNx dk
          replace he := Lib.hid he
          go_wp2
          go_quiet (fail)
          go_wp2
          go_region_held3 (fun w' => w'.cell? ⟨w.heap.size, k * 2, none⟩ = some (.int .i64 (a k).1) ∧ w'.cell? ⟨w.heap.size, k * 2 + 1, none⟩ = some (.int .i64 (a k).2) ∧ w'.cell? ⟨w.heap.size + 1, k * 2, none⟩ = some (.int .i64 (b k).1) ∧ w'.cell? ⟨w.heap.size + 1, k * 2 + 1, none⟩ = some (.int .i64 (b k).2))
            (first | with_reducible exact hK3.out | go_keep)
            (first
            | (go_at_call 44; refine (hGk.out _).mono ?_; rintro e w3 ⟨rfl, hb3⟩; have hbx := Lib.hid (hbr.out.trans ((below_drewN (Below.refl _ wr) _).trans hb3 |>.mono (Nat.le_trans (show w.heap.size + 2 ≤ w2.heap.size by omega) hbr.out.size))); have hy := hgen2.out w3 hbx.out; have hK3 := Lib.hid hy; have hF3 := Lib.hid (hbf2.out w3 hbx.out); clear hy hb3))
          go_wp2
          go_ret
          exact ⟨ret_bool (hA2.out.symm.trans hr.out), by first | exact hF3.out | exact below_drewN hF3.out _⟩
      · obtain rfl : k = 10 := by omega
        have hz := Lib.hid (betG_all (a := a) (b := b) 9 1 fun j j1 j2 => hall.out j j1 (by omega))
        have hbf := Lib.hid (show Below w.heap.size w wr from hb0.out.trans (hbr.out.mono (by omega)))
        clear hE hEG hG hgen hall a00 a01 b00 b01 d0
        go_wp2
        go_ret
        exact ⟨ret_bool (hz.out.symm.trans hr.out), hbf.out⟩
  · have d0 : ((a 0).2 != (b 0).2) = true := by rw [bne_iff_ne]; exact e0
    have hbet : bet a b = decide ((b 0).2 < (a 0).2) := by unfold bet; rw [if_pos (by simpa using e0)]
    rw [hbet]
    replace e0 := Lib.hid e0
    clear hbet hE hEG hG hgen
    go_enter Try.func41, Try.ntmps41
    go_wp2
    go_ret
    exact ⟨rfl, hb0.out⟩
end Go.Proofs.Ytbgalmnhhjiagaa
