/- Contract: the law's awake. -/
import Derived.Test.YtlbfdnejigojhaaClsI
import Derived.Test.YtlbfdnejigojhaaClsD
namespace Go.Proofs.Ytlbfdnejigojhaa
open Go.RowKit

theorem cnt_all (n : Nat) : cnt (fun c => !ofL [] c) n = n := by
  induction n with
  | zero => rfl
  | succ n ih => simp only [cnt, ih]; simp [ofL]

set_option maxHeartbeats 1000000 in
theorem awake_any (w : World) : Calls Try.prog 14 #[] w fun e w' => e = .returned (.bool true) ∧ Below w.heap.size w w' := by
  have hszA : ∀ (w : World) (o : Obj), (w.alloc o).heap.size = w.heap.size + 1 := fun w o => by simp
  have hO0 := Lib.hid (fun (w : World) => of_any none 0 0 [] 0 w rfl (Nat.le_refl _) (Nat.zero_le _) (Nat.zero_le _) (Byt.none_ _ _ _))
  have hO1 := Lib.hid (fun (w : World) => of_any (some ⟨w.heap.size, 0, none⟩) 2 2 [65, 200] (w.heap.size + 1) (w.alloc (.cells #[.int .u8 65, .int .u8 200] 5)) rfl (Nat.le_refl _) (by unfold maxLen; omega) (by rw [hszA]; omega) (byt_new w [65, 200] 5 (0, 0)))
  have hO2 := Lib.hid (fun (w : World) => of_any (some ⟨w.heap.size, 0, none⟩) 1 1 [65] (w.heap.size + 1) (w.alloc (.cells #[.int .u8 65] 5)) rfl (Nat.le_refl _) (by unfold maxLen; omega) (by rw [hszA]; omega) (byt_new w [65] 5 (0, 0)))
  have hN := Lib.hid (fun (w : World) => not_any (ofL []) w)
  have hC := Lib.hid (fun (w : World) => count_any (fun c => !ofL [] c) w)
  have hH1 := Lib.hid (fun (w : World) => has_any (ofL [65, 200]) 200 w (by decide))
  have hH2 := Lib.hid (fun (w : World) => has_any (ofL [65]) 66 w (by decide))
  rw [cnt_all] at hC
  rw [show ofL [65, 200] 200 = true by decide] at hH1
  rw [show ofL [65] 66 = false by decide] at hH2
  go_enter Try.func14, Try.ntmps14
  go_wp2_with (first
    | (go_at_call_of 17 (Value.slice none 0 0); refine (hO0.out _).mono ?_; rintro e w1 ⟨rfl, hb1⟩)
    | (go_at_call 10; refine (hN.out _).mono ?_; rintro e w2 ⟨rfl, hb2⟩; have hbA := hb1.trans (hb2.mono hb1.size))
    | (go_at_call 13; refine (hC.out _).mono ?_; rintro e w3 ⟨rfl, hb3⟩; have hbB := hbA.trans (hb3.mono hbA.size))
    | (go_at_call 17; have _hb := hb5; refine (hO2.out _).mono ?_; rintro e w6 ⟨rfl, hb6⟩; have hbE := (hbD.alloc hbD.size _).trans (hb6.mono (by have := hbD.size; rw [hszA]; omega)))
    | (go_at_call 17; refine (hO1.out _).mono ?_; rintro e w4 ⟨rfl, hb4⟩; have hbC := (hbB.alloc hbB.size _).trans (hb4.mono (by have := hbB.size; rw [hszA]; omega)))
    | (go_at_call_of 8 (Value.int IntKind.u8 200); refine (hH1.out _).mono ?_; rintro e w5 ⟨rfl, hb5⟩; have hbD := hbC.trans (hb5.mono hbC.size))
    | (go_at_call 8; refine (hH2.out _).mono ?_; rintro e w7 ⟨rfl, hb7⟩; have hbF := hbE.trans (hb7.mono hbE.size)))
  go_ret
  exact ⟨rfl, hbF⟩
end Go.Proofs.Ytlbfdnejigojhaa
