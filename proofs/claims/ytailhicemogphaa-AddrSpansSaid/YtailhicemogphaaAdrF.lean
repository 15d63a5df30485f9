/- The laws' awake (palinodelaw15). -/
import Derived.Test.YtailhicemogphaaAdrG
set_option linter.unusedVariables false
set_option linter.unusedSimpArgs false
set_option maxRecDepth 100000
namespace Go.Proofs.Ytailhicemogphaa
open Go.RowKit

theorem ad_cells {w : World} {g : Nat} {t : TypeId} {a b c : Value} (h : Held w g t #[a, b, c]) : w.cell? ⟨g, 0, none⟩ = some a ∧ w.cell? ⟨g, 1, none⟩ = some b ∧ w.cell? ⟨g, 2, none⟩ = some c :=
  ⟨h.at_ rfl, h.at_ rfl, h.at_ rfl⟩
set_option maxHeartbeats 2000000 in
theorem awake15_any (w : World) : Calls Try.prog 10 #[] w fun e w' => e = .returned (.bool true) ∧ Below w.heap.size w w' := by
  have h1 := Lib.hid ((held_new w 23 #[.int .i64 1, .int .i64 2, .int .i64 0]).alloc (.cells #[.int .i64 1, .int .i64 4, .int .i64 0] 23))
  have h2 := Lib.hid (held_new2 w (.cells #[.int .i64 1, .int .i64 2, .int .i64 0] 23) 23 #[.int .i64 1, .int .i64 4, .int .i64 0])
  have hb := Lib.hid (((Below.refl w.heap.size w).alloc (Nat.le_refl _) (.cells #[.int .i64 1, .int .i64 2, .int .i64 0] 23)).alloc (by rw [sizeA']; exact Nat.le_succ _) (.cells #[.int .i64 1, .int .i64 4, .int .i64 0] 23))
  have hA := Lib.hid (fun w1 => (select_11 (v := .nilFunc) 2 4 2 false false w1).mono (R' := fun e w' => e = .returned (.tuple #[.bool true, .bool true, .int .i64 0]) ∧ Below w1.heap.size w1 w') fun e w' ⟨he, hq⟩ => ⟨he, hq⟩)
  have hB := Lib.hid (fun w1 => (select_11 (v := .nilFunc) 2 4 4 true false w1).mono (R' := fun e w' => e = .returned (.tuple #[.bool true, .bool false, .int .i64 0]) ∧ Below w1.heap.size w1 w') fun e w' ⟨he, hq⟩ => ⟨he, hq⟩)
  have hC := Lib.hid (fun w1 => (select_11 (v := .nilFunc) 5 3 5 false false w1).mono (R' := fun e w' => e = .returned (.tuple #[.bool true, .bool false, .int .i64 0]) ∧ Below w1.heap.size w1 w') fun e w' ⟨he, hq⟩ => ⟨he, hq⟩)
  unfold adV at hA hB hC
  dsimp only at hA hB hC
  go_enter Try.func10, Try.ntmps10
  go_upto_region 2 with fail
  generalize (w.alloc (.cells #[.int .i64 1, .int .i64 2, .int .i64 0] 23)).alloc (.cells #[.int .i64 1, .int .i64 4, .int .i64 0] 23) = w1 at *
  obtain ⟨c1, c2, c3⟩ := ad_cells h1.out
  obtain ⟨d1, d2, d3⟩ := ad_cells h2.out
  go_upto_region 3 with (go_at_call 14; refine (hA.out _).mono ?_; rintro e w2 ⟨rfl, hq⟩)
  have hb2 := Lib.hid (hb.out.trans (hq.mono hb.out.size))
  clear c1 c2 c3 d1 d2 d3
  obtain ⟨c1, c2, c3⟩ := ad_cells (h1.out.keep hq)
  obtain ⟨d1, d2, d3⟩ := ad_cells (h2.out.keep hq)
  clear hA h1 h2 hb hq
  go_upto_region 4 with (go_at_call 14; refine (hB.out _).mono ?_; rintro e w3 ⟨rfl, hq⟩)
  have hb3 := Lib.hid (hb2.out.trans (hq.mono hb2.out.size))
  clear hB hq hb2 c1 c2 c3 d1 d2 d3
  go_upto_region 5 with (go_at_call 14; refine (hC.out _).mono ?_; rintro e w4 ⟨rfl, hq⟩)
  have hb4 := Lib.hid (hb3.out.trans (hq.mono hb3.out.size))
  clear hC hq hb3
  go_wp2
  go_ret
  exact ⟨rfl, hb4.out⟩
end Go.Proofs.Ytailhicemogphaa
