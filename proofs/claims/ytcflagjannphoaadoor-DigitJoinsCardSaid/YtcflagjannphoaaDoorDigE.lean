/- The contract of the law's awake. -/
import Derived.Test.YtcflagjannphoaaDoorDigD
import Derived.Lib.SlBytesConst
namespace Go.Proofs.YtcflagjannphoaaDoor
open Go.RowKit


theorem awake_num : numS [97, 32, 48, 48, 52, 50, 98] 2 99 = (42, 6, 0) := by decide
theorem awake_join : Lib.join ([1, 20, -3].map Lib.itoa) [45] = [49, 45, 50, 48, 45, 45, 51] := by
  rw [show ([1, 20, -3] : List Int).map Lib.itoa = [[49], [50, 48], [45, 51]] from by
    have h1 : Lib.itoa 1 = [49] := itoa_digit 1 (by omega)
    have h2 : Lib.itoa 20 = [50, 48] := by
      rw [show (20 : Int) = ((20 : Nat) : Int) from rfl, itoa_more 20 (by omega), show ((20 / 10 : Nat) : Int) = ((2 : Nat) : Int) from rfl, itoa_digit 2 (by omega)]; rfl
    have h3 : Lib.itoa (-3) = [45, 51] := itoa_neg_digit 3 (by omega) (by omega)
    simp only [List.map_cons, List.map_nil, h1, h2, h3]]
  rfl

theorem awake_any (w : World) (ht : Tab w) (hg : 0 < w.heap.size) :
    Calls Tryd.prog 8 #[] w fun e w' => e = .returned (.bool true) ∧ Below w.heap.size w w' := by
  have hT := Lib.hid ht
  have hn := num_any (some ⟨w.heap.size, 0, none⟩) 7 [97, 32, 48, 48, 52, 50, 98] 7 2 99 _ _ rfl (byt_new w [97, 32, 48, 48, 52, 50, 98] 5 (7, 8)) (by decide) (by omega) (by omega) (by omega)
  rw [awake_num] at hn
  have hn' : Calls Tryd.prog 11 #[.slice (some ⟨w.heap.size, 0, none⟩) 7 7, .int .i64 2, .int .i64 99] (w.alloc (.cells #[.int .u8 97, .int .u8 32, .int .u8 48, .int .u8 48, .int .u8 52, .int .u8 50, .int .u8 98] 5 (7, 8))) fun e w' =>
      e = .returned (.tuple #[.int .i64 42, .int .i64 6, .int .i64 0]) ∧ (w.alloc (.cells #[.int .u8 97, .int .u8 32, .int .u8 48, .int .u8 48, .int .u8 52, .int .u8 50, .int .u8 98] 5 (7, 8))) = w' := hn
  have hN := Lib.hid hn'
  clear hn ht hn'
  have HJ : Hid (∀ (W : World) (a : Nat), a = W.heap.size → Below w.heap.size w W → Calls Tryd.prog 16 #[.string ⟨#[45]⟩, .slice (some ⟨a, 0, none⟩) 3 3] (W.alloc (.cells #[.int .i64 1, .int .i64 20, .int .i64 (-3)] 3)) fun e w' =>
      e = .returned (.string ⟨#[49, 45, 50, 48, 45, 45, 51]⟩) ∧ Below w.heap.size w w') := by
    refine Lib.hid fun W a ha hb => ?_
    subst ha
    have h := join_any (some ⟨W.heap.size, 0, none⟩) 3 3 [1, 20, -3] ⟨#[45]⟩ _ _ rfl (vals_new W [.int .i64 1, .int .i64 20, .int .i64 (-3)] 3 (0, 0)) (by simp) (by simp) (by omega) (by decide) (var?_below (hb.alloc hb.size _) gPow hg hT.out) (Nat.lt_of_lt_of_le hg (by have := hb.size; simp; omega))
    rw [awake_join] at h
    exact h.mono fun e w' ⟨he, hw⟩ => ⟨he, (hb.alloc hb.size _).trans (hw.mono (by have := hb.size; simp; omega))⟩
  have kc := fun (w : World) (C : Array Value) (n c : Nat) => Lib.run_convert_bytes_const (P := Tryd.prog) w 26 5 C n c Tryd.underlying26 Tryd.underlying5
  go_enter Tryd.func8, Tryd.ntmps8
  go_wp2_with (first
    | (go_at_call 11; refine (hN.out).mono ?_; rintro e w2 ⟨rfl, rfl⟩; have hbw := (Below.refl w.heap.size w).alloc (Nat.le_refl _) (.cells #[.int .u8 97, .int .u8 32, .int .u8 48, .int .u8 48, .int .u8 52, .int .u8 50, .int .u8 98] 5 (7, 8)))
    | (go_at_call 16; refine (HJ.out _ _ (by simp) hbw).mono ?_; rintro e w3 ⟨rfl, hb3⟩))
  go_ret
  exact ⟨rfl, hb3⟩
end Go.Proofs.YtcflagjannphoaaDoor
