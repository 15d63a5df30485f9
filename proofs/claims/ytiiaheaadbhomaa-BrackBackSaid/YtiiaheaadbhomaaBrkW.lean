/- The contract of package brack's rows. -/
import Derived.Test.YtiiaheaadbhomaaBrkV
import Derived.Test.YtiiaheaadbhomaaClsU
namespace Go.Proofs.Ytiiaheaadbhomaa
open Go.RowKit

theorem strInfo : (Try.prog.info? 9).map (fun i => (i.zero, i.size, i.bytes)) = some (some (.string ByteArray.empty), 1, 16) := by kernel_rfl
def RelRw7 (W : World) (f : Nat → Bool) (vc v : Value) (wr : World) : Prop :=
  ∃ (c : Nat) (ss : List ByteArray), vc = .int .i64 (c : Int) ∧ c ≤ 256 ∧ ss.length ≤ c ∧ ss.map (·.data.toList) ++ rowsL f c = rowsL f 0 ∧ SetAt wr W.heap.size f ∧ wr.ownsRow (W.heap.size + 1) 9 1 v ss.length (ss.map Value.string) ∧ Below W.heap.size W wr
theorem RelRw7.mk {W : World} {f : Nat → Bool} {vc v : Value} {wr : World} (h : ∃ (c : Nat) (ss : List ByteArray), vc = .int .i64 (c : Int) ∧ c ≤ 256 ∧ ss.length ≤ c ∧ ss.map (·.data.toList) ++ rowsL f c = rowsL f 0 ∧ SetAt wr W.heap.size f ∧ wr.ownsRow (W.heap.size + 1) 9 1 v ss.length (ss.map Value.string) ∧ Below W.heap.size W wr) : RelRw7 W f vc v wr := h
def RelRun (W : World) (f : Nat → Bool) (c : Nat) (ss : List ByteArray) (v vc : Value) (wr : World) : Prop :=
  ∃ d : Nat, vc = .int .i64 (d : Int) ∧ c ≤ d ∧ d ≤ 255 ∧ runE f d = runE f c ∧ SetAt wr W.heap.size f ∧ wr.ownsRow (W.heap.size + 1) 9 1 v ss.length (ss.map Value.string) ∧ Below W.heap.size W wr
theorem RelRun.mk {W : World} {f : Nat → Bool} {c : Nat} {ss : List ByteArray} {v vc : Value} {wr : World} (h : ∃ d : Nat, vc = .int .i64 (d : Int) ∧ c ≤ d ∧ d ≤ 255 ∧ runE f d = runE f c ∧ SetAt wr W.heap.size f ∧ wr.ownsRow (W.heap.size + 1) 9 1 v ss.length (ss.map Value.string) ∧ Below W.heap.size W wr) : RelRun W f c ss v vc wr := h
theorem row7_at (c d : Nat) (hc : c < 256) (hd : d < 256) (w : World) :
    Calls Try.prog 25 #[.int .u8 (c : Int), .int .u8 (d : Int)] w fun e w' => e = .returned (.string ⟨(rowT (UInt8.ofNat c) (UInt8.ofNat d)).toArray⟩) ∧ Below w.heap.size w w' := by
  have := row7_any (UInt8.ofNat c) (UInt8.ofNat d) w
  rw [ofNat_toNat hc, ofNat_toNat hd] at this
  exact this

set_option maxRecDepth 100000 in
set_option maxHeartbeats 4000000 in
theorem rows_any (f : Nat → Bool) (w : World) :
    Calls Try.prog 13 #[.agg (setC f)] w fun e w' => ∃ v ss, e = .returned v ∧ (ss : List ByteArray).map (·.data.toList) = rowsL f 0 ∧ ss.length ≤ 256 ∧ w'.ownsRow w.heap.size 9 1 v ss.length (ss.map Value.string) ∧ Below w.heap.size w w' := by
  obtain ⟨i0, hi, hz0, hi1, hi2⟩ : ∃ i0, Try.prog.info? 9 = some i0 ∧ i0.zero = some (.string ByteArray.empty) ∧ i0.size = 1 ∧ i0.bytes = 16 := by
    obtain ⟨i0, h1, h2⟩ := Option.map_eq_some_iff.1 strInfo
    simp at h2
    exact ⟨i0, h1, h2.1, h2.2.1, h2.2.2⟩
  have hI1 := Lib.hid hi1
  have hI2 := Lib.hid hi2
  clear hi1 hi2
  go_enter Try.func13, Try.ntmps13
  go_wp2
  go_loopw [4, 3] (RelRw7 w f) (fun v _ _ => 256 - (intOf v).toNat)
  case atStart => exact RelRw7.mk ⟨0, [], rfl, by omega, by simp, rfl, set_new w f, World.ownsRow_nil _ _ _ _, (Below.refl _ _).alloc (Nat.le_refl _) _⟩
  case round =>
    rename World => w1
    obtain ⟨c, ss, rfl, hc, hsc, hcat, hs, hown, hb⟩ := hrel
    replace hcat := Lib.hid hcat
    obtain ⟨Av, cv, rfl, -, -, -, -⟩ := own_vals hown
    have hs' := Lib.hid hs
    have hb' := Lib.hid hb
    have hown' := Lib.hid hown
    clear hs hb hown
    by_cases hlt : c < 256
    · have k3 : IntKind.u8.wrap (c : Int) = (c : Int) := IntWalk.u8_in _ (by omega)
      cases hf : f c with
      | false =>
        have hfk := Lib.hid hf
        have hrl := Lib.hid (rowsL_out hlt hf)
        clear hf
        go_wp2_with (first
          | (refine wpList_load_row rfl 24 (.tmp 1) rfl w.heap.size rfl 24 _ (0, 0) _ hs'.out Try.underlying24 rfl (set_size _) ?_)
          | (go_at_call 24; refine (has_any f c _ hlt).mono ?_; rintro e w4 ⟨rfl, hbh⟩; rw [hfk.out]; have hs4 := Lib.hid (hs'.out.below hbh hs'.out.lt); have hb4 := Lib.hid (hb'.out.trans (hbh.mono hb'.out.size)); have hown4 := Lib.hid (own_below hown'.out hbh)))
        go_roundw
        case rel => exact RelRw7.mk ⟨c + 1, ss, by go_num, by omega, by omega, by rw [← hrl.out]; exact hcat.out, hs4.out, hown4.out, hb4.out⟩
        case measure => simp [intOf]; omega
      | true =>
        have hfk := Lib.hid hf
        have hrl := Lib.hid (rowsL_in hlt hf)
        clear hf
        go_wp2_with (first
          | (refine wpList_load_row rfl 24 (.tmp 1) rfl w.heap.size rfl 24 _ (0, 0) _ hs'.out Try.underlying24 rfl (set_size _) ?_)
          | (go_at_call 24; refine (has_any f c _ hlt).mono ?_; rintro e w4 ⟨rfl, hbh⟩; rw [hfk.out]; have hs4 := Lib.hid (hs'.out.below hbh hs'.out.lt); have hb4 := Lib.hid (hb'.out.trans (hbh.mono hb'.out.size)); have hown4 := Lib.hid (own_below hown'.out hbh)))
        go_loopw [4] (RelRun w f c ss (.slice Av ss.length cv)) (fun v _ => 256 - (intOf v).toNat)
        case atStart => exact RelRun.mk ⟨c, rfl, Nat.le_refl _, by omega, rfl, hs4.out, hown4.out, hb4.out⟩
        case round =>
          rename World => w5
          clear hs4 hb4 hown4 hs' hb' hown' hfk
          obtain ⟨d, rfl, hcd, hd, hrun, hs, hown, hb⟩ := hrel
          have hs' := Lib.hid hs
          have hb' := Lib.hid hb
          have hown' := Lib.hid hown
          have d0 := hs.cell 0 (by decide)
          have d1 := hs.cell 1 (by decide)
          have d2 := hs.cell 2 (by decide)
          have d3 := hs.cell 3 (by decide)
          clear hs hb hown
          have k5 : IntKind.u8.wrap (d : Int) = (d : Int) := IntWalk.u8_in _ (by omega)
          by_cases hd2 : d < 255
          · have k4 : IntKind.u8.wrap ((d : Int) + 1) = (d : Int) + 1 := IntWalk.u8_in _ (by omega)
            cases hf : f (d + 1) with
            | true =>
              have hfk := Lib.hid hf
              have hrn := Lib.hid ((runE_on hd2 hf).symm.trans hrun)
              clear hf hrun
              go_wp2_with (first
                | (go_at_call 24; refine (has_any f (d + 1) _ (by omega)).mono ?_; rintro e w5b ⟨rfl, hbh⟩; rw [hfk.out]; have hs4 := Lib.hid (hs'.out.below hbh hs'.out.lt); have hb4 := Lib.hid (hb'.out.trans (hbh.mono hb'.out.size)); have hown4 := Lib.hid (own_below hown'.out hbh)))
              go_roundw
              case rel => exact RelRun.mk ⟨d + 1, by go_num, by omega, by omega, hrn.out, hs4.out, hown4.out, hb4.out⟩
              case measure => simp [intOf]; omega
            | false =>
              have hfk := Lib.hid hf
              have hrn : runE f c = d := hrun.symm.trans (runE_off (by rw [hf]; simp))
              rw [hrn] at hrl
              replace hrn := Lib.hid hrn
              have hRow := Lib.hid (row7_at c d hlt (by omega))
              clear hf hrun
              go_wp2_with (first
                | (go_at_call 24; refine (has_any f (d + 1) _ (by omega)).mono ?_; rintro e w5b ⟨rfl, hbh⟩; rw [hfk.out]; have hs4 := Lib.hid (hs'.out.below hbh hs'.out.lt); have hb4 := Lib.hid (hb'.out.trans (hbh.mono hb'.out.size)); have hown4 := Lib.hid (own_below hown'.out hbh))
                | (go_at_call 25; refine (hRow.out _).mono ?_; rintro e w6 ⟨rfl, hb6⟩; have hs7 := Lib.hid (hs4.out.below hb6 hs4.out.lt); have hb7 := Lib.hid (hb4.out.trans (hb6.mono hb4.out.size)); have hown7 := Lib.hid (own_below hown4.out hb6))
                | (at_builtin; refine wpList_append_at rfl _ _ 38 rfl (w.heap.size + 1) 9 i0 (.string ByteArray.empty) 1 16 Try.underlying38 hi hz0 hI1.out hI2.out rfl (by decide) (.slice Av ss.length cv) ss.length (ss.map Value.string) rfl (hown7.out.alloc _) (some ⟨w6.heap.size, 0, none⟩) 1 1 [.string ⟨(rowT (UInt8.ofNat c) (UInt8.ofNat d)).toArray⟩] rfl rfl (src_new w6 [.string ⟨(rowT (UInt8.ofNat c) (UInt8.ofNat d)).toArray⟩] 9) (by simp [Value.oneCell']) (by unfold maxLen; omega) (by omega) (by have := hs7.out.lt; rw [sizeA']; omega) ?_; intro v8 w8 hown8 hg8 _; have hb8 := below_append (hb7.out.alloc hb7.out.size (.cells #[.string ⟨(rowT (UInt8.ofNat c) (UInt8.ofNat d)).toArray⟩] 9)) (ownsRow_less (hown7.out.alloc _) (Nat.le_succ _)) (by have := hb7.out.size; rw [sizeA']; omega) hg8; have hs8 := (hs7.out.alloc (.cells #[.string ⟨(rowT (UInt8.ofNat c) (UInt8.ofNat d)).toArray⟩] 9)).grown hg8 (fun e => by have := ownsRow_from hown7.out _ e; omega)))
              go_roundw
              case rel => exact RelRw7.mk ⟨d + 1, ss ++ [⟨(rowT (UInt8.ofNat c) (UInt8.ofNat d)).toArray⟩], by go_num, by omega, by simp; omega, by rw [← hcat.out, hrl.out]; simp, hs8, by rw [List.length_append, List.map_append]; exact hown8, hb8⟩
              case measure => simp [intOf]; omega
          · obtain rfl : d = 255 := by omega
            have hrn : runE f c = 255 := hrun.symm.trans (runE_off (by omega))
            rw [hrn] at hrl
            replace hrn := Lib.hid hrn
            have hRow := Lib.hid (row7_at c 255 hlt (by omega))
            have hs4 := hs'
            have hb4 := hb'
            have hown4 := hown'
            clear hrun
            go_wp2_with (first
              | fail
              | (go_at_call 25; refine (hRow.out _).mono ?_; rintro e w6 ⟨rfl, hb6⟩; have hs7 := Lib.hid (hs4.out.below hb6 hs4.out.lt); have hb7 := Lib.hid (hb4.out.trans (hb6.mono hb4.out.size)); have hown7 := Lib.hid (own_below hown4.out hb6))
              | (at_builtin; refine wpList_append_at rfl _ _ 38 rfl (w.heap.size + 1) 9 i0 (.string ByteArray.empty) 1 16 Try.underlying38 hi hz0 hI1.out hI2.out rfl (by decide) (.slice Av ss.length cv) ss.length (ss.map Value.string) rfl (hown7.out.alloc _) (some ⟨w6.heap.size, 0, none⟩) 1 1 [.string ⟨(rowT (UInt8.ofNat c) (UInt8.ofNat 255)).toArray⟩] rfl rfl (src_new w6 [.string ⟨(rowT (UInt8.ofNat c) (UInt8.ofNat 255)).toArray⟩] 9) (by simp [Value.oneCell']) (by unfold maxLen; omega) (by omega) (by have := hs7.out.lt; rw [sizeA']; omega) ?_; intro v8 w8 hown8 hg8 _; have hb8 := below_append (hb7.out.alloc hb7.out.size (.cells #[.string ⟨(rowT (UInt8.ofNat c) (UInt8.ofNat 255)).toArray⟩] 9)) (ownsRow_less (hown7.out.alloc _) (Nat.le_succ _)) (by have := hb7.out.size; rw [sizeA']; omega) hg8; have hs8 := (hs7.out.alloc (.cells #[.string ⟨(rowT (UInt8.ofNat c) (UInt8.ofNat 255)).toArray⟩] 9)).grown hg8 (fun e => by have := ownsRow_from hown7.out _ e; omega)))
            go_roundw
            case rel => exact RelRw7.mk ⟨256, ss ++ [⟨(rowT (UInt8.ofNat c) (UInt8.ofNat 255)).toArray⟩], by go_num, by omega, by simp; omega, by rw [← hcat.out, hrl.out]; simp, hs8, by rw [List.length_append, List.map_append]; exact hown8, hb8⟩
            case measure => simp [intOf]; omega
    · obtain rfl : c = 256 := by omega
      have hfin := hcat.out
      rw [rowsL_end (by omega), List.append_nil] at hfin
      replace hfin := Lib.hid hfin
      go_wp2
      go_ret
      exact ⟨_, ss, rfl, hfin.out, hsc, ownsRow_less hown'.out (Nat.le_succ _), hb'.out⟩
end Go.Proofs.Ytiiaheaadbhomaa
