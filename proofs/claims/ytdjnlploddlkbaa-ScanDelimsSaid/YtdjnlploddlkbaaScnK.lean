/- The contract of the law's awake: the document's example. -/
import Derived.Test.YtdjnlploddlkbaaScnG
import Derived.Test.YtdjnlploddlkbaaScnO
set_option linter.unusedVariables false
set_option linter.unusedSimpArgs false
set_option maxRecDepth 100000
namespace Go.Proofs.Ytdjnlploddlkbaa
open Go.RowKit

theorem byte_arg {z : Int} (h : (Lit.int .u8 z).wf = true) : ∃ d : UInt8, z = (d.toNat : Int) := by
  obtain ⟨h0, h1⟩ := bounds_u8 h
  refine ⟨UInt8.ofNat z.toNat, ?_⟩
  rw [UInt8.toNat_ofNat', Nat.mod_eq_of_lt (by omega)]; omega
/-- Until, where it is known what it tells. -/
theorem until_yes {w : World} {B C : Nat} {v : Value} {l : List UInt8} {a : Nat} (h : Cur w B C v l a) (d : UInt8) (hd : dlm d = true) {k : Nat} {t : List UInt8} (hk : untS d (l.drop a) = some k) (ht : (l.drop a).take k = t) :
    Calls Try.prog 8 #[.pointer (some ⟨C, 0, none⟩), .int .u8 (d.toNat : Int)] w fun e w' => (∃ A c, e = .returned (.tuple #[.slice A t.length c, .int .i64 0]) ∧ OwnB w' w.heap.size (.slice A t.length c) t) ∧ CurQ w w' B C v l (a + k + 1) := by
  refine (until_any h d hd).mono fun e w' hq => ?_
  unfold UntQ at hq
  rw [hk] at hq
  obtain ⟨⟨u, rfl, ho⟩, hq⟩ := hq
  rw [ht] at ho
  obtain ⟨A, c, rfl, -⟩ := own_byt ho
  exact ⟨⟨A, c, rfl, ho⟩, hq⟩
def ex14 : List UInt8 := [97, 92, 47, 98, 47, 99]
theorem ex_open14 (w : World) : Calls Try.prog 7 #[.slice (some ⟨w.heap.size, 0, none⟩) 6 6] (w.alloc (.cells #[.int .u8 97, .int .u8 92, .int .u8 47, .int .u8 98, .int .u8 47, .int .u8 99] 5 (6, 7))) fun e w' =>
    (∃ C v, e = .returned (.pointer (some ⟨C, 0, none⟩)) ∧ Cur w' w.heap.size C v ex14 0) ∧ Below w.heap.size w w' := by
  have hb := (Below.refl w.heap.size w).alloc (Nat.le_refl _) (.cells #[.int .u8 97, .int .u8 92, .int .u8 47, .int .u8 98, .int .u8 47, .int .u8 99] 5 (6, 7))
  refine (open_any (A := some ⟨w.heap.size, 0, none⟩) (n := 6) (c := 6) (l := ex14) (B := w.heap.size + 1) rfl (byt_new w ex14 5 (6, 7)) (by rw [sizeA']; exact Nat.le_refl _) (by decide)).mono ?_
  rintro e w' ⟨⟨C, v, rfl, h1, h2⟩, h3⟩
  exact ⟨⟨C, v, rfl, h2.lower (by rw [sizeA']; exact Nat.le_succ _)⟩, hb.trans (h3.mono (by rw [sizeA']; exact Nat.le_succ _))⟩
set_option maxHeartbeats 4000000 in
theorem awake14_any (w : World) : Calls Try.prog 12 #[] w fun e w' => e = .returned (.bool true) ∧ Below w.heap.size w w' := by
  have hO := Lib.hid (ex_open14 w)
  have kc := Lib.run_convert_bytes_const (P := Try.prog) w 24 5 #[.int .u8 97, .int .u8 92, .int .u8 47, .int .u8 98, .int .u8 47, .int .u8 99] 6 6 Try.underlying24 Try.underlying5
  go_enter Try.func12, Try.ntmps12
  go_upto_region 2 with (go_at_call 7; refine (hO.out).mono ?_; rintro e w1 ⟨⟨C, v, rfl, hc1⟩, hb1⟩)
  have hU := Lib.hid (until_yes hc1 47 (by decide) (k := 4) (t := [97, 92, 47, 98]) (by decide) (by decide))
  have hbh := Lib.hid hb1
  have hc1h := Lib.hid hc1
  clear hO kc hb1 hc1
  go_upto_region 3 with (go_at_call 8; refine (hU.out).mono ?_; rintro e w2 ⟨⟨A, c, rfl, ho⟩, hq⟩)
  have hcv : (convert 24 9 (.slice A 4 c)).run Try.prog w2 = .ok (.string ⟨#[97, 92, 47, 98]⟩) w2 := by
    obtain ⟨_, _, e, -, -, -, hB⟩ := own_byt ho
    cases e
    exact sw_conv hB rfl (by simp)
  have hAt := Lib.hid (at_any hq.cur)
  have hb2 := Lib.hid (hbh.out.trans (hq.below hc1h.out))
  clear hU ho hq
  go_wp2_with (go_at_call 11; refine (hAt.out).mono ?_; rintro e w3 ⟨rfl, rfl⟩)
  go_ret
  exact ⟨rfl, hb2.out⟩
end Go.Proofs.Ytdjnlploddlkbaa
