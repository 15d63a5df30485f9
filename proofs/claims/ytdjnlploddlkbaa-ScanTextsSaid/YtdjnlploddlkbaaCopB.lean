/- Contract: the references' copy of bytes (palinoderef01.Copy). -/
import Derived.Test.YtdjnlploddlkbaaOwnB
set_option linter.unusedVariables false
set_option linter.unusedSimpArgs false
set_option maxRecDepth 100000
namespace Go.Proofs.Ytdjnlploddlkbaa
open Go.RowKit

theorem rCopyS_any {w : World} {B : Nat} {A : Option Addr} {n c : Nat} {l : List UInt8} (hn : n = l.length) (hnc : n ≤ c) (hm : c ≤ maxLen) (hbig : n ≤ 1000000000) (h : Byt w B A l) (hB : B ≤ w.heap.size) :
    Calls Try.prog 14 #[.slice A n c] w fun e w' => (∃ v, e = .returned v ∧ OwnB w' w.heap.size v l) ∧ Below w.heap.size w w' := by
  have hb1 := Lib.hid ((Below.refl w.heap.size w).alloc (Nat.le_refl _) (.cells #[] 5))
  have hown := Lib.hid (show OwnB (w.alloc (.cells #[] 5)) w.heap.size (.slice (some ⟨w.heap.size, 0, none⟩) 0 0) [] from World.ownsRow_made w #[] 0 (Nat.le_refl _) (by simp [maxLen]) rfl)
  have hv := Lib.hid (show BytV (w.alloc (.cells #[] 5)) B (.slice A n c) l from ⟨A, n, c, rfl, hn, hnc, hm, h.below (hb1.out.mono hB)⟩)
  have hl := Lib.hid (show ([] : List UInt8).length + l.length ≤ 1000000000 from by rw [List.length_nil, ← hn]; omega)
  clear h hn
  go_enter Try.func14, Try.ntmps14
  go_wp2_with (at_builtin; refine wpList_app rfl (.tmp 3) (.tmp 4) rfl rfl hown.out rfl hv.out hl.out hb1.out.size ?_; intro v4 w4 h1 h2; obtain ⟨A4, n4, c4, rfl⟩ := h1.slice)
  go_ret
  exact ⟨⟨_, rfl, h1⟩, h2.below _ hb1.out⟩
theorem rCopyS_own {w : World} {base : Nat} {v : Value} {l : List UInt8} (h : OwnB w base v l) (hl : l.length ≤ 1000000000) :
    Calls Try.prog 14 #[v] w fun e w' => (∃ v, e = .returned v ∧ OwnB w' w.heap.size v l) ∧ Below w.heap.size w w' := by
  obtain ⟨A, n, c, rfl, hn, hnc, hm, hb⟩ := h.byt
  exact rCopyS_any hn hnc hm (by omega) hb (Nat.le_refl _)
end Go.Proofs.Ytdjnlploddlkbaa
