/- What the rows that list internal/bytealg.MaxLen give: that variable holds some number. -/
import Derived.Test.YtdjnlploddlkbaaWords
import Derived.Test.YtdjnlploddlkbaaShelf
set_option maxRecDepth 100000
namespace Go.Proofs.Ytdjnlploddlkbaa
open Go.RowKit

/-- internal/bytealg.MaxLen holds some number. -/
def Mx (w : World) : Prop := ∃ m : Int, 0 < w.heap.size ∧ w.cell? ⟨0, 0, none⟩ = some (.int .i64 m)
theorem max_of {W : World} (h : W.ShapedOpen Try.prog) : Mx W := by
  obtain ⟨m, hm⟩ := Try.laysM185.s1_3 W h
  exact ⟨m, World.block_lt_of_cell? _ _ hm, hm⟩
theorem Mx.grow {w w' : World} (h : Mx w) (hb : Below w.heap.size w w') : Mx w' := by
  obtain ⟨m, h6, h7⟩ := h
  exact ⟨m, Nat.lt_of_lt_of_le h6 hb.size, (hb.cell (p := ⟨0, 0, none⟩) h6).trans h7⟩
end Go.Proofs.Ytdjnlploddlkbaa
