/- What a law hands to packages that read bytes: MaxLen holds some number; bytes just laid. -/
import Derived.Test.YtcloimdndcbchaaGreatM20
import Derived.Lib.SlBytesConst
set_option maxRecDepth 100000
namespace Go.Proofs.YtcloimdndcbchaaGreat
open Go.RowKit

/-- internal/bytealg.MaxLen holds some number. -/
def Mx (w : World) : Prop := ∃ m : Int, 0 < w.heap.size ∧ w.cell? ⟨0, 0, none⟩ = some (.int .i64 m)
theorem max_of {W : World} (h : W.ShapedOpen Tryz.prog) : Mx W := by
  obtain ⟨m, hm⟩ := Tryz.laysM185.s1_3 W h
  exact ⟨m, World.block_lt_of_cell? _ _ hm, hm⟩
theorem Mx.grow {w w' : World} (h : Mx w) (hb : Below w.heap.size w w') : Mx w' := by
  obtain ⟨m, h6, h7⟩ := h
  exact ⟨m, Nat.lt_of_lt_of_le h6 hb.size, (hb.cell (p := ⟨0, 0, none⟩) h6).trans h7⟩
theorem Inp.of {w : World} {A : Option Addr} {n c : Nat} {l : List UInt8} (hm : Mx w) (h1 : n = l.length) (h2 : n ≤ c) (h3 : c ≤ maxLen) (h4 : n ≤ 100000) (h5 : Byt w w.heap.size A l) : Inp w A n c l := ⟨h1, h2, h3, h4, h5, hm⟩
theorem Inp.mx {w : World} {A : Option Addr} {n c : Nat} {l : List UInt8} (h : Inp w A n c l) : Mx w := h.2.2.2.2.2

theorem const_inp {w : World} (hm : Mx w) (l : List UInt8) (k : Nat) (hl : k = l.length) (hs : k ≤ 1000) (fr : Nat × Nat) : Inp (w.alloc (.cells (l.map fun c => Value.int .u8 (c.toNat : Int)).toArray 5 fr)) (some ⟨w.heap.size, 0, none⟩) k k l := by
  subst hl
  exact Inp.of (hm.grow ((Below.refl _ _).alloc (Nat.le_refl _) _)) rfl (Nat.le_refl _) (by unfold maxLen; omega) (by omega) ((byt_new w l 5 fr).more (by rw [sizeA']; exact Nat.le_refl _))
end Go.Proofs.YtcloimdndcbchaaGreat
