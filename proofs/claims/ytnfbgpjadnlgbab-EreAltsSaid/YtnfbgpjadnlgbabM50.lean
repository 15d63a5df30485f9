/- What a law hands to packages that read bytes: MaxLen holds some number; bytes just laid. A parser that stands at the beginning of a text; what comes out of a text that is one. -/
import Derived.Test.YtnfbgpjadnlgbabM28
import Derived.Lib.SlBytesConst
import Derived.Test.YtnfbgpjadnlgbabM44
set_option maxRecDepth 100000
namespace Go.Proofs.Ytnfbgpjadnlgbab
open Go.RowKit

/-- internal/bytealg.MaxLen holds some number. -/
def Mx (w : World) : Prop := ∃ m : Int, 0 < w.heap.size ∧ w.cell? ⟨0, 0, none⟩ = some (.int .i64 m)
theorem max_of {W : World} (h : W.ShapedOpen Try.prog) : Mx W := by
  obtain ⟨m, hm⟩ := Try.laysM185.s1_3 W h
  exact ⟨m, World.block_lt_of_cell? _ _ hm, hm⟩
theorem Mx.grow {w w' : World} (h : Mx w) (hb : Below w.heap.size w w') : Mx w' := by
  obtain ⟨m, h6, h7⟩ := h
  exact ⟨m, Nat.lt_of_lt_of_le h6 hb.size, (hb.cell (p := ⟨0, 0, none⟩) h6).trans h7⟩
theorem Inp.of {w : World} {A : Option Addr} {n c : Nat} {l : List UInt8} (hm : Mx w) (h1 : n = l.length) (h2 : n ≤ c) (h3 : c ≤ maxLen) (h4 : n ≤ 100000) (h5 : Byt w w.heap.size A l) : Inp w A n c l := ⟨h1, h2, h3, h4, h5, hm⟩
theorem Inp.mx {w : World} {A : Option Addr} {n c : Nat} {l : List UInt8} (h : Inp w A n c l) : Mx w := h.2.2.2.2.2

theorem const_inp {w : World} (hm : Mx w) (l : List UInt8) (k : Nat) (hl : k = l.length) (hs : k ≤ 1000) (fr : Nat × Nat) : Inp (w.alloc (.cells (l.map fun c => Value.int .u8 (c.toNat : Int)).toArray 5 fr)) (some ⟨w.heap.size, 0, none⟩) k k l := by
  subst hl
  exact Inp.of (hm.grow ((Below.refl _ _).alloc (Nat.le_refl _) _)) rfl (Nat.le_refl _) (by unfold maxLen; omega) (by omega) ((byt_new w l 5 fr).more (by rw [sizeA']; exact Nat.le_refl _))
end Go.Proofs.Ytnfbgpjadnlgbab

set_option linter.unusedVariables false
set_option maxRecDepth 100000
namespace Go.Proofs.Ytnfbgpjadnlgbab
open Go.RowKit

def psr0C (A : Option Addr) (n c : Nat) : Array Value := psrC (.slice none 0 0) 0 A n c 0 noCl 0
theorem txt_of {w : World} {A : Option Addr} {n c : Nat} {l : List UInt8} (h : Inp w A n c l) : Txt w w.heap.size A n c l := by
  obtain ⟨h1, h2, h3, h4, h5, m, h6, h7⟩ := h
  exact ⟨h1, h2, h3, h4, Nat.le_refl _, h5, m, h6, h7⟩
/-- A parser that stands at the beginning. -/
theorem psr_new {w w1 : World} {A : Option Addr} {n c : Nat} {l : List UInt8} (h : Inp w A n c l) (hb : Below w.heap.size w w1) (t : TypeId) (h1 : 34 ≠ t) (h2 : 3 ≠ t) :
    Psr (w1.alloc (.cells (psrC (.slice none 0 0) 0 A n c 0 noCl 0) t)) w.heap.size w1.heap.size A n c l (.slice none 0 0) [] 0 0 noCl 0 :=
  ⟨⟨t, h1, h2, held_new _ _ _⟩, World.ownsRow_nil _ _ _ _, by simp, by simp, hb.size, Nat.zero_le _, fun q h => by simp [noCl] at h, (txt_of h).below (hb.trans ((Below.refl _ _).alloc hb.size _))⟩
theorem rightN_len {ns : List Nod} {g : Int} (h : rightN ns g = true) : 1 ≤ ns.length ∧ ns.length ≤ 1000 ∧ 0 ≤ g ∧ g ≤ 9 := by
  by_cases hx : 1 ≤ ns.length ∧ ns.length ≤ 1000 ∧ 0 ≤ g ∧ g ≤ 9
  · exact hx
  · rw [rightN_size hx] at h; cases h
/-- A slice of nodes of one's own, its block told. -/
theorem own_at {w : World} {B : Nat} {v : Value} {ns : List Nod} (h : w.ownsRow B 34 10 v ns.length (nodsL ns)) (h1 : 1 ≤ ns.length) :
    ∃ q cap, v = .slice (some ⟨q, 0, none⟩) ns.length cap ∧ B ≤ q ∧ ns.length ≤ cap ∧ cap ≤ maxLen := by
  rcases h.2 with ⟨rfl, e⟩ | ⟨q, cap, cur, rfl, hb, hh, hnc, hcm, r⟩
  · omega
  · exact ⟨q, cap, rfl, hb, hnc, hcm⟩
/-- What comes out of a text that is one. -/
def FinR (w : World) (ns : List Nod) (g n : Nat) (e : Ending) (w' : World) : Prop :=
  ∃ q cap, e = .returned (.tuple #[.agg #[.slice (some ⟨q, 0, none⟩) n cap, .int .i64 (g : Int)], .int .i64 0, .int .i64 0]) ∧ w'.ownsRow w.heap.size 34 10 (.slice (some ⟨q, 0, none⟩) n cap) n (nodsL ns) ∧ Below w.heap.size w w' ∧ n ≤ cap ∧ cap ≤ maxLen
theorem FinR.ex {w : World} {ns : List Nod} {g n : Nat} {e : Ending} {w' : World} (h : FinR w ns g n e w') : ∃ q cap, e = .returned (.tuple #[.agg #[.slice (some ⟨q, 0, none⟩) n cap, .int .i64 (g : Int)], .int .i64 0, .int .i64 0]) ∧ w'.ownsRow w.heap.size 34 10 (.slice (some ⟨q, 0, none⟩) n cap) n (nodsL ns) ∧ Below w.heap.size w w' ∧ n ≤ cap ∧ cap ≤ maxLen := h
theorem le_alloc (w : World) (o : Obj) : w.heap.size ≤ (w.alloc o).heap.size := by rw [sizeA']; omega
end Go.Proofs.Ytnfbgpjadnlgbab
