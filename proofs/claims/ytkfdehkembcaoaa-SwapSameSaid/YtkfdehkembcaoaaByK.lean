/- Contracts of package bytes in the words of Byt: IndexByte, Count of one byte, CutSuffix of one byte, Clone. -/
import Derived.Test.YtkfdehkembcaoaaProg
import Derived.Test.YtkfdehkembcaoaaApp
import Derived.Test.YtkfdehkembcaoaaShelf
import Derived.Lib.Hide
import Derived.Lib.Bytes
set_option maxRecDepth 100000
namespace Go.Proofs.Ytkfdehkembcaoaa
open Go.RowKit

def ints (l : List UInt8) : List Int := l.map fun c => (c.toNat : Int)
theorem ints_len (l : List UInt8) : (ints l).length = l.length := by simp [ints]
theorem ints_bytes (l : List UInt8) : Lib.bytesOf (ints l) = l := by
  unfold Lib.bytesOf ints; rw [List.map_map]
  have : ((fun n : Int => UInt8.ofNat n.toNat) ∘ fun c : UInt8 => (c.toNat : Int)) = id := by funext c; simp
  rw [this, List.map_id]
theorem ints_bv (l : List UInt8) : (ints l).map (Value.int .u8) = bv l := by simp [ints, bv]
theorem Byt.cells {w : World} {B : Nat} {a : Addr} {l : List UInt8} (h : Byt w B (some a) l) : ∀ i, i < l.length → w.cell? (a.add i) = some (.int .u8 ((ints l).getD i 0)) := by
  intro i hi
  obtain ⟨ad, hA, _, hc⟩ := h.at_ hi
  injection hA with hA
  subst hA
  rw [hc]
  simp [ints, List.getD, hi]
theorem Byt.none_nil {w : World} {B : Nat} {l : List UInt8} (h : Byt w B none l) : l = [] := by
  cases l with
  | nil => rfl
  | cons x r => obtain ⟨ad, h, _⟩ := h.at_ (k := 0) (by simp); cases h
theorem u8_nat (x : UInt8) : ((x.toNat : Nat) : Int).toNat.toUInt8 = x := by simp




end Go.Proofs.Ytkfdehkembcaoaa
