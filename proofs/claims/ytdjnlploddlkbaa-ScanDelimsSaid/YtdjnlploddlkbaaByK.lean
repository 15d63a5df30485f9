/- Contracts of package bytes in the words of Byt: IndexByte, Count of one byte, CutSuffix of one byte, Clone. -/
import Derived.Test.YtdjnlploddlkbaaProg
import Derived.Test.YtdjnlploddlkbaaApp
import Derived.Test.YtdjnlploddlkbaaShelf
import Derived.Lib.Hide
import Derived.Lib.Bytes
set_option maxRecDepth 100000
namespace Go.Proofs.Ytdjnlploddlkbaa
open Go.RowKit

def ints (l : List UInt8) : List Int := l.map fun c => (c.toNat : Int)
theorem ints_len (l : List UInt8) : (ints l).length = l.length := by simp [ints]
theorem ints_bytes (l : List UInt8) : Lib.bytesOf (ints l) = l := by
  unfold Lib.bytesOf ints; rw [List.map_map]
  have : ((fun n : Int => UInt8.ofNat n.toNat) ∘ fun c : UInt8 => (c.toNat : Int)) = id := by funext c; simp
  rw [this, List.map_id]
theorem ints_bv (l : List UInt8) : (ints l).map (Value.int .u8) = bv l := by simp [ints, bv]
theorem Byt.cells {w : World} {B : Nat} {a : Addr} {l : List UInt8} (h : Byt w B (some a) l) : ∀ i, i < l.length → w.cell? (a.add i) = some (.int .u8 ((ints l).getD i 0)) := by
  intro i hi
  obtain ⟨ad, hA, _, hc⟩ := h.at_ hi
  injection hA with hA
  subst hA
  rw [hc]
  simp [ints, List.getD, hi]
theorem Byt.none_nil {w : World} {B : Nat} {l : List UInt8} (h : Byt w B none l) : l = [] := by
  cases l with
  | nil => rfl
  | cons x r => obtain ⟨ad, h, _⟩ := h.at_ (k := 0) (by simp); cases h
theorem u8_nat (x : UInt8) : ((x.toNat : Nat) : Int).toNat.toUInt8 = x := by simp

theorem indexByte_any (A : Option Addr) (n c : Nat) (l : List UInt8) (x : UInt8) (B : Nat) (w : World) (hn : n = l.length) (h : Byt w B A l) :
    Calls Try.prog 35 #[.slice A n c, .int .u8 (x.toNat : Int)] w fun e w' => e = .returned (.int .i64 (Lib.indexByte l x)) ∧ w = w' := by
  subst hn
  cases A with
  | none =>
    obtain rfl := h.none_nil
    go_enter Try.func35, Try.ntmps35
    go_wp2
    rw [run_callFunc_extern Try.func49 (by kernel_rfl) (by kernel_rfl) (by kernel_rfl) (e := Extern.BytealgIndexByte.indexByte) (by kernel_rfl), Lib.run_indexByteNil w _ c _]
    simp only [Result.andThen]
    rw [Oper.upon_value]
    go_wp2
    go_ret
    exact ⟨rfl, rfl⟩
  | some a =>
    refine (Try.bytes_IndexByte_at a l.length c (ints l) x.toNat w (ints_len l) h.cells).mono fun e w' ⟨he, hw⟩ => ⟨?_, hw.symm⟩
    rw [he, ints_bytes, u8_nat]


theorem clone_any (A : Option Addr) (n c : Nat) (l : List UInt8) (B : Nat) (w : World) (hn : n = l.length) (hbig : n ≤ 140737488355328) (h : Byt w B A l) :
    Calls Try.prog 23 #[.slice A n c] w fun e w' => ∃ v', e = .returned v' ∧ w'.ownsRow w.heap.size 5 1 v' n (bv l) ∧ Below w.heap.size w w' := by
  subst hn
  cases A with
  | none =>
    obtain rfl := h.none_nil
    exact (Try.bytes_Clone_nil _ c w).mono fun e w' ⟨he, hw⟩ => ⟨_, he, World.ownsRow_nil _ _ _ _, hw ▸ Below.refl _ _⟩
  | some a =>
    refine (Try.bytes_Clone_at a l.length c (ints l) w (ints_len l) hbig h.cells).mono fun e w' ⟨v', he, ho, _, hb⟩ => ⟨v', he, ?_, hb⟩
    rw [← ints_bv]; exact ho

end Go.Proofs.Ytdjnlploddlkbaa
