/- Contracts of package bytes in the words of Byt: IndexByte, Count of one byte, CutSuffix of one byte, Clone. -/
import Derived.Test.YtdmbjhgfiofbhaaProg
import Derived.Test.YtdmbjhgfiofbhaaApp
import Derived.Test.YtdmbjhgfiofbhaaShelf
import Derived.Lib.Hide
namespace Go.Proofs.Ytdmbjhgfiofbhaa
open Go.RowKit

def ints (l : List UInt8) : List Int := l.map fun c => (c.toNat : Int)
theorem ints_len (l : List UInt8) : (ints l).length = l.length := by simp [ints]
theorem ints_bytes (l : List UInt8) : Lib.bytesOf (ints l) = l := by
  unfold Lib.bytesOf ints; rw [List.map_map]
  have : ((fun n : Int => UInt8.ofNat n.toNat) ∘ fun c : UInt8 => (c.toNat : Int)) = id := by funext c; simp
  rw [this, List.map_id]
theorem ints_bv (l : List UInt8) : (ints l).map (Value.int .u8) = bv l := by simp [ints, bv]
theorem Byt.cells {w : World} {B : Nat} {a : Addr} {l : List UInt8} (h : Byt w B (some a) l) : ∀ i, i < l.length → w.cell? (a.add i) = some (.int .u8 ((ints l).getD i 0)) := by
  intro i hi
  obtain ⟨ad, hA, _, hc⟩ := h.at_ hi
  injection hA with hA
  subst hA
  rw [hc]
  simp [ints, List.getD, hi]
theorem Byt.none_nil {w : World} {B : Nat} {l : List UInt8} (h : Byt w B none l) : l = [] := by
  cases l with
  | nil => rfl
  | cons x r => obtain ⟨ad, h, _⟩ := h.at_ (k := 0) (by simp); cases h
theorem u8_nat (x : UInt8) : ((x.toNat : Nat) : Int).toNat.toUInt8 = x := by simp

theorem indexByte_any (A : Option Addr) (n c : Nat) (l : List UInt8) (x : UInt8) (B : Nat) (w : World) (hn : n = l.length) (h : Byt w B A l) :
    Calls Try.prog 20 #[.slice A n c, .int .u8 (x.toNat : Int)] w fun e w' => e = .returned (.int .i64 (Lib.indexByte l x)) ∧ w = w' := by
  subst hn
  cases A with
  | none =>
    obtain rfl := h.none_nil
    go_enter Try.func20, Try.ntmps20
    go_wp2
    rw [run_callFunc_extern Try.func25 (by kernel_rfl) (by kernel_rfl) (by kernel_rfl) (e := Extern.BytealgIndexByte.indexByte) (by kernel_rfl), Lib.run_indexByteNil w _ c _]
    simp only [Result.andThen]
    rw [Oper.upon_value]
    go_wp2
    go_ret
    exact ⟨rfl, rfl⟩
  | some a =>
    refine (Try.bytes_IndexByte_at a l.length c (ints l) x.toNat w (ints_len l) h.cells).mono fun e w' ⟨he, hw⟩ => ⟨?_, hw.symm⟩
    rw [he, ints_bytes, u8_nat]

theorem countOne_any (A : Option Addr) (n c b2 o2 d : Nat) (l : List UInt8) (x : UInt8) (B : Nat) (w : World) (hn : n = l.length) (h : Byt w B A l) (hc2 : w.cell? ⟨b2, o2, none⟩ = some (.int .u8 (x.toNat : Int))) :
    Calls Try.prog 17 #[.slice A n c, .slice (some ⟨b2, o2, none⟩) 1 d] w fun e w' => e = .returned (.int .i64 ((l.count x : Nat) : Int)) ∧ w = w' := by
  subst hn
  cases A with
  | none =>
    obtain rfl := h.none_nil
    go_enter Try.func17, Try.ntmps17
    go_wp2
    rw [run_callFunc_extern Try.func22 (by kernel_rfl) (by kernel_rfl) (by kernel_rfl) (e := Extern.BytealgCount.count) (by kernel_rfl), Lib.run_countNil w _ c _]
    simp only [Result.andThen]
    rw [Oper.upon_value]
    go_wp2
    go_ret
    exact ⟨rfl, rfl⟩
  | some a =>
    refine (Try.bytes_Count_one_at a l.length c b2 o2 d (ints l) x.toNat w (ints_len l) h.cells hc2).mono fun e w' ⟨he, hw⟩ => ⟨?_, hw.symm⟩
    rw [he, ints_bytes, u8_nat]; rfl

theorem clone_any (A : Option Addr) (n c : Nat) (l : List UInt8) (B : Nat) (w : World) (hn : n = l.length) (hbig : n ≤ 140737488355328) (h : Byt w B A l) :
    Calls Try.prog 19 #[.slice A n c] w fun e w' => ∃ v', e = .returned v' ∧ w'.ownsRow w.heap.size 5 1 v' n (bv l) ∧ Below w.heap.size w w' := by
  subst hn
  cases A with
  | none =>
    obtain rfl := h.none_nil
    exact (Try.bytes_Clone_nil _ c w).mono fun e w' ⟨he, hw⟩ => ⟨_, he, World.ownsRow_nil _ _ _ _, hw ▸ Below.refl _ _⟩
  | some a =>
    refine (Try.bytes_Clone_at a l.length c (ints l) w (ints_len l) hbig h.cells).mono fun e w' ⟨v', he, ho, _, hb⟩ => ⟨v', he, ?_, hb⟩
    rw [← ints_bv]; exact ho

theorem Byt.bytesIn {w : World} {B : Nat} {A : Option Addr} {l : List UInt8} (h : Byt w B A l) : Lib.BytesIn w A l.length (ints l) := by
  cases A with
  | none => obtain rfl := h.none_nil; exact Lib.BytesIn.nil _ _ _
  | some a => exact Lib.BytesIn.of_cells h.cells
theorem suffix_one (l : List UInt8) (x : UInt8) : Lib.hasSuffix l [x] = (l.getLast? == some x) := by
  unfold Lib.hasSuffix
  rw [Bool.eq_iff_iff, List.isSuffixOf_iff_suffix, beq_iff_eq]
  constructor
  · rintro ⟨t, rfl⟩; simp
  · intro h
    obtain ⟨ys, rfl⟩ := List.getLast?_eq_some_iff.1 h
    exact ⟨ys, rfl⟩
theorem cutSuffix_any (A : Option Addr) (n c b2 o2 d : Nat) (l : List UInt8) (x : UInt8) (B : Nat) (w : World) (hn : n = l.length) (hnc : n ≤ c) (hbig : n ≤ 9223372036854775807) (h : Byt w B A l) (hc2 : w.cell? ⟨b2, o2, none⟩ = some (.int .u8 (x.toNat : Int))) :
    Calls Try.prog 18 #[.slice A n c, .slice (some ⟨b2, o2, none⟩) 1 d] w fun e w' => e = .returned (.tuple #[.slice A (if l.getLast? = some x then n - 1 else n) c, .bool (l.getLast? == some x)]) ∧ w = w' := by
  subst hn
  have h2 : Lib.BytesIn w (some ⟨b2, o2, none⟩) 1 (ints [x]) := by
    intro _
    refine ⟨b2, o2, rfl, fun i hi => ?_⟩
    obtain rfl : i = 0 := by omega
    rw [Nat.add_zero, hc2]; rfl
  have h1 := h.bytesIn
  refine (Try.bytes_CutSuffix_all A (some ⟨b2, o2, none⟩) l.length c 1 d (ints l) (ints [x]) w (ints_len l) rfl hnc hbig h1 h2).mono fun e w' ⟨he, hw⟩ => ⟨?_, hw.symm⟩
  rw [he, ints_bytes, ints_bytes, suffix_one]
  have e : Lib.trimSuffixV A l.length c (ints l) (ints [x]) = .slice A (if l.getLast? = some x then l.length - 1 else l.length) c := by
    cases hl : l with
    | nil =>
      unfold Lib.trimSuffixV
      split
      · simp [Lib.bytesTrimSuffix, ints, Lib.bytesOf, Lib.hasSuffix, List.isSuffixOf]
      · rfl
    | cons y r =>
      obtain ⟨b, o, hA, _⟩ := h1 (by rw [hl]; simp)
      rw [hA, ← hl]
      have hx : ints [x] = [(x.toNat : Int)] := rfl
      unfold Lib.trimSuffixV
      rw [hx]
      simp only [Lib.bytesTrimSuffix]
      rw [← hx, ints_bytes, ints_bytes, suffix_one]
      by_cases hg : l.getLast? = some x
      · simp [hg, Lib.sliceTo, hx]
      · simp [hg]
  rw [e]
end Go.Proofs.Ytdmbjhgfiofbhaa
