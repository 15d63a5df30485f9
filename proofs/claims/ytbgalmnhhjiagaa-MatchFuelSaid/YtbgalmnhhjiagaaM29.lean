/- Contracts of package match: isNone, betterGroup. The library's contracts at this translation, each one application of a theorem of the kit. Contracts of package bytes in the words of Byt: IndexByte, Count of one byte, CutSuffix of one byte, Clone. -/
import Derived.Test.YtbgalmnhhjiagaaM28
import Derived.Deep.RegionHeld3
import Derived.Deep.RegionWith
import Derived.BigQuiet
import Derived.Shelf.Bytes.SlSearch0
import Derived.Shelf.Bytes.SlSmallAll
import Derived.Shelf.Bytes.SlEqualAll
import Derived.Shelf.Bytes.Small
import Derived.Test.YtbgalmnhhjiagaaProg
import Derived.Test.YtbgalmnhhjiagaaM09
import Derived.Lib.Hide
import Derived.Lib.Bytes
set_option linter.unusedVariables false
set_option maxRecDepth 100000
namespace Go.Proofs.Ytbgalmnhhjiagaa
open Go.RowKit

set_option maxHeartbeats 2000000 in
theorem isNone_any (x y : Int) (w : World) : Calls Try.prog 46 #[.agg #[.int .i64 x, .int .i64 y]] w fun e w' => e = .returned (.bool (decide (x < 0))) ∧ Below w.heap.size w w' := by
  go_enter Try.func46, Try.ntmps46
  go_wp2
  go_ret
  exact ⟨rfl, (Below.refl _ _).alloc (Nat.le_refl _) _⟩
theorem held2 {w : World} {g : Nat} {t : TypeId} {x y : Value} (h : Held w g t #[x, y]) : w.cell? ⟨g, 0, none⟩ = some x ∧ w.cell? ⟨g, 1, none⟩ = some y := ⟨h.at_ rfl, h.at_ rfl⟩
set_option maxHeartbeats 8000000 in
theorem betterGroup_any (x y : Int × Int) (w : World) : Calls Try.prog 44 #[spnV x, spnV y] w fun e w' => e = .returned (.bool (betS x y)) ∧ Below w.heap.size w w' := by
  obtain ⟨x1, x2⟩ := x
  obtain ⟨y1, y2⟩ := y
  unfold betS spnV
  dsimp only
  have hA := Lib.hid (held_new w 28 #[.int .i64 x1, .int .i64 x2])
  have hB := Lib.hid (held_new2 w (.cells #[.int .i64 x1, .int .i64 x2] 28) 28 #[.int .i64 y1, .int .i64 y2])
  have hA' := Lib.hid (hA.out.alloc (.cells #[.int .i64 y1, .int .i64 y2] 28))
  have hb0 := Lib.hid (((Below.refl w.heap.size w).alloc (Nat.le_refl _) (.cells #[.int .i64 x1, .int .i64 x2] 28)).alloc (by simp) (.cells #[.int .i64 y1, .int .i64 y2] 28))
  by_cases h1 : x1 < 0
  · rw [if_pos h1]
    have d1 : decide (x1 < 0) = true := decide_eq_true h1
    have hN := Lib.hid (fun w => isNone_any x1 x2 w)
    rw [d1] at hN
    go_enter Try.func44, Try.ntmps44
    go_wp2_with (first
      | (have _h := hc1; go_at_call 46; refine (hN.out _).mono ?_; rintro e w2 ⟨rfl, hb2⟩; have hc2 := Lib.hid (hb1.out.trans (hb2.mono hb1.out.size)))
      | (go_at_call 46; refine (hN.out _).mono ?_; rintro e w1 ⟨rfl, hb1'⟩; have ⟨a0, a1⟩ := held2 (hA'.out.keep hb1'); have hb1 := Lib.hid (hb0.out.trans (hb1'.mono hb0.out.size)); have hc1 := hb1; clear hb1'))
    go_ret
    exact ⟨rfl, hc2.out⟩
  · rw [if_neg h1]
    have d1 : decide (x1 < 0) = false := decide_eq_false h1
    have hN := Lib.hid (fun w => isNone_any x1 x2 w)
    have hM := Lib.hid (fun w => isNone_any y1 y2 w)
    rw [d1] at hN
    by_cases h2 : y1 < 0
    · rw [if_pos h2]
      rw [show decide (y1 < 0) = true from decide_eq_true h2] at hM
      go_enter Try.func44, Try.ntmps44
      go_wp2_with (first
        | (have _h := hc2; go_at_call 46; refine (hN.out _).mono ?_; rintro e w3 ⟨rfl, hb3⟩; have hc3 := Lib.hid (hb2.out.trans (hb3.mono hb2.out.size)))
        | (have _h := hc1; go_at_call 46; refine (hM.out _).mono ?_; rintro e w2 ⟨rfl, hb2'⟩; have ⟨a0, a1⟩ := held2 (hA1.out.keep hb2'); have hb2 := Lib.hid (hb1.out.trans (hb2'.mono hb1.out.size)); have hc2 := hb2; clear hb2')
        | (go_at_call 46; refine (hN.out _).mono ?_; rintro e w1 ⟨rfl, hb1'⟩; have hA1 := Lib.hid (hA'.out.keep hb1'); have ⟨y0, y1⟩ := held2 (hB.out.keep hb1'); have hb1 := Lib.hid (hb0.out.trans (hb1'.mono hb0.out.size)); have hc1 := hb1; clear hb1'))
      go_ret
      exact ⟨rfl, hc3.out⟩
    · rw [if_neg h2]
      rw [show decide (y1 < 0) = false from decide_eq_false h2] at hM
      by_cases h3 : x1 = y1
      · subst h3
        rw [if_neg (by simp)]
        go_enter Try.func44, Try.ntmps44
        go_wp2_with (first
          | (have _h := hc1; go_at_call 46; refine (hM.out _).mono ?_; rintro e w2 ⟨rfl, hb2'⟩; have ⟨a0, a1⟩ := held2 (hA1.out.keep hb2'); have ⟨y0, y1⟩ := held2 (hB1.out.keep hb2'); have hb2 := Lib.hid (hb1.out.trans (hb2'.mono hb1.out.size)); clear hb2')
          | (go_at_call 46; refine (hN.out _).mono ?_; rintro e w1 ⟨rfl, hb1'⟩; have hA1 := Lib.hid (hA'.out.keep hb1'); have hB1 := Lib.hid (hB.out.keep hb1'); have ⟨y0, y1⟩ := held2 hB1.out; have hb1 := Lib.hid (hb0.out.trans (hb1'.mono hb0.out.size)); have hc1 := hb1; clear hb1'))
        go_ret
        exact ⟨rfl, hb2.out⟩
      · rw [if_pos h3]
        have d3 : (x1 != y1) = true := by rw [bne_iff_ne]; exact h3
        go_enter Try.func44, Try.ntmps44
        go_wp2_with (first
          | (have _h := hc1; go_at_call 46; refine (hM.out _).mono ?_; rintro e w2 ⟨rfl, hb2'⟩; have ⟨a0, a1⟩ := held2 (hA1.out.keep hb2'); have ⟨y0, y1⟩ := held2 (hB1.out.keep hb2'); have hb2 := Lib.hid (hb1.out.trans (hb2'.mono hb1.out.size)); clear hb2')
          | (go_at_call 46; refine (hN.out _).mono ?_; rintro e w1 ⟨rfl, hb1'⟩; have hA1 := Lib.hid (hA'.out.keep hb1'); have hB1 := Lib.hid (hB.out.keep hb1'); have ⟨y0, y1⟩ := held2 hB1.out; have hb1 := Lib.hid (hb0.out.trans (hb1'.mono hb0.out.size)); have hc1 := hb1; clear hb1'))
        go_ret
        exact ⟨rfl, hb2.out⟩
end Go.Proofs.Ytbgalmnhhjiagaa

namespace Go.Proofs
open Go.Shelf
def Try.lays115_ren : Go.Shelf.Ren := ⟨fun | 115 => 49 | n => n, fun | 37 => 25 | 4 => 4 | 9 => 9 | 5 => 5 | n => n, fun | n => n⟩
theorem Try.lays115 : Go.Proofs.Lays.n115 Try.prog Try.lays115_ren := {
  mixed := by kernel_rfl
  f115 := Try.func49.trans (congrArg some (by kernel_rfl))
  t4 := Try.underlying4
  a4 := Try.isAgg4
  z4 := Try.sizeOf4
  v4 := Try.zeroValue4
  t9 := Try.underlying9
  a9 := Try.isAgg9
  z9 := Try.sizeOf9
  v9 := Try.zeroValue9
  t37 := Try.underlying25
  a37 := Try.isAgg25
  z37 := Try.sizeOf25
  v37 := Try.zeroValue25 }
open Go.Proofs Go.RowKit Go.Lib in
theorem Try.bytes_Equal_strs (v1 v2 : Value) (t1 t2 : ByteArray) (w : World) (h1 : (convert 25 9 v1).run Try.prog w = .ok (.string t1) w) (h2 : (convert 25 9 v2).run Try.prog w = .ok (.string t2) w) :
    Calls Try.prog 49 #[v1, v2] w fun e w' => e = .returned (.bool (t1.toList == t2.toList)) ∧ w' = w := Any.bytes_Equal_strs Try.lays115 v1 v2 t1 t2 w h1 h2
def Try.laysnb116_ren : Go.Shelf.Ren := ⟨fun | 116 => 47 | 115 => 49 | n => n, fun | 37 => 25 | 4 => 4 | 3 => 3 | 9 => 9 | 5 => 5 | n => n, fun | n => n⟩
theorem Try.laysnb116 : Go.Proofs.Lays.nb116 Try.prog Try.laysnb116_ren := {
  mixed := by kernel_rfl
  f115 := Try.func49.trans (congrArg some (by kernel_rfl))
  f116 := Try.func47.trans (congrArg some (by kernel_rfl))
  t3 := Try.underlying3
  a3 := Try.isAgg3
  z3 := Try.sizeOf3
  v3 := Try.zeroValue3
  t4 := Try.underlying4
  a4 := Try.isAgg4
  z4 := Try.sizeOf4
  v4 := Try.zeroValue4
  t9 := Try.underlying9
  a9 := Try.isAgg9
  z9 := Try.sizeOf9
  v9 := Try.zeroValue9
  t37 := Try.underlying25
  a37 := Try.isAgg25
  z37 := Try.sizeOf25
  v37 := Try.zeroValue25
  t5 := Try.underlying5
  a5 := Try.isAgg5
  z5 := Try.sizeOf5
  v5 := Try.zeroValue5 }
theorem Try.bytes_HasPrefix_e2 (p1 p2 : Option Addr) (n c d : Nat) (w : World) :
    Calls Try.prog 47 #[.slice p1 n c, .slice p2 0 d] w fun e w' => e = .returned (.bool true) ∧ w' = w := Any.bytes_HasPrefix_e2 Try.laysnb116 p1 p2 n c d w
theorem Try.bytes_HasPrefix_e1 (p1 p2 : Option Addr) (c m d : Nat) (hm : 0 < m) (w : World) :
    Calls Try.prog 47 #[.slice p1 0 c, .slice p2 m d] w fun e w' => e = .returned (.bool false) ∧ w' = w := Any.bytes_HasPrefix_e1 Try.laysnb116 p1 p2 c m d hm w
theorem Try.bytes_HasPrefix_all (p1 p2 : Option Addr) (n c m d : Nat) (xs ys : List Int) (w : World) (hx : xs.length = n) (hy : ys.length = m) (hnc : n ≤ c) (h1 : Lib.BytesIn w p1 n xs) (h2 : Lib.BytesIn w p2 m ys) :
    Calls Try.prog 47 #[.slice p1 n c, .slice p2 m d] w fun e w' => e = .returned (.bool (Lib.hasPrefix (Lib.bytesOf xs) (Lib.bytesOf ys))) ∧ w' = w := Any.bytes_HasPrefix_all Try.laysnb116 p1 p2 n c m d xs ys w hx hy hnc h1 h2
def Try.laysnb115_ren : Go.Shelf.Ren := ⟨fun | 115 => 49 | n => n, fun | 37 => 25 | 4 => 4 | 9 => 9 | 5 => 5 | n => n, fun | n => n⟩
theorem Try.laysnb115 : Go.Proofs.Lays.nb115 Try.prog Try.laysnb115_ren := {
  mixed := by kernel_rfl
  f115 := Try.func49.trans (congrArg some (by kernel_rfl))
  t4 := Try.underlying4
  a4 := Try.isAgg4
  z4 := Try.sizeOf4
  v4 := Try.zeroValue4
  t9 := Try.underlying9
  a9 := Try.isAgg9
  z9 := Try.sizeOf9
  v9 := Try.zeroValue9
  t37 := Try.underlying25
  a37 := Try.isAgg25
  z37 := Try.sizeOf25
  v37 := Try.zeroValue25
  t5 := Try.underlying5
  a5 := Try.isAgg5
  z5 := Try.sizeOf5
  v5 := Try.zeroValue5 }
theorem Try.bytes_Equal_all (p1 p2 : Option Addr) (n c m d : Nat) (xs ys : List Int) (w : World) (hx : xs.length = n) (hy : ys.length = m) (h1 : Lib.BytesIn w p1 n xs) (h2 : Lib.BytesIn w p2 m ys) :
    Calls Try.prog 49 #[.slice p1 n c, .slice p2 m d] w fun e w' => e = .returned (.bool (Lib.bytesOf xs == Lib.bytesOf ys)) ∧ w' = w := Any.bytes_Equal_all Try.laysnb115 p1 p2 n c m d xs ys w hx hy h1 h2
theorem Try.bytes_Equal (v1 v2 : Value) (xs ys : List Int) (w : World) (h1 : (convert 25 9 v1).run Try.prog w = .ok (.string (strOfNums xs)) w) (h2 : (convert 25 9 v2).run Try.prog w = .ok (.string (strOfNums ys)) w) :
    Calls Try.prog 49 #[v1, v2] w fun e w' => e = .returned (.bool (Lib.bytesOf xs == Lib.bytesOf ys)) ∧ w' = w := Any.bytes_Equal Try.lays115 v1 v2 xs ys w h1 h2
theorem Try.bytes_HasPrefix (b1 o1 n c b2 o2 m d : Nat) (xs ys : List Int) (w : World) (hx : xs.length = n) (hy : ys.length = m) (hnc : n ≤ c) (hc1 : ∀ i, i < n → w.cell? ⟨b1, o1 + i, none⟩ = some (.int .u8 (xs.getD i 0))) (hc2 : ∀ i, i < m → w.cell? ⟨b2, o2 + i, none⟩ = some (.int .u8 (ys.getD i 0))) :
    Calls Try.prog 47 #[.slice (some ⟨b1, o1, none⟩) n c, .slice (some ⟨b2, o2, none⟩) m d] w fun e w' => e = .returned (.bool (Lib.hasPrefix (Lib.bytesOf xs) (Lib.bytesOf ys))) ∧ w' = w := Any.bytes_HasPrefix Try.laysnb116 b1 o1 n c b2 o2 m d xs ys w hx hy hnc hc1 hc2
end Go.Proofs

set_option maxRecDepth 100000
namespace Go.Proofs.Ytbgalmnhhjiagaa
open Go.RowKit

def ints (l : List UInt8) : List Int := l.map fun c => (c.toNat : Int)
theorem ints_len (l : List UInt8) : (ints l).length = l.length := by simp [ints]
theorem ints_bytes (l : List UInt8) : Lib.bytesOf (ints l) = l := by
  unfold Lib.bytesOf ints; rw [List.map_map]
  have : ((fun n : Int => UInt8.ofNat n.toNat) ∘ fun c : UInt8 => (c.toNat : Int)) = id := by funext c; simp
  rw [this, List.map_id]
theorem ints_bv (l : List UInt8) : (ints l).map (Value.int .u8) = bv l := by simp [ints, bv]
theorem Byt.cells {w : World} {B : Nat} {a : Addr} {l : List UInt8} (h : Byt w B (some a) l) : ∀ i, i < l.length → w.cell? (a.add i) = some (.int .u8 ((ints l).getD i 0)) := by
  intro i hi
  obtain ⟨ad, hA, _, hc⟩ := h.at_ hi
  injection hA with hA
  subst hA
  rw [hc]
  simp [ints, List.getD, hi]
theorem Byt.none_nil {w : World} {B : Nat} {l : List UInt8} (h : Byt w B none l) : l = [] := by
  cases l with
  | nil => rfl
  | cons x r => obtain ⟨ad, h, _⟩ := h.at_ (k := 0) (by simp); cases h
theorem u8_nat (x : UInt8) : ((x.toNat : Nat) : Int).toNat.toUInt8 = x := by simp




end Go.Proofs.Ytbgalmnhhjiagaa
