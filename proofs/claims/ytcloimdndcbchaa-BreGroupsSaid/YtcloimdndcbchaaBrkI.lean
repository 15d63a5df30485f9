/- What is handed to package brack; contracts: begins, joins. -/
import Derived.Test.YtcloimdndcbchaaBrkA
import Derived.Test.YtcloimdndcbchaaByK
import Derived.Test.YtcloimdndcbchaaClsJ
import Derived.Lib.SlBytesConst
import Derived.Lib.ConvBytes
import Derived.Deep.RegionHeld3
import Derived.Deep.RegionWith
set_option maxRecDepth 100000
namespace Go.Proofs.Ytcloimdndcbchaa
open Go.RowKit

/-- A slice that holds the bytes l; and internal/bytealg.MaxLen holds some number. -/
def Inp (w : World) (A : Option Addr) (n c : Nat) (l : List UInt8) : Prop :=
  n = l.length ∧ n ≤ c ∧ c ≤ maxLen ∧ n ≤ 100000 ∧ Byt w w.heap.size A l ∧ ∃ m : Int, 0 < w.heap.size ∧ w.cell? ⟨0, 0, none⟩ = some (.int .i64 m)
section
variable {w w' : World} {A : Option Addr} {n c : Nat} {l : List UInt8}
theorem Inp.grow (h : Inp w A n c l) (hb : Below w.heap.size w w') : Inp w' A n c l := by
  obtain ⟨h1, h2, h3, h4, h5, m, h6, h7⟩ := h
  exact ⟨h1, h2, h3, h4, (h5.below hb).more hb.size, m, Nat.lt_of_lt_of_le h6 hb.size, (hb.cell (p := ⟨0, 0, none⟩) h6).trans h7⟩
theorem Inp.alloc (h : Inp w A n c l) (o : Obj) : Inp (w.alloc o) A n c l := h.grow ((Below.refl _ _).alloc (Nat.le_refl _) _)
theorem Inp.cut (h : Inp w A n c l) {i j : Nat} (hj : j ≤ n) (hi : i ≤ j) : Inp w (if c = i then A else A.map (·.add i)) (j - i) (c - i) ((l.take j).drop i) := by
  obtain ⟨h1, h2, h3, h4, h5, h6⟩ := h
  exact ⟨by rw [List.length_drop, List.length_take]; omega, by omega, by omega, by omega, h5.cut (by omega) (by omega), h6⟩
theorem Inp.drop (h : Inp w A n c l) {i : Nat} (hi : i ≤ n) : Inp w (if c = i then A else A.map (·.add i)) (n - i) (c - i) (l.drop i) := by
  have := h.cut (Nat.le_refl n) hi
  rwa [List.take_of_length_le (by have := h.1; omega)] at this
end

theorem conv_bytes (w : World) (s : ByteArray) : ∃ cp w1, (convert 9 24 (.string s)).run Try.prog w = .ok (.slice (some ⟨w.heap.size, 0, none⟩) s.size cp) w1 ∧ Byt w1 w1.heap.size (some ⟨w.heap.size, 0, none⟩) s.data.toList ∧ Below w.heap.size w w1 ∧ s.size ≤ cp := by
  refine ⟨_, _, Lib.run_convert_string_bytes (P := Try.prog) w 9 24 5 s Try.underlying9 Try.underlying24 Try.underlying5, fun k hk => ?_, ⟨rfl, rfl, rfl, by rw [Lib.bytesWorld_size]; omega, fun k hk => Lib.bytesWorld_at_old _ _ _ _ hk⟩, grownCap_ge _ _ _ _⟩
  refine ⟨_, rfl, by rw [Lib.bytesWorld_size]; exact Nat.lt_succ_self _, ?_⟩
  rw [add_zero_off, Lib.bytesWorld_cell _ _ _ _ (by rw [len_toList] at hk; exact hk)]
  simp [List.getD, List.getElem?_eq_getElem hk]
theorem Byt.bytesIn' {w : World} {B : Nat} {A : Option Addr} {l : List UInt8} (h : Byt w B A l) : Lib.BytesIn w A l.length (ints l) := by
  cases A with
  | none => obtain rfl := h.none_nil; exact Lib.BytesIn.nil _ _ _
  | some a => exact Lib.BytesIn.of_cells h.cells
theorem hasPrefix_any (A A2 : Option Addr) (n c m d : Nat) (l s : List UInt8) (B B2 : Nat) (w : World) (hn : n = l.length) (hnc : n ≤ c) (hm : m = s.length) (h : Byt w B A l) (h2 : Byt w B2 A2 s) :
    Calls Try.prog 33 #[.slice A n c, .slice A2 m d] w fun e w' => e = .returned (.bool (bg s l)) ∧ w = w' := by
  subst hn
  subst hm
  refine (Try.bytes_HasPrefix_all A A2 l.length c s.length d (ints l) (ints s) w (ints_len l) (ints_len s) hnc h.bytesIn' h2.bytesIn').mono fun e w' ⟨he, hw⟩ => ⟨?_, hw.symm⟩
  rw [he, ints_bytes, ints_bytes]; rfl

set_option maxRecDepth 100000 in
theorem begins_any (A : Option Addr) (n c : Nat) (l : List UInt8) (s : ByteArray) (w : World) (h : Inp w A n c l) :
    Calls Try.prog 59 #[.slice A n c, .string s] w fun e w' => e = .returned (.bool (bg s.data.toList l)) ∧ Below w.heap.size w w' := by
  obtain ⟨h1, h2, h3, h4, h5, h6⟩ := h
  obtain ⟨cp, w1, hcv, hs1, hb1, _⟩ := conv_bytes w s
  have hP := Lib.hid (hasPrefix_any A (some ⟨w.heap.size, 0, none⟩) n c s.size cp l s.data.toList _ _ w1 h1 h2 (len_toList s).symm (h5.below hb1) hs1)
  have hb1' := Lib.hid hb1
  clear h1 h2 h3 h4 h5 h6 hs1 hb1
  go_enter Try.func59, Try.ntmps59
  go_wp2_with (go_at_call 33; refine (hP.out).mono ?_; rintro e w' ⟨rfl, rfl⟩)
  go_ret
  exact ⟨rfl, hb1'.out⟩
end Go.Proofs.Ytcloimdndcbchaa
