/- What is handed to package brack; contracts: begins, joins. Contracts of package brack: joins, between, lone. -/
import Derived.Test.YtnfbgpjadnlgbabM18
import Derived.Test.YtnfbgpjadnlgbabM25
import Derived.Test.YtnfbgpjadnlgbabM27
import Derived.Lib.SlBytesConst
import Derived.Lib.ConvBytes
import Derived.Deep.RegionHeld3
import Derived.Deep.RegionWith
set_option maxRecDepth 100000
namespace Go.Proofs.Ytnfbgpjadnlgbab
open Go.RowKit

/-- A slice that holds the bytes l; and internal/bytealg.MaxLen holds some number. -/
def Inp (w : World) (A : Option Addr) (n c : Nat) (l : List UInt8) : Prop :=
  n = l.length ∧ n ≤ c ∧ c ≤ maxLen ∧ n ≤ 100000 ∧ Byt w w.heap.size A l ∧ ∃ m : Int, 0 < w.heap.size ∧ w.cell? ⟨0, 0, none⟩ = some (.int .i64 m)
section
variable {w w' : World} {A : Option Addr} {n c : Nat} {l : List UInt8}
theorem Inp.grow (h : Inp w A n c l) (hb : Below w.heap.size w w') : Inp w' A n c l := by
  obtain ⟨h1, h2, h3, h4, h5, m, h6, h7⟩ := h
  exact ⟨h1, h2, h3, h4, (h5.below hb).more hb.size, m, Nat.lt_of_lt_of_le h6 hb.size, (hb.cell (p := ⟨0, 0, none⟩) h6).trans h7⟩
theorem Inp.alloc (h : Inp w A n c l) (o : Obj) : Inp (w.alloc o) A n c l := h.grow ((Below.refl _ _).alloc (Nat.le_refl _) _)
theorem Inp.cut (h : Inp w A n c l) {i j : Nat} (hj : j ≤ n) (hi : i ≤ j) : Inp w (if c = i then A else A.map (·.add i)) (j - i) (c - i) ((l.take j).drop i) := by
  obtain ⟨h1, h2, h3, h4, h5, h6⟩ := h
  exact ⟨by rw [List.length_drop, List.length_take]; omega, by omega, by omega, by omega, h5.cut (by omega) (by omega), h6⟩
theorem Inp.drop (h : Inp w A n c l) {i : Nat} (hi : i ≤ n) : Inp w (if c = i then A else A.map (·.add i)) (n - i) (c - i) (l.drop i) := by
  have := h.cut (Nat.le_refl n) hi
  rwa [List.take_of_length_le (by have := h.1; omega)] at this
end

theorem conv_bytes (w : World) (s : ByteArray) : ∃ cp w1, (convert 9 22 (.string s)).run Try.prog w = .ok (.slice (some ⟨w.heap.size, 0, none⟩) s.size cp) w1 ∧ Byt w1 w1.heap.size (some ⟨w.heap.size, 0, none⟩) s.data.toList ∧ Below w.heap.size w w1 ∧ s.size ≤ cp := by
  refine ⟨_, _, Lib.run_convert_string_bytes (P := Try.prog) w 9 22 5 s Try.underlying9 Try.underlying22 Try.underlying5, fun k hk => ?_, ⟨rfl, rfl, rfl, by rw [Lib.bytesWorld_size]; omega, fun k hk => Lib.bytesWorld_at_old _ _ _ _ hk⟩, grownCap_ge _ _ _ _⟩
  refine ⟨_, rfl, by rw [Lib.bytesWorld_size]; exact Nat.lt_succ_self _, ?_⟩
  rw [add_zero_off, Lib.bytesWorld_cell _ _ _ _ (by rw [len_toList] at hk; exact hk)]
  simp [List.getD, List.getElem?_eq_getElem hk]
theorem Byt.bytesIn' {w : World} {B : Nat} {A : Option Addr} {l : List UInt8} (h : Byt w B A l) : Lib.BytesIn w A l.length (ints l) := by
  cases A with
  | none => obtain rfl := h.none_nil; exact Lib.BytesIn.nil _ _ _
  | some a => exact Lib.BytesIn.of_cells h.cells
theorem hasPrefix_any (A A2 : Option Addr) (n c m d : Nat) (l s : List UInt8) (B B2 : Nat) (w : World) (hn : n = l.length) (hnc : n ≤ c) (hm : m = s.length) (h : Byt w B A l) (h2 : Byt w B2 A2 s) :
    Calls Try.prog 47 #[.slice A n c, .slice A2 m d] w fun e w' => e = .returned (.bool (bg s l)) ∧ w = w' := by
  subst hn
  subst hm
  refine (Try.bytes_HasPrefix_all A A2 l.length c s.length d (ints l) (ints s) w (ints_len l) (ints_len s) hnc h.bytesIn' h2.bytesIn').mono fun e w' ⟨he, hw⟩ => ⟨?_, hw.symm⟩
  rw [he, ints_bytes, ints_bytes]; rfl

set_option maxRecDepth 100000 in
theorem begins_any (A : Option Addr) (n c : Nat) (l : List UInt8) (s : ByteArray) (w : World) (h : Inp w A n c l) :
    Calls Try.prog 66 #[.slice A n c, .string s] w fun e w' => e = .returned (.bool (bg s.data.toList l)) ∧ Below w.heap.size w w' := by
  obtain ⟨h1, h2, h3, h4, h5, h6⟩ := h
  obtain ⟨cp, w1, hcv, hs1, hb1, _⟩ := conv_bytes w s
  have hP := Lib.hid (hasPrefix_any A (some ⟨w.heap.size, 0, none⟩) n c s.size cp l s.data.toList _ _ w1 h1 h2 (len_toList s).symm (h5.below hb1) hs1)
  have hb1' := Lib.hid hb1
  clear h1 h2 h3 h4 h5 h6 hs1 hb1
  go_enter Try.func66, Try.ntmps66
  go_wp2_with (go_at_call 47; refine (hP.out).mono ?_; rintro e w' ⟨rfl, rfl⟩)
  go_ret
  exact ⟨rfl, hb1'.out⟩
end Go.Proofs.Ytnfbgpjadnlgbab

set_option maxRecDepth 100000
namespace Go.Proofs.Ytnfbgpjadnlgbab
open Go.RowKit

theorem begins_is {A : Option Addr} {n c : Nat} {l : List UInt8} {w : World} (h : Inp w A n c l) (s : ByteArray) (b : Bool) (hb : bg s.data.toList l = b) :
    Calls Try.prog 66 #[.slice A n c, .string s] w fun e w' => e = .returned (.bool b) ∧ Below w.heap.size w w' := by
  subst hb; exact begins_any A n c l s w h

set_option maxRecDepth 100000 in
theorem joins_any {A : Option Addr} {n c : Nat} {l : List UInt8} {w : World} (h : Inp w A n c l) :
    Calls Try.prog 82 #[.slice A n c] w fun e w' => e = .returned (.bool (joins l)) ∧ Below w.heap.size w w' := by
  have h' := Lib.hid h
  clear h
  unfold joins
  cases h1 : bg [45] l with
  | false =>
    replace h1 := Lib.hid h1
    go_enter Try.func82, Try.ntmps82
    go_wp2_with (go_at_call 66; with_reducible show Calls _ _ #[_, Value.string {data := #[45]}] _ _; refine (begins_is h'.out ⟨#[45]⟩ false h1.out).mono ?_; rintro e w1 ⟨rfl, hb1⟩)
    go_ret
    exact ⟨rfl, hb1⟩
  | true =>
    cases h2 : bg [45, 93] l with
    | false =>
      replace h1 := Lib.hid h1
      replace h2 := Lib.hid h2
      go_enter Try.func82, Try.ntmps82
      go_wp2_with (first
        | (go_at_call 66; with_reducible show Calls _ _ #[_, Value.string {data := #[45]}] _ _; refine (begins_is h'.out ⟨#[45]⟩ true h1.out).mono ?_; rintro e w1 ⟨rfl, hb1⟩)
        | (go_at_call 66; with_reducible show Calls _ _ #[_, Value.string {data := #[45, 93]}] _ _; refine (begins_is (h'.out.grow hb1) ⟨#[45, 93]⟩ false h2.out).mono ?_; rintro e w2 ⟨rfl, hb2⟩))
      go_ret
      exact ⟨rfl, hb1.trans (hb2.mono hb1.size)⟩
    | true =>
      replace h1 := Lib.hid h1
      replace h2 := Lib.hid h2
      go_enter Try.func82, Try.ntmps82
      go_wp2_with (first
        | (go_at_call 66; with_reducible show Calls _ _ #[_, Value.string {data := #[45]}] _ _; refine (begins_is h'.out ⟨#[45]⟩ true h1.out).mono ?_; rintro e w1 ⟨rfl, hb1⟩)
        | (go_at_call 66; with_reducible show Calls _ _ #[_, Value.string {data := #[45, 93]}] _ _; refine (begins_is (h'.out.grow hb1) ⟨#[45, 93]⟩ true h2.out).mono ?_; rintro e w2 ⟨rfl, hb2⟩))
      go_ret
      exact ⟨rfl, hb1.trans (hb2.mono hb1.size)⟩

/-- A place, or -1. -/
def idxV : Option Nat → Int
  | none => -1
  | some i => (i : Int)
theorem index_idx (sg : UInt8) (l : List UInt8) : Lib.index l [sg, 93] = idxV (betw sg l) := by
  rw [index_betw]
  cases betw sg l <;> rfl
theorem index_any (A : Option Addr) (n c : Nat) (l : List UInt8) (sg : UInt8) (p : Nat) (d : Nat) (w : World) (h : Inp w A n c l) (h0 : w.cell? ⟨p, 0, none⟩ = some (.int .u8 (sg.toNat : Int))) (h1 : w.cell? ⟨p, 1, none⟩ = some (.int .u8 93)) :
    Calls Try.prog 88 #[.slice A n c, .slice (some ⟨p, 0, none⟩) 2 d] w fun e w' => e = .returned (.int .i64 (idxV (betw sg l))) ∧ Below w.heap.size w w' := by
  obtain ⟨g1, g2, g3, g4, g5, m, g6, g7⟩ := h
  rw [← index_idx]
  subst g1
  have hI : ints [sg, 93] = [(sg.toNat : Int), 93] := rfl
  cases A with
  | none =>
    obtain rfl := g5.none_nil
    refine (Try.bytes_Index_longer none (some ⟨p, 0, none⟩) 0 c 2 d w (by decide) (by decide) (by decide)).mono fun e w' ⟨he, hw⟩ => ⟨he, hw ▸ Below.refl _ _⟩
  | some a =>
    refine (Try.bytes_Index_at a ⟨p, 0, none⟩ l.length c 2 d (ints l) (ints [sg, 93]) m w (ints_len l) (ints_len _) ?_ ?_ g5.cells ?_ g2 (by omega) (by decide) g7).mono fun e w' ⟨he, q, hw⟩ => ⟨?_, hw ▸ below_drewN (Below.refl _ _) _⟩
    · intro x hx
      obtain ⟨y, _, rfl⟩ := List.mem_map.1 hx
      have := y.toNat_lt
      omega
    · intro x hx
      obtain ⟨y, _, rfl⟩ := List.mem_map.1 hx
      have := y.toNat_lt
      omega
    · intro i hi
      rw [add_zero_off]
      match i, hi with
      | 0, _ => exact h0
      | 1, _ => exact h1
    · rw [he, ints_bytes, ints_bytes]

theorem Inp.some_ {w : World} {A : Option Addr} {n c : Nat} {l : List UInt8} (h : Inp w A n c l) (hl : 0 < l.length) : ∃ ad, A = some ad := by
  obtain ⟨ad, hA, _⟩ := h.2.2.2.2.1.at_ hl
  exact ⟨ad, hA⟩
theorem Inp.len {w : World} {A : Option Addr} {n c : Nat} {l : List UInt8} (h : Inp w A n c l) : n = l.length := h.1
theorem Inp.cell {w : World} {ad : Addr} {n c : Nat} {l : List UInt8} (h : Inp w (some ad) n c l) {k : Nat} {x : UInt8} (hx : l[k]? = some x) : w.cell? (ad.add k) = some (.int .u8 (x.toNat : Int)) ∧ ad.block < w.heap.size := by
  obtain ⟨hk, rfl⟩ := List.getElem?_eq_some_iff.1 hx
  obtain ⟨ad', hA, hb, hc⟩ := h.2.2.2.2.1.at_ hk
  obtain rfl := Option.some.inj hA
  exact ⟨hc, hb⟩
theorem add_succ (a : Addr) (i : Nat) : a.add (i + 1) = ⟨a.block, a.off + (i + 1), none⟩ := by unfold Addr.add; split <;> simp_all

/-- The call of Index in between. -/
theorem between_index {ad : Addr} {n c : Nat} {l : List UInt8} {w : World} (h : Inp w (some ad) n c l) (sg : UInt8) (h2 : 2 ≤ n) (x : Option Nat) (hb : betw sg (l.drop 2) = x) :
    Calls Try.prog 88 #[.slice (if c = 2 then some ad else some ⟨ad.block, ad.off + 2, none⟩) (n - 2) (c - 2), .slice (some ⟨w.heap.size, 0, none⟩) 2 2] (w.alloc (.cells #[.int .u8 (sg.toNat : Int), .int .u8 93] 5)).drew
      fun e w' => e = .returned (.int .i64 (idxV x)) ∧ Below w.heap.size w w' := by
  have hb1 : Below w.heap.size w (w.alloc (.cells #[.int .u8 (sg.toNat : Int), .int .u8 93] 5)).drew := ((Below.refl _ _).alloc (Nat.le_refl _) _).drew
  have hx := new_cells w [.int .u8 (sg.toNat : Int), .int .u8 93] 5
  have h0 := hx 0 _ rfl
  have h1 := hx 1 _ rfl
  rw [add_zero_off] at h0 h1
  subst hb
  have hd := (h.drop h2).grow hb1
  rw [Option.map_some, add_succ ad 1] at hd
  refine (index_any _ _ _ _ sg w.heap.size 2 _ hd h0 h1).mono fun e w' ⟨he, hw⟩ => ⟨he, hb1.trans (hw.mono hb1.size)⟩

set_option maxRecDepth 100000 in
set_option maxHeartbeats 2000000 in
theorem between_none {A : Option Addr} {n c : Nat} {l : List UInt8} {w : World} (h : Inp w A n c l) (sg : UInt8) (hsg : l[1]? = some sg) (hb : betw sg (l.drop 2) = none) :
    Calls Try.prog 85 #[.slice A n c] w fun e w' => e = .returned (.tuple #[.slice none 0 0, .int .i64 0, .int .i64 11]) ∧ Below w.heap.size w w' := by
  have hl2 : 2 ≤ l.length := (List.getElem?_eq_some_iff.1 hsg).1
  obtain ⟨ad, rfl⟩ := h.some_ (by omega)
  obtain ⟨hd, hdb⟩ := h.cell hsg
  rw [add_succ ad 0] at hd
  have hn := h.len
  have h2n : 2 ≤ n := by omega
  have hnc : n ≤ c := h.2.1
  have hcm := h.2.2.1
  unfold maxLen at hcm
  have hI := Lib.hid (between_index h sg h2n none hb)
  have hx := sg.toNat_lt
  generalize sg.toNat = X at *
  clear hsg hb hl2 hn h
  by_cases hc : c = 2
  · subst hc
    obtain rfl : n = 2 := by omega
    rw [if_pos rfl] at hI
    go_enter Try.func85, Try.ntmps85
    go_wp2
    go_region_with ((go_at_call 88; refine (hI.out).mono ?_; rintro e w1 ⟨rfl, hb1⟩; simp only [idxV]))
    all_goals
      go_wp2
      go_ret3
      exact ⟨rfl, hb1⟩
  · rw [if_neg hc] at hI
    go_enter Try.func85, Try.ntmps85
    go_wp2
    go_region_with ((go_at_call 88; refine (hI.out).mono ?_; rintro e w1 ⟨rfl, hb1⟩; simp only [idxV]))
    all_goals
      go_wp2
      go_ret3
      exact ⟨rfl, hb1⟩

set_option maxRecDepth 100000 in
set_option maxHeartbeats 2000000 in
theorem between_some {ad : Addr} {n c : Nat} {l : List UInt8} {w : World} (h : Inp w (some ad) n c l) (sg : UInt8) (hsg : l[1]? = some sg) (i : Nat) (hb : betw sg (l.drop 2) = some i) :
    Calls Try.prog 85 #[.slice (some ad) n c] w fun e w' => e = .returned (.tuple #[.slice (some ⟨ad.block, ad.off + 2, none⟩) i (c - 2), .int .i64 ((i : Int) + 4), .int .i64 0]) ∧ Below w.heap.size w w' := by
  have hl2 : 2 ≤ l.length := (List.getElem?_eq_some_iff.1 hsg).1
  obtain ⟨hd, hdb⟩ := h.cell hsg
  rw [add_succ ad 0] at hd
  have hn := h.len
  have h2n : 2 ≤ n := by omega
  have hnc : n ≤ c := h.2.1
  have hcm := h.2.2.1
  unfold maxLen at hcm
  have hI := Lib.hid (between_index h sg h2n (some i) hb)
  have hx := sg.toNat_lt
  have hi := betw_len hb
  rw [List.length_drop] at hi
  have hin : i + 4 ≤ n := by omega
  have hns : n ≤ 100000 := h.2.2.2.1
  generalize sg.toNat = X at *
  clear hsg hb hl2 hn h hi
  have hc : ¬ c = 2 := by omega
  rw [if_neg hc] at hI
  go_enter Try.func85, Try.ntmps85
  go_wp2
  go_region_with ((go_at_call 88; refine (hI.out).mono ?_; rintro e w1 ⟨rfl, hb1⟩; simp only [idxV]))
  all_goals
    go_wp2
    go_ret3
    refine ⟨?_, hb1⟩
    show Ending.returned (.tuple #[.slice (some ⟨ad.block, ad.off + 2, none⟩) (2 + i - 2) (c - 2), .int .i64 (2 + (i : Int) + 2), .int .i64 0]) = _
    rw [show 2 + i - 2 = i by omega, show 2 + (i : Int) + 2 = (i : Int) + 4 by omega]
end Go.Proofs.Ytnfbgpjadnlgbab
