/- Words on slices that hold bytes; contracts of digit.digitsEnd, value, Num and of the reference's Num. Contracts of package class: bit, Has. Contracts of package class: Of. Basic regular expressions, told as a machine on a text: its places, what it puts, where it ends. -/
import Derived.Test.YtnfbgpjadnlgbaaGreatM09
import Derived.Test.YtnfbgpjadnlgbaaGreatProg
import Derived.Test.YtnfbgpjadnlgbaaGreatM02
import Derived.Lib.Hide
import Derived.IntWalk
import Derived.Deep.QuietTactic
import Derived.BigQuiet
import Derived.WalkSmall
import Derived.Deep.RegionWith
import Derived.Deep.RegionHeld3
import Derived.Test.YtnfbgpjadnlgbaaGreatM10
set_option maxRecDepth 100000
namespace Go.Proofs.YtnfbgpjadnlgbaaGreat
open Go.RowKit


/-- Where the digits that begin at a place end. -/
def dEnd (l : List UInt8) (k : Nat) : Nat := k + ((l.drop k).takeWhile fun c => cDigit c.toNat).length
theorem dEnd_stop {l : List UInt8} {k : Nat} (h : l.length ≤ k) : dEnd l k = k := by
  unfold dEnd
  rw [List.drop_eq_nil_of_le h]; rfl
theorem dEnd_no {l : List UInt8} {k : Nat} (h : k < l.length) (hd : cDigit ((l[k]'h).toNat : Int) = false) : dEnd l k = k := by
  unfold dEnd
  rw [List.drop_eq_getElem_cons h, List.takeWhile_cons_of_neg (by rw [hd]; decide)]; rfl
theorem dEnd_yes {l : List UInt8} {k : Nat} (h : k < l.length) (hd : cDigit ((l[k]'h).toNat : Int) = true) : dEnd l k = dEnd l (k + 1) := by
  unfold dEnd
  rw [List.drop_eq_getElem_cons h, List.takeWhile_cons_of_pos (by rw [hd]), List.length_cons]; omega
theorem dEnd_le {l : List UInt8} {k : Nat} (h : k ≤ l.length) : dEnd l k ≤ l.length := by
  have h1 := (List.takeWhile_prefix (l := l.drop k) (fun c : UInt8 => cDigit c.toNat)).length_le
  rw [List.length_drop] at h1
  unfold dEnd; omega
theorem dEnd_ge (l : List UInt8) (k : Nat) : k ≤ dEnd l k := by unfold dEnd; omega

theorem mem_takeWhile_p {α : Type} {p : α → Bool} {c : α} : ∀ {l : List α}, c ∈ l.takeWhile p → p c = true
  | x :: r, h => by
    by_cases hx : p x = true
    · rw [List.takeWhile_cons_of_pos hx] at h
      rcases List.mem_cons.1 h with h | h
      · rw [h]; exact hx
      · exact mem_takeWhile_p h
    · rw [List.takeWhile_cons_of_neg hx] at h; cases h
theorem dEnd_digits (l : List UInt8) (k : Nat) : ∀ c ∈ (l.take (dEnd l k)).drop k, cDigit c.toNat = true := by
  intro c hc
  have h : (l.take (dEnd l k)).drop k = (l.drop k).takeWhile fun c => cDigit c.toNat := by
    unfold dEnd
    rw [List.drop_take, Nat.add_sub_cancel_left]
    exact (List.prefix_iff_eq_take.1 (List.takeWhile_prefix _)).symm
  rw [h] at hc
  exact mem_takeWhile_p (p := fun c : UInt8 => cDigit c.toNat) hc

theorem digitsEnd_any (A : Option Addr) (cap : Nat) (l : List UInt8) (n a : Nat) (B : Nat) (w : World) (hn : n = l.length) (hr : Byt w B A l) (ha : a ≤ n) (hl : n ≤ maxLen) :
    Calls Tryz.prog 97 #[.slice A n cap, .int .i64 (a : Int)] w fun e w' => e = .returned (.int .i64 (dEnd l a : Nat)) ∧ w = w' := by
  unfold maxLen at hl
  have hr := Lib.hid hr
  have hN := Lib.hid hn
  clear hn
  go_enter Tryz.func97, Tryz.ntmps97
  go_wp2
  go_loop [1] (fun i => ∃ k : Nat, k ≤ n ∧ i = .int .i64 (k : Int) ∧ Hid (dEnd l a = dEnd l k)) (fun i => n - (intOf i).toNat)
  case atStart => exact ⟨a, by omega, rfl, rfl⟩
  case round =>
    obtain ⟨k, hk, rfl, hq⟩ := hrel
    by_cases hlt : k < n
    · obtain ⟨ad, hA, hb, hc⟩ := hr.out.at_ (k := k) (by rw [← hN.out]; exact hlt)
      subst hA
      go_wp2_with (go_at_call 105; refine (isDigit_any _ _).mono ?_; rintro e w' ⟨rfl, rfl⟩)
      · go_round
        case rel => exact ⟨k + 1, by omega, by go_num, by rw [hq.out]; exact dEnd_yes (by rw [← hN.out]; exact hlt) (by assumption)⟩
        case measure => simp [intOf]; omega
      · go_ret
        exact ⟨ret_int (by rw [hq.out, dEnd_no (by rw [← hN.out]; exact hlt) (by assumption)]), rfl⟩
    · go_wp2
      go_ret
      exact ⟨ret_int (by rw [hq.out, dEnd_stop (by rw [← hN.out]; omega)]), rfl⟩

/-- The number that digits make, on from n, as long as it is at most most. -/
def valS (most : Int) : List UInt8 → Int → Option Int
  | [], n => some n
  | c :: r, n => if n * 10 + ((c.toNat : Int) - 48) ≤ most then valS most r (n * 10 + ((c.toNat : Int) - 48)) else none
def valR (o : Option Int) : Ending := .returned (.tuple #[.int .i64 (o.getD 0), .bool o.isSome])
theorem valR_none : valR none = .returned (.tuple #[.int .i64 0, .bool false]) := rfl
theorem valR_some (x : Int) : valR (some x) = .returned (.tuple #[.int .i64 x, .bool true]) := rfl
theorem valS_neg {most : Int} (h : most < 0) {l : List UInt8} {n : Int} (hn : 0 ≤ n) (hl : ∀ c ∈ l, 48 ≤ c.toNat) (h0 : l ≠ []) : valS most l n = none := by
  cases l with
  | nil => exact absurd rfl h0
  | cons c r => have := hl c (by simp); rw [valS, if_neg (by omega)]
theorem cDigit_bd {c : UInt8} (h : cDigit c.toNat = true) : 48 ≤ (c.toNat : Int) ∧ (c.toNat : Int) ≤ 57 := by
  simpa [cDigit, isW] using h
theorem value_any (A : Option Addr) (cap : Nat) (l : List UInt8) (n : Nat) (most : Int) (B : Nat) (w : World) (hn : n = l.length) (hr : Byt w B A l) (hl : n ≤ maxLen) (hd : ∀ c ∈ l, cDigit c.toNat = true)
    (hm1 : -9223372036854775808 ≤ most) (hm : most ≤ 9223372036854775807) :
    Calls Tryz.prog 98 #[.slice A n cap, .int .i64 most] w fun e w' => e = valR (valS most l 0) ∧ w = w' := by
  unfold maxLen at hl
  have hr := Lib.hid hr
  have hN := Lib.hid hn
  have hD := Lib.hid hd
  clear hn hd
  go_enter Tryz.func98, Tryz.ntmps98
  go_wp2
  go_loop [6, 12] (fun m i => ∃ (k : Nat) (x : Int), k ≤ n ∧ 0 ≤ x ∧ x ≤ 9223372036854775807 ∧ i = .int .i64 (k : Int) ∧ m = .int .i64 x ∧ Hid (valS most l 0 = valS most (l.drop k) x)) (fun _ i => n - (intOf i).toNat)
  case atStart => exact ⟨0, 0, by omega, by omega, by omega, rfl, rfl, rfl⟩
  case round =>
    obtain ⟨k, x, hk, hx0, hx1, rfl, rfl, hq⟩ := hrel
    by_cases hlt : k < n
    · have hlk : k < l.length := by rw [← hN.out]; exact hlt
      obtain ⟨ad, hA, hb, hc⟩ := hr.out.at_ hlk
      subst hA
      have hst : Hid (valS most (l.drop k) x = if x * 10 + (((l[k]'hlk).toNat : Int) - 48) ≤ most then valS most (l.drop (k + 1)) (x * 10 + (((l[k]'hlk).toNat : Int) - 48)) else none) := by
        rw [List.drop_eq_getElem_cons hlk]; rfl
      have hdd := cDigit_bd (hD.out _ (List.getElem_mem hlk))
      generalize l[k]'hlk = c at *
      obtain ⟨d, hd⟩ : ∃ d : Int, (c.toNat : Int) = d := ⟨_, rfl⟩
      rw [hd] at hc hst hdd
      clear hd
      by_cases h1 : d - 48 ≤ most
      · by_cases h2 : x ≤ (most - (d - 48)) / 10
        · go_wp2
          go_round
          case rel => exact ⟨k + 1, 10 * x + (d - 48), by omega, by omega, by omega, by go_num, rfl, by rw [hq.out, hst.out, if_pos (by omega)]; exact congrArg _ (by omega)⟩
          case measure => simp [intOf]; omega
        · go_wp2
          go_ret2
          exact ⟨by rw [hq.out, hst.out, if_neg (by omega)]; rfl, rfl⟩
      · go_wp2
        go_ret2
        exact ⟨by rw [hq.out, hst.out, if_neg (by omega)]; rfl, rfl⟩
    · go_wp2
      go_ret2
      exact ⟨by rw [hq.out, List.drop_eq_nil_of_le (by rw [← hN.out]; omega)]; rfl, rfl⟩

/-- What the document says is read at a place: the number, the place behind it, the error. -/
def numS (l : List UInt8) (a most : Int) : Int × Int × Int :=
  if a < 0 ∨ (l.length : Int) < a then (0, 0, 1)
  else if dEnd l a.toNat = a.toNat then (0, 0, 9)
  else match valS most ((l.take (dEnd l a.toNat)).drop a.toNat) 0 with
    | none => (0, 0, 3)
    | some v => (v, dEnd l a.toNat, 0)
def three (x : Int × Int × Int) : Ending := .returned (.tuple #[.int .i64 x.1, .int .i64 x.2.1, .int .i64 x.2.2])

theorem num_any (A : Option Addr) (cap : Nat) (l : List UInt8) (n : Nat) (a most : Int) (B : Nat) (w : World) (hn : n = l.length) (hr : Byt w B A l) (hl : n ≤ maxLen) (hcap : n ≤ cap)
    (hm1 : -9223372036854775808 ≤ most) (hm : most ≤ 9223372036854775807) :
    Calls Tryz.prog 86 #[.slice A n cap, .int .i64 a, .int .i64 most] w fun e w' => e = three (numS l a most) ∧ w = w' := by
  have hl' := hl
  unfold maxLen at hl
  by_cases h1 : 0 ≤ a
  · obtain ⟨j, rfl⟩ := Int.eq_ofNat_of_zero_le h1
    by_cases h2 : j ≤ n
    · have hle := dEnd_le (l := l) (k := j) (by omega)
      have hge := dEnd_ge l j
      have hle2 : dEnd l j ≤ n := by omega
      have HF := Lib.hid (digitsEnd_any A cap l n j B w hn hr h2 hl')
      by_cases h3 : dEnd l j = j
      · have hz : numS l j most = (0, 0, 9) := by
          unfold numS; rw [if_neg (by omega), if_pos (by simpa using h3)]
        rw [hz]
        rw [h3] at HF
        clear hz hle hge hle2 hn h3 hr hl'
        go_enter Tryz.func86, Tryz.ntmps86
        go_wp2_with (go_at_call 97; refine (HF.out).mono ?_; rintro e w' ⟨rfl, rfl⟩)
        go_ret3
        exact ⟨rfl, rfl⟩
      · have hdig : ∀ c ∈ (l.take (dEnd l j)).drop j, cDigit c.toNat = true := dEnd_digits l j
        have hlen : ((l.take (dEnd l j)).drop j).length = dEnd l j - j := by rw [List.length_drop, List.length_take]; omega
        have hcj : ¬ cap = j := by omega
        obtain ⟨ad, hA, -⟩ := hr.at_ (k := j) (by omega)
        subst hA
        have hb := hr.cut (i := j) hle (by omega : l.length ≤ cap)
        rw [if_neg hcj] at hb
        have HV : Hid (∀ cap' : Nat, Calls Tryz.prog 98 #[.slice (some (ad.add j)) (dEnd l j - j : Nat) cap', .int .i64 most] w fun e w' => e = valR (valS most ((l.take (dEnd l j)).drop j) 0) ∧ w = w') :=
          Lib.hid fun cap' => value_any _ cap' ((l.take (dEnd l j)).drop j) (dEnd l j - j) most B w hlen.symm hb (by unfold maxLen; omega) hdig hm1 hm
        have hz : numS l j most = match valS most ((l.take (dEnd l j)).drop j) 0 with | none => (0, 0, 3) | some v => (v, (dEnd l j : Int), 0) := by
          unfold numS; rw [if_neg (by omega), if_neg (by simpa using h3)]; rfl
        rw [hz]
        clear hz hdig hlen hr hl' hb
        have hne : ((dEnd l j : Int) == (j : Int)) = false := by simp; omega
        generalize valS most ((l.take (dEnd l j)).drop j) 0 = ov at *
        generalize dEnd l j = d at *
        clear hn h3
        cases ov with
        | none =>
          go_enter Tryz.func86, Tryz.ntmps86
          go_wp2_with (first
            | (go_at_call 97; refine (HF.out).mono ?_; rintro e w' ⟨rfl, rfl⟩)
            | (go_at_call 98; refine (HV.out _).mono ?_; rintro e w' ⟨he, rfl⟩; rw [valR_none] at he; subst he))
          go_ret3
          exact ⟨rfl, rfl⟩
        | some v =>
          go_enter Tryz.func86, Tryz.ntmps86
          go_wp2_with (first
            | (go_at_call 97; refine (HF.out).mono ?_; rintro e w' ⟨rfl, rfl⟩)
            | (go_at_call 98; refine (HV.out _).mono ?_; rintro e w' ⟨he, rfl⟩; rw [valR_some] at he; subst he))
          go_ret3
          exact ⟨rfl, rfl⟩
    · have hz : numS l j most = (0, 0, 1) := by unfold numS; rw [if_pos (by omega)]
      rw [hz]
      clear hz hn hr
      go_enter Tryz.func86, Tryz.ntmps86
      go_wp2
      go_ret3
      exact ⟨rfl, rfl⟩
  · have hz : numS l a most = (0, 0, 1) := by unfold numS; rw [if_pos (by omega)]
    rw [hz]
    clear hz hn hr
    go_enter Tryz.func86, Tryz.ntmps86
    go_wp2
    go_ret3
    exact ⟨rfl, rfl⟩
end Go.Proofs.YtnfbgpjadnlgbaaGreat

set_option maxRecDepth 100000
namespace Go.Proofs.YtnfbgpjadnlgbaaGreat
open Go.RowKit

theorem pow_small (c : Nat) : (2 : Int) ^ (c % 64) % 18446744073709551616 = ((bitN c : Nat) : Int) := by
  have hb := bitN_lt c
  have e : (2 : Int) ^ (c % 64) = ((bitN c : Nat) : Int) := by simp [bitN]
  rw [e]
  omega

theorem bit_any (c : Nat) (w : World) (hc : c < 256) :
    Calls Tryz.prog 93 #[.int .u8 (c : Int)] w fun e w' => e = .returned (.int .u64 ((bitN c : Nat) : Int)) ∧ w = w' := by
  have h1 : (0 : Int) ≤ (c : Int) % 64 := by omega
  have h2 : (c : Int) % 64 ≤ 64 := by omega
  have ht : ((c : Int) % 64).toNat = c % 64 := by omega
  go_enter Tryz.func93, Tryz.ntmps93
  go_wp2
  go_ret
  exact ⟨ret_int (pow_small c), rfl⟩


section
variable {w w' : World} {g : Nat} {f : Nat → Bool}
theorem SetAt.more {c k i : Nat} (h : SetAt w g f) (he : c = 64 * k + i) (hi : i < 64) (hk : k = 0 ∨ k = 1 ∨ k = 2 ∨ k = 3) :
    SetAt (w.setCell ⟨g, k, none⟩ (.int .u64 (bits .or .u64 ((wd f k : Nat) : Int) ((bitN c : Nat) : Int)))) g (fun x => f x || decide (x = c)) := by
  unfold SetAt at h ⊢
  rw [heap_setCell_same w g k _ _ _ h, or_bit f c k i he hi]
  have hw : ∀ k', k' ≠ k → wd (fun x => f x || decide (x = c)) k' = wd f k' := fun k' hk' => wd_more f c k k' i he hi hk'
  unfold setC
  rcases hk with rfl | rfl | rfl | rfl
  · rw [hw 1 (by decide), hw 2 (by decide), hw 3 (by decide)]; rfl
  · rw [hw 0 (by decide), hw 2 (by decide), hw 3 (by decide)]; rfl
  · rw [hw 0 (by decide), hw 1 (by decide), hw 3 (by decide)]; rfl
  · rw [hw 0 (by decide), hw 1 (by decide), hw 2 (by decide)]; rfl
end
end Go.Proofs.YtnfbgpjadnlgbaaGreat

set_option maxRecDepth 100000
namespace Go.Proofs.YtnfbgpjadnlgbaaGreat
open Go.RowKit

/-- The set of a list of bytes. -/
def ofL (l : List UInt8) : Nat → Bool := fun c => l.any fun x => decide (x.toNat = c)
theorem ofL_next (l : List UInt8) (k : Nat) (h : k < l.length) : (fun x => ofL (l.take k) x || decide (x = (l[k]'h).toNat)) = ofL (l.take (k + 1)) := by
  funext x
  have e : l.take (k + 1) = l.take k ++ [l[k]'h] := by simp
  unfold ofL
  rw [e, List.any_append]
  simp only [List.any_cons, List.any_nil, Bool.or_false]
  congr 1
  exact decide_eq_decide.2 ⟨fun h => h.symm, fun h => h.symm⟩

def RelOf (w : World) (l : List UInt8) (n : Nat) (i : Value) (wr : World) : Prop :=
  ∃ k : Nat, k ≤ n ∧ i = .int .i64 (k : Nat) ∧ SetAt wr w.heap.size (fun _ => false) ∧ SetAt wr (w.heap.size + 1) (ofL (l.take k)) ∧ Below w.heap.size w wr
theorem RelOf.mk {w : World} {l : List UInt8} {n : Nat} {i : Value} {wr : World} (h : ∃ k : Nat, k ≤ n ∧ i = .int .i64 (k : Nat) ∧ SetAt wr w.heap.size (fun _ => false) ∧ SetAt wr (w.heap.size + 1) (ofL (l.take k)) ∧ Below w.heap.size w wr) : RelOf w l n i wr := h

set_option maxRecDepth 100000 in
set_option maxHeartbeats 4000000 in
theorem of_any (A : Option Addr) (n c : Nat) (l : List UInt8) (B : Nat) (w : World) (hn : n = l.length) (hnc : n ≤ c) (hm : c ≤ maxLen) (hB : B ≤ w.heap.size) (h : Byt w B A l) :
    Calls Tryz.prog 81 #[.slice A n c] w fun e w' => e = .returned (setV (ofL l)) ∧ Below w.heap.size w w' := by
  unfold maxLen at hm
  have hn' := Lib.hid hn
  clear hn
  have hB' := Lib.hid hB
  clear hB
  go_enter Tryz.func81, Tryz.ntmps81
  go_wp2
  go_loopw [8] (RelOf w l n) (fun i _ => n - (intOf i).toNat)
  case atStart => exact RelOf.mk ⟨0, by omega, rfl, (set_zero w).alloc _, set_zero_at _ _ (by simp), ((Below.refl _ _).alloc (Nat.le_refl _) _).alloc (by simp) _⟩
  case round =>
    obtain ⟨k, hk, rfl, hz, hs, hb⟩ := hrel
    by_cases hlt : k < n
    · have hkl : k < l.length := by have := hn'.out; omega
      obtain ⟨ad, hA, hadB, hd⟩ := (h.below (hb.mono hB'.out)).at_ hkl
      subst hA
      have hnx := Lib.hid (ofL_next l k hkl)
      have hc : (l[k]'hkl).toNat < 256 := UInt8.toNat_lt _
      generalize (l[k]'hkl).toNat = x at hd hnx hc
      obtain ⟨K, i, he, hi, hK⟩ := byte_parts x hc
      have h0 := tdiv_of he hi
      have h1 := ediv_of he hi
      have hs1 := hs.more he hi hK
      rw [hnx.out] at hs1
      have hs' := Lib.hid hs1
      have hz' := Lib.hid (hz.set_other (a := ⟨w.heap.size + 1, K, none⟩) (v := .int .u64 (bits .or .u64 ((wd (ofL (l.take k)) K : Nat) : Int) ((bitN x : Nat) : Int))) (by show w.heap.size ≠ w.heap.size + 1; omega))
      have hb' := Lib.hid (hb.setCell (p := ⟨w.heap.size + 1, K, none⟩) (by show w.heap.size ≤ w.heap.size + 1; omega) (.int .u64 (bits .or .u64 ((wd (ofL (l.take k)) K : Nat) : Int) ((bitN x : Nat) : Int))))
      have hlt' := Lib.hid hlt
      have c0 := hs.cell' hK
      have f0 := hs.thawed K
      have k0 : (0 : Int) ≤ (K : Int) := by omega
      have k1 : (K : Int) < 4 := by omega
      have k2 : IntKind.u8.wrap (K : Int) = (K : Int) := IntWalk.u8_in _ (by omega)
      clear he hi hz hb hs hs1 hK
      go_wp2_with (first | (go_region_with ((go_at_call 93; refine (bit_any x _ hc).mono ?_; rintro e w' ⟨rfl, rfl⟩))) | fail)
      all_goals
        go_roundw
        case rel => exact RelOf.mk ⟨k + 1, hlt'.out, by go_num, hz'.out, hs'.out, hb'.out.drew⟩
        case measure => simp [intOf]; omega
    · have hz' := Lib.hid hz
      have hb' := Lib.hid hb
      have hs' := Lib.hid hs
      clear hz hb hs
      go_wp2_with (first
        | (refine wpList_load_row rfl 37 (.tmp 3) rfl (w.heap.size + 1) rfl 37 _ (0, 0) _ hs'.out Tryz.underlying37 rfl (set_size _) ?_)
        | (refine wpList_store_row rfl 37 (.tmp 2) (.tmp 21) rfl w.heap.size (setC (ofL (l.take k))) rfl rfl 37 _ hz'.out (set_size _) (set_hold _ _) (set_cells _) ?_))
      have e : l.take k = l := List.take_of_length_le (by have := hn'.out; omega)
      refine bodyPost_ret (v := setV (ofL (l.take k))) (results_cell_row Tryz.results81 _ _ w.heap.size 37 (setC (ofL (l.take k))) (0, 0) _ rfl (hz'.out.put _) Tryz.underlying37 rfl (set_size _)) rfl ⟨by rw [e], below_put hb'.out (Nat.le_refl _) _⟩
end Go.Proofs.YtnfbgpjadnlgbaaGreat

set_option linter.unusedVariables false
set_option maxRecDepth 100000
namespace Go.Proofs.YtnfbgpjadnlgbaaGreat
open Go.RowKit

/-- Where it stands: at a branch's beginning, ahead of a piece, behind an atom. -/
inductive Ct
  | B
  | L
  | P (x : Int)
structure Cf where
  ct : Ct
  i : Nat
  ns : List Nod
  g : Nat
  cl : Nat → Bool
  ps : List Int
  lv : List (Nat × List Int)
inductive Rs
  | go (c : Cf)
  | bad (i e : Nat)
  | fin (ns : List Nod) (g : Nat)
/-- A node more, if there is room; else what is wrong, at i. -/
def putS (ns : List Nod) (i : Nat) (n : Nod) (k : Int → List Nod → Rs) : Rs := if ns.length < 1000 then k (ns.length : Int) (ns ++ [n]) else .bad i 8
/-- Pieces put together. -/
def catGo : Int → List Nod → List Int → Option (Int × List Nod)
  | x, ns, [] => some (x, ns)
  | x, ns, p :: r => if ns.length < 1000 then catGo (ns.length : Int) (ns ++ [twoN 2 x p]) r else none
def catS (ns : List Nod) : List Int → Option (Int × List Nod)
  | [] => if ns.length < 1000 then some ((ns.length : Int), ns ++ [emptyN]) else none
  | x :: r => catGo x ns r
theorem catGo_nil (x : Int) (ns : List Nod) : catGo x ns [] = some (x, ns) := rfl
theorem catGo_cons (x : Int) (ns : List Nod) (p : Int) (r : List Int) : catGo x ns (p :: r) = if ns.length < 1000 then catGo (ns.length : Int) (ns ++ [twoN 2 x p]) r else none := rfl
theorem catS_nil (ns : List Nod) : catS ns [] = if ns.length < 1000 then some ((ns.length : Int), ns ++ [emptyN]) else none := rfl
theorem catS_cons (ns : List Nod) (x : Int) (r : List Int) : catS ns (x :: r) = catGo x ns r := rfl
def allS : Nat → Bool := fun c => !(ofL [] c)
/-- The numbers of the interval that b begins with, and how many bytes it takes. -/
def ivB (b : List UInt8) : Option (Int × Int × Nat) :=
  if (numS b 2 255).2.2 ≠ 0 then none else
  if bg [44, 92, 125] (b.drop (numS b 2 255).2.1.toNat) then some ((numS b 2 255).1, -1, (numS b 2 255).2.1.toNat + 3) else
  if bg [44] (b.drop (numS b 2 255).2.1.toNat) then
    if (numS b ((numS b 2 255).2.1 + 1) 255).2.2 ≠ 0 ∨ (numS b ((numS b 2 255).2.1 + 1) 255).1 < (numS b 2 255).1 then none else
    if bg [92, 125] (b.drop (numS b ((numS b 2 255).2.1 + 1) 255).2.1.toNat) then some ((numS b 2 255).1, (numS b ((numS b 2 255).2.1 + 1) 255).1, (numS b ((numS b 2 255).2.1 + 1) 255).2.1.toNat + 2) else none
  else if bg [92, 125] (b.drop (numS b 2 255).2.1.toNat) then some ((numS b 2 255).1, (numS b 2 255).1, (numS b 2 255).2.1.toNat + 2) else none
/-- The numbers of an interval at i, and the place behind it. -/
def ivl (t : List UInt8) (i : Nat) : Option (Int × Int × Nat) := (ivB (t.drop i)).map fun x => (x.1, x.2.1, i + x.2.2)
/-- What an atom is. -/
inductive Am
  | bad (e : Nat)
  | opn
  | bak (q : Nat)
  | nod (j : Nat) (n : Nod)
def isAl (c : UInt8) : Bool := cAlnum (c.toNat : Int)
def escA (i : Nat) : List UInt8 → Am
  | [] => .bad 10
  | c :: _ => if c = 40 then .opn else if c = 41 then .bad 14 else if c = 123 then .bad 13 else if c = 110 then .nod (i + 2) (setN (ofL [10]))
    else if 49 ≤ c ∧ c ≤ 57 then .bak (c.toNat - 48) else if isAl c then .bad 10 else .nod (i + 2) (setN (ofL [c]))
def brkA (t : List UInt8) (i : Nat) : Am := match readB t (i + 1) with
  | .error e => .bad e
  | .ok (f, j) => .nod j (setN f)
def atomR (t : List UInt8) (i : Nat) : List UInt8 → Am
  | [] => .bad 0
  | c :: r => if c = 92 then escA i r else if c = 91 then brkA t i else if c = 46 then .nod (i + 1) (setN allS)
    else if c = 36 ∧ (r = [] ∨ bg [92, 41] r = true) then .nod (i + 1) eolN else .nod (i + 1) (setN (ofL [c]))
def atomA (t : List UInt8) (i : Nat) : Am := atomR t i (t.drop i)
def setQ (cl : Nat → Bool) (q : Nat) : Nat → Bool := fun x => if x = q then true else cl x

def stepB (t : List UInt8) (c : Cf) : Rs :=
  if bg [94] (t.drop c.i) then putS c.ns (c.i + 1) bolN fun x ns => .go ⟨.L, c.i + 1, ns, c.g, c.cl, [x], c.lv⟩
  else .go ⟨.L, c.i, c.ns, c.g, c.cl, [], c.lv⟩
def stepP (t : List UInt8) (c : Cf) (x : Int) : Rs :=
  if bg [42] (t.drop c.i) then putS c.ns (c.i + 1) (repN x 0 (-1)) fun y ns => .go ⟨.P y, c.i + 1, ns, c.g, c.cl, c.ps, c.lv⟩
  else if bg [92, 123] (t.drop c.i) then match ivl t c.i with
    | none => .bad c.i 13
    | some (lo, hi, j) => putS c.ns j (repN x lo hi) fun y ns => .go ⟨.P y, j, ns, c.g, c.cl, c.ps, c.lv⟩
  else .go ⟨.L, c.i, c.ns, c.g, c.cl, c.ps ++ [x], c.lv⟩
def stepA (c : Cf) : Am → Rs
  | .bad e => .bad c.i e
  | .opn => if c.g < 9 then .go ⟨.B, c.i + 2, c.ns, c.g + 1, c.cl, [], (c.g + 1, c.ps) :: c.lv⟩ else .bad c.i 17
  | .bak q => if c.cl q then putS c.ns (c.i + 2) (backN (q : Int)) fun x ns => .go ⟨.P x, c.i + 2, ns, c.g, c.cl, c.ps, c.lv⟩ else .bad c.i 16
  | .nod j n => putS c.ns j n fun x ns => .go ⟨.P x, j, ns, c.g, c.cl, c.ps, c.lv⟩
def stepL (t : List UInt8) (c : Cf) : Rs :=
  match c.lv with
  | [] => if t.length ≤ c.i then (match catS c.ns c.ps with | none => .bad c.i 8 | some (_, ns) => .fin ns c.g) else stepA c (atomA t c.i)
  | (q, ps) :: lv => if t.length ≤ c.i then .bad c.i 14 else
    if bg [92, 41] (t.drop c.i) then (match catS c.ns c.ps with
      | none => .bad c.i 8
      | some (x, ns) => putS ns (c.i + 2) (groupN (q : Int) x) fun y ns => .go ⟨.P y, c.i + 2, ns, c.g, setQ c.cl q, ps, lv⟩)
    else stepA c (atomA t c.i)
def step (t : List UInt8) (c : Cf) : Rs := match c.ct with
  | .B => stepB t c
  | .L => stepL t c
  | .P x => stepP t c x
inductive Steps (t : List UInt8) : Cf → Cf → Prop
  | refl (c : Cf) : Steps t c c
  | head {c c1 c2 : Cf} (h : step t c = .go c1) (k : Steps t c1 c2) : Steps t c c2
theorem Steps.trans {t : List UInt8} {a b c : Cf} (h : Steps t a b) (k : Steps t b c) : Steps t a c := by
  induction h with
  | refl => exact k
  | head h1 _ ih => exact .head h1 (ih k)
theorem Steps.one {t : List UInt8} {a b : Cf} (h : step t a = .go b) : Steps t a b := .head h (.refl b)
theorem Steps.snoc {t : List UInt8} {a b c : Cf} (h : Steps t a b) (k : step t b = .go c) : Steps t a c := h.trans (.one k)
/-- It ends so. -/
def Ends (t : List UInt8) (c : Cf) (r : Rs) : Prop := ∃ c', Steps t c c' ∧ step t c' = r ∧ ∀ c2, r ≠ .go c2
theorem Ends.det {t : List UInt8} {c : Cf} {r s : Rs} (h : Ends t c r) (k : Ends t c s) : r = s := by
  obtain ⟨c1, h1, h2, h3⟩ := h
  obtain ⟨c2, k1, k2, k3⟩ := k
  induction h1 with
  | refl =>
    cases k1 with
    | refl => rw [← h2, ← k2]
    | head q _ => rw [q] at h2; exact absurd h2.symm (h3 _)
  | head q _ ih =>
    cases k1 with
    | refl => rw [q] at k2; exact absurd k2.symm (k3 _)
    | head q' k1 => rw [q] at q'; injection q' with q'; subst q'; exact ih h2 k1
theorem Steps.ends {t : List UInt8} {a b : Cf} {r : Rs} (h : Steps t a b) (k : Ends t b r) : Ends t a r := by
  obtain ⟨c, k1, k2⟩ := k
  exact ⟨c, h.trans k1, k2⟩
theorem Ends.bad {t : List UInt8} {c : Cf} {i e : Nat} (h : step t c = .bad i e) : Ends t c (.bad i e) := ⟨c, .refl c, h, fun _ => by simp⟩
theorem Ends.fin {t : List UInt8} {c : Cf} {ns : List Nod} {g : Nat} (h : step t c = .fin ns g) : Ends t c (.fin ns g) := ⟨c, .refl c, h, fun _ => by simp⟩
def cf0 : Cf := ⟨.B, 0, [], 0, fun _ => false, [], []⟩

/-! ### What fits -/
theorem fits_rep {x lo hi t g : Int} (hx : okP t x = true) (ht : timesN lo hi = true) : fitsN (repN x lo hi) t g = true := by
  unfold fitsN
  rw [show partsN (repN x lo hi) = [x] from rfl, show wantedN (repN x lo hi) = repN x lo hi from rfl, sameN_self]
  simp [repN, hx, ht]
theorem fits_group {x q t g : Int} (hx : okP t x = true) (h1 : 1 ≤ q) (h2 : q ≤ g) : fitsN (groupN q x) t g = true := by
  unfold fitsN
  rw [show partsN (groupN q x) = [x] from rfl, show wantedN (groupN q x) = groupN q x from rfl, sameN_self]
  simp [groupN, hx, h1, h2]
theorem fits_back {q t g : Int} (h1 : 1 ≤ q) (h2 : q ≤ g) : fitsN (backN q) t g = true := by
  unfold fitsN
  rw [show partsN (backN q) = [] from rfl, show wantedN (backN q) = backN q from rfl, sameN_self]
  simp [backN, h1, h2]
theorem okP_more {t t' p : Int} (h : okP t p = true) (ht : t ≤ t') : okP t' p = true := by
  simp only [okP, Bool.and_eq_true, decide_eq_true_eq] at h ⊢; omega
theorem okP_last (n : Nat) : okP ((n + 1 : Nat) : Int) (n : Int) = true := okP_yes (by omega) (by omega)
theorem fitsN_more {n : Nod} {t g g' : Int} (h : fitsN n t g = true) (hg : g ≤ g') : fitsN n t g' = true := by
  unfold fitsN at h ⊢
  simp only [Bool.and_eq_true, Bool.or_eq_true, decide_eq_true_eq] at h ⊢
  obtain ⟨h1, h2, h3, h4⟩ := h
  refine ⟨h1, h2, h3.imp id (fun h => ⟨h.1, by omega⟩), h4⟩

/-- The pieces put together, by the builder's words. -/
theorem chain_cat (g : Nat) : ∀ (r : List Int) (x : Int) (ns : List Nod), okP (ns.length : Int) x = true → (∀ p ∈ r, okP (ns.length : Int) p = true) →
    (∀ y ns', catGo x ns r = some (y, ns') → chainGo g 2 x ns r = (y, ns')) ∧ (catGo x ns r = none → (chainGo g 2 x ns r).1 = -1)
  | [], x, ns, _, _ => by
    rw [catGo_nil]
    refine ⟨fun y ns' h => ?_, fun h => by cases h⟩
    rw [chainGo]
    exact Option.some.inj h
  | p :: r, x, ns, hx, hp => by
    have hf : fitsN (twoN 2 x p) (ns.length : Int) (g : Int) = true := by rw [fits_two 2 (.inl rfl), hx, hp p (by simp)]; rfl
    rw [catGo_cons, chainGo]
    by_cases hl : ns.length < 1000
    · rw [if_pos hl, if_pos (canPut_of hl hf)]
      exact chain_cat g r _ _ (by rw [List.length_append]; exact okP_last _) fun q hq => okP_more (hp q (by simp [hq])) (by rw [List.length_append]; simp; omega)
    · rw [if_neg hl, if_neg (by rw [canPut_full (by omega)]; decide)]
      exact ⟨fun y ns' h => (by cases h), fun _ => rfl⟩
theorem catR_some {ns : List Nod} {g : Nat} {ps : List Int} {y : Int} {ns' : List Nod} (hp : ∀ p ∈ ps, okP (ns.length : Int) p = true) (h : catS ns ps = some (y, ns')) : catR ns g ps = (y, ns') := by
  cases ps with
  | nil =>
    rw [catS_nil] at h
    split at h
    · rename_i hl
      simp only [Option.some.injEq, Prod.mk.injEq] at h
      have hc : canPut ns g emptyN = true := canPut_of hl (fits_plain 0 (.inl rfl) _ _)
      unfold catR
      rw [if_pos rfl, putI_yes hc, putL_yes hc, h.1, h.2]
    · cases h
  | cons x r =>
    have hx := hp x (by simp)
    unfold catR chainN
    rw [if_neg (by simp)]
    simp only [hx, if_true]
    exact (chain_cat g r x ns hx fun p hq => hp p (by simp [hq])).1 y ns' h
theorem catR_none {ns : List Nod} {g : Nat} {ps : List Int} (hp : ∀ p ∈ ps, okP (ns.length : Int) p = true) (h : catS ns ps = none) : (catR ns g ps).1 = -1 := by
  cases ps with
  | nil =>
    rw [catS_nil] at h
    split at h
    · cases h
    · rename_i hl
      unfold catR
      rw [if_pos rfl, putI_no (canPut_full (by omega))]
  | cons x r =>
    have hx := hp x (by simp)
    unfold catR chainN
    rw [if_neg (by simp)]
    simp only [hx, if_true]
    exact (chain_cat g r x ns hx fun p hq => hp p (by simp [hq])).2 h
theorem catGo_up : ∀ (r : List Int) (x : Int) (ns : List Nod) (y : Int) (ns' : List Nod), catGo x ns r = some (y, ns') → okP (ns.length : Int) x = true → ns.length ≤ ns'.length ∧ okP (ns'.length : Int) y = true ∧ (ns.length ≤ 1000 → ns'.length ≤ 1000)
  | [], x, ns, y, ns', h, hx => by
    rw [catGo_nil] at h
    simp only [Option.some.injEq, Prod.mk.injEq] at h
    obtain ⟨rfl, rfl⟩ := h
    exact ⟨Nat.le_refl _, hx, id⟩
  | p :: r, x, ns, y, ns', h, hx => by
    rw [catGo_cons] at h
    split at h
    · rename_i hl
      have := catGo_up r _ _ y ns' h (by rw [List.length_append]; exact okP_last _)
      rw [List.length_append, List.length_singleton] at this
      exact ⟨by omega, this.2.1, fun _ => this.2.2 (by omega)⟩
    · cases h
theorem catS_up {ns : List Nod} {ps : List Int} {y : Int} {ns' : List Nod} (hp : ∀ p ∈ ps, okP (ns.length : Int) p = true) (h : catS ns ps = some (y, ns')) : ns.length ≤ ns'.length ∧ okP (ns'.length : Int) y = true ∧ (ns.length ≤ 1000 → ns'.length ≤ 1000) := by
  cases ps with
  | nil =>
    rw [catS_nil] at h
    split at h
    · simp only [Option.some.injEq, Prod.mk.injEq] at h
      obtain ⟨rfl, rfl⟩ := h
      rw [List.length_append, List.length_singleton]
      exact ⟨by omega, okP_last _, fun _ => by omega⟩
    · cases h
  | cons x r => exact catGo_up r x ns y ns' h (hp x (by simp))
end Go.Proofs.YtnfbgpjadnlgbaaGreat
