/- Words on slices that hold bytes; contracts of digit.digitsEnd, value, Num and of the reference's Num. -/
import Derived.Test.YtnfbgpjadnlgbabM17
set_option maxRecDepth 100000
namespace Go.Proofs.Ytnfbgpjadnlgbab
open Go.RowKit


/-- Where the digits that begin at a place end. -/
def dEnd (l : List UInt8) (k : Nat) : Nat := k + ((l.drop k).takeWhile fun c => cDigit c.toNat).length
theorem dEnd_stop {l : List UInt8} {k : Nat} (h : l.length ≤ k) : dEnd l k = k := by
  unfold dEnd
  rw [List.drop_eq_nil_of_le h]; rfl
theorem dEnd_no {l : List UInt8} {k : Nat} (h : k < l.length) (hd : cDigit ((l[k]'h).toNat : Int) = false) : dEnd l k = k := by
  unfold dEnd
  rw [List.drop_eq_getElem_cons h, List.takeWhile_cons_of_neg (by rw [hd]; decide)]; rfl
theorem dEnd_yes {l : List UInt8} {k : Nat} (h : k < l.length) (hd : cDigit ((l[k]'h).toNat : Int) = true) : dEnd l k = dEnd l (k + 1) := by
  unfold dEnd
  rw [List.drop_eq_getElem_cons h, List.takeWhile_cons_of_pos (by rw [hd]), List.length_cons]; omega
theorem dEnd_le {l : List UInt8} {k : Nat} (h : k ≤ l.length) : dEnd l k ≤ l.length := by
  have h1 := (List.takeWhile_prefix (l := l.drop k) (fun c : UInt8 => cDigit c.toNat)).length_le
  rw [List.length_drop] at h1
  unfold dEnd; omega
theorem dEnd_ge (l : List UInt8) (k : Nat) : k ≤ dEnd l k := by unfold dEnd; omega

theorem mem_takeWhile_p {α : Type} {p : α → Bool} {c : α} : ∀ {l : List α}, c ∈ l.takeWhile p → p c = true
  | x :: r, h => by
    by_cases hx : p x = true
    · rw [List.takeWhile_cons_of_pos hx] at h
      rcases List.mem_cons.1 h with h | h
      · rw [h]; exact hx
      · exact mem_takeWhile_p h
    · rw [List.takeWhile_cons_of_neg hx] at h; cases h
theorem dEnd_digits (l : List UInt8) (k : Nat) : ∀ c ∈ (l.take (dEnd l k)).drop k, cDigit c.toNat = true := by
  intro c hc
  have h : (l.take (dEnd l k)).drop k = (l.drop k).takeWhile fun c => cDigit c.toNat := by
    unfold dEnd
    rw [List.drop_take, Nat.add_sub_cancel_left]
    exact (List.prefix_iff_eq_take.1 (List.takeWhile_prefix _)).symm
  rw [h] at hc
  exact mem_takeWhile_p (p := fun c : UInt8 => cDigit c.toNat) hc

theorem digitsEnd_any (A : Option Addr) (cap : Nat) (l : List UInt8) (n a : Nat) (B : Nat) (w : World) (hn : n = l.length) (hr : Byt w B A l) (ha : a ≤ n) (hl : n ≤ maxLen) :
    Calls Try.prog 64 #[.slice A n cap, .int .i64 (a : Int)] w fun e w' => e = .returned (.int .i64 (dEnd l a : Nat)) ∧ w = w' := by
  unfold maxLen at hl
  have hr := Lib.hid hr
  have hN := Lib.hid hn
  clear hn
  go_enter Try.func64, Try.ntmps64
  go_wp2
  go_loop [1] (fun i => ∃ k : Nat, k ≤ n ∧ i = .int .i64 (k : Int) ∧ Hid (dEnd l a = dEnd l k)) (fun i => n - (intOf i).toNat)
  case atStart => exact ⟨a, by omega, rfl, rfl⟩
  case round =>
    obtain ⟨k, hk, rfl, hq⟩ := hrel
    by_cases hlt : k < n
    · obtain ⟨ad, hA, hb, hc⟩ := hr.out.at_ (k := k) (by rw [← hN.out]; exact hlt)
      subst hA
      go_wp2_with (go_at_call 71; refine (isDigit_any _ _).mono ?_; rintro e w' ⟨rfl, rfl⟩)
      · go_round
        case rel => exact ⟨k + 1, by omega, by go_num, by rw [hq.out]; exact dEnd_yes (by rw [← hN.out]; exact hlt) (by assumption)⟩
        case measure => simp [intOf]; omega
      · go_ret
        exact ⟨ret_int (by rw [hq.out, dEnd_no (by rw [← hN.out]; exact hlt) (by assumption)]), rfl⟩
    · go_wp2
      go_ret
      exact ⟨ret_int (by rw [hq.out, dEnd_stop (by rw [← hN.out]; omega)]), rfl⟩

/-- The number that digits make, on from n, as long as it is at most most. -/
def valS (most : Int) : List UInt8 → Int → Option Int
  | [], n => some n
  | c :: r, n => if n * 10 + ((c.toNat : Int) - 48) ≤ most then valS most r (n * 10 + ((c.toNat : Int) - 48)) else none
def valR (o : Option Int) : Ending := .returned (.tuple #[.int .i64 (o.getD 0), .bool o.isSome])
theorem valR_none : valR none = .returned (.tuple #[.int .i64 0, .bool false]) := rfl
theorem valR_some (x : Int) : valR (some x) = .returned (.tuple #[.int .i64 x, .bool true]) := rfl
theorem valS_neg {most : Int} (h : most < 0) {l : List UInt8} {n : Int} (hn : 0 ≤ n) (hl : ∀ c ∈ l, 48 ≤ c.toNat) (h0 : l ≠ []) : valS most l n = none := by
  cases l with
  | nil => exact absurd rfl h0
  | cons c r => have := hl c (by simp); rw [valS, if_neg (by omega)]
theorem cDigit_bd {c : UInt8} (h : cDigit c.toNat = true) : 48 ≤ (c.toNat : Int) ∧ (c.toNat : Int) ≤ 57 := by
  simpa [cDigit, isW] using h
theorem value_any (A : Option Addr) (cap : Nat) (l : List UInt8) (n : Nat) (most : Int) (B : Nat) (w : World) (hn : n = l.length) (hr : Byt w B A l) (hl : n ≤ maxLen) (hd : ∀ c ∈ l, cDigit c.toNat = true)
    (hm1 : -9223372036854775808 ≤ most) (hm : most ≤ 9223372036854775807) :
    Calls Try.prog 65 #[.slice A n cap, .int .i64 most] w fun e w' => e = valR (valS most l 0) ∧ w = w' := by
  unfold maxLen at hl
  have hr := Lib.hid hr
  have hN := Lib.hid hn
  have hD := Lib.hid hd
  clear hn hd
  go_enter Try.func65, Try.ntmps65
  go_wp2
  go_loop [6, 12] (fun m i => ∃ (k : Nat) (x : Int), k ≤ n ∧ 0 ≤ x ∧ x ≤ 9223372036854775807 ∧ i = .int .i64 (k : Int) ∧ m = .int .i64 x ∧ Hid (valS most l 0 = valS most (l.drop k) x)) (fun _ i => n - (intOf i).toNat)
  case atStart => exact ⟨0, 0, by omega, by omega, by omega, rfl, rfl, rfl⟩
  case round =>
    obtain ⟨k, x, hk, hx0, hx1, rfl, rfl, hq⟩ := hrel
    by_cases hlt : k < n
    · have hlk : k < l.length := by rw [← hN.out]; exact hlt
      obtain ⟨ad, hA, hb, hc⟩ := hr.out.at_ hlk
      subst hA
      have hst : Hid (valS most (l.drop k) x = if x * 10 + (((l[k]'hlk).toNat : Int) - 48) ≤ most then valS most (l.drop (k + 1)) (x * 10 + (((l[k]'hlk).toNat : Int) - 48)) else none) := by
        rw [List.drop_eq_getElem_cons hlk]; rfl
      have hdd := cDigit_bd (hD.out _ (List.getElem_mem hlk))
      generalize l[k]'hlk = c at *
      obtain ⟨d, hd⟩ : ∃ d : Int, (c.toNat : Int) = d := ⟨_, rfl⟩
      rw [hd] at hc hst hdd
      clear hd
      by_cases h1 : d - 48 ≤ most
      · by_cases h2 : x ≤ (most - (d - 48)) / 10
        · go_wp2
          go_round
          case rel => exact ⟨k + 1, 10 * x + (d - 48), by omega, by omega, by omega, by go_num, rfl, by rw [hq.out, hst.out, if_pos (by omega)]; exact congrArg _ (by omega)⟩
          case measure => simp [intOf]; omega
        · go_wp2
          go_ret2
          exact ⟨by rw [hq.out, hst.out, if_neg (by omega)]; rfl, rfl⟩
      · go_wp2
        go_ret2
        exact ⟨by rw [hq.out, hst.out, if_neg (by omega)]; rfl, rfl⟩
    · go_wp2
      go_ret2
      exact ⟨by rw [hq.out, List.drop_eq_nil_of_le (by rw [← hN.out]; omega)]; rfl, rfl⟩

/-- What the document says is read at a place: the number, the place behind it, the error. -/
def numS (l : List UInt8) (a most : Int) : Int × Int × Int :=
  if a < 0 ∨ (l.length : Int) < a then (0, 0, 1)
  else if dEnd l a.toNat = a.toNat then (0, 0, 9)
  else match valS most ((l.take (dEnd l a.toNat)).drop a.toNat) 0 with
    | none => (0, 0, 3)
    | some v => (v, dEnd l a.toNat, 0)
def three (x : Int × Int × Int) : Ending := .returned (.tuple #[.int .i64 x.1, .int .i64 x.2.1, .int .i64 x.2.2])

theorem num_any (A : Option Addr) (cap : Nat) (l : List UInt8) (n : Nat) (a most : Int) (B : Nat) (w : World) (hn : n = l.length) (hr : Byt w B A l) (hl : n ≤ maxLen) (hcap : n ≤ cap)
    (hm1 : -9223372036854775808 ≤ most) (hm : most ≤ 9223372036854775807) :
    Calls Try.prog 58 #[.slice A n cap, .int .i64 a, .int .i64 most] w fun e w' => e = three (numS l a most) ∧ w = w' := by
  have hl' := hl
  unfold maxLen at hl
  by_cases h1 : 0 ≤ a
  · obtain ⟨j, rfl⟩ := Int.eq_ofNat_of_zero_le h1
    by_cases h2 : j ≤ n
    · have hle := dEnd_le (l := l) (k := j) (by omega)
      have hge := dEnd_ge l j
      have hle2 : dEnd l j ≤ n := by omega
      have HF := Lib.hid (digitsEnd_any A cap l n j B w hn hr h2 hl')
      by_cases h3 : dEnd l j = j
      · have hz : numS l j most = (0, 0, 9) := by
          unfold numS; rw [if_neg (by omega), if_pos (by simpa using h3)]
        rw [hz]
        rw [h3] at HF
        clear hz hle hge hle2 hn h3 hr hl'
        go_enter Try.func58, Try.ntmps58
        go_wp2_with (go_at_call 64; refine (HF.out).mono ?_; rintro e w' ⟨rfl, rfl⟩)
        go_ret3
        exact ⟨rfl, rfl⟩
      · have hdig : ∀ c ∈ (l.take (dEnd l j)).drop j, cDigit c.toNat = true := dEnd_digits l j
        have hlen : ((l.take (dEnd l j)).drop j).length = dEnd l j - j := by rw [List.length_drop, List.length_take]; omega
        have hcj : ¬ cap = j := by omega
        obtain ⟨ad, hA, -⟩ := hr.at_ (k := j) (by omega)
        subst hA
        have hb := hr.cut (i := j) hle (by omega : l.length ≤ cap)
        rw [if_neg hcj] at hb
        have HV : Hid (∀ cap' : Nat, Calls Try.prog 65 #[.slice (some (ad.add j)) (dEnd l j - j : Nat) cap', .int .i64 most] w fun e w' => e = valR (valS most ((l.take (dEnd l j)).drop j) 0) ∧ w = w') :=
          Lib.hid fun cap' => value_any _ cap' ((l.take (dEnd l j)).drop j) (dEnd l j - j) most B w hlen.symm hb (by unfold maxLen; omega) hdig hm1 hm
        have hz : numS l j most = match valS most ((l.take (dEnd l j)).drop j) 0 with | none => (0, 0, 3) | some v => (v, (dEnd l j : Int), 0) := by
          unfold numS; rw [if_neg (by omega), if_neg (by simpa using h3)]; rfl
        rw [hz]
        clear hz hdig hlen hr hl' hb
        have hne : ((dEnd l j : Int) == (j : Int)) = false := by simp; omega
        generalize valS most ((l.take (dEnd l j)).drop j) 0 = ov at *
        generalize dEnd l j = d at *
        clear hn h3
        cases ov with
        | none =>
          go_enter Try.func58, Try.ntmps58
          go_wp2_with (first
            | (go_at_call 64; refine (HF.out).mono ?_; rintro e w' ⟨rfl, rfl⟩)
            | (go_at_call 65; refine (HV.out _).mono ?_; rintro e w' ⟨he, rfl⟩; rw [valR_none] at he; subst he))
          go_ret3
          exact ⟨rfl, rfl⟩
        | some v =>
          go_enter Try.func58, Try.ntmps58
          go_wp2_with (first
            | (go_at_call 64; refine (HF.out).mono ?_; rintro e w' ⟨rfl, rfl⟩)
            | (go_at_call 65; refine (HV.out _).mono ?_; rintro e w' ⟨he, rfl⟩; rw [valR_some] at he; subst he))
          go_ret3
          exact ⟨rfl, rfl⟩
    · have hz : numS l j most = (0, 0, 1) := by unfold numS; rw [if_pos (by omega)]
      rw [hz]
      clear hz hn hr
      go_enter Try.func58, Try.ntmps58
      go_wp2
      go_ret3
      exact ⟨rfl, rfl⟩
  · have hz : numS l a most = (0, 0, 1) := by unfold numS; rw [if_pos (by omega)]
    rw [hz]
    clear hz hn hr
    go_enter Try.func58, Try.ntmps58
    go_wp2
    go_ret3
    exact ⟨rfl, rfl⟩
end Go.Proofs.Ytnfbgpjadnlgbab
