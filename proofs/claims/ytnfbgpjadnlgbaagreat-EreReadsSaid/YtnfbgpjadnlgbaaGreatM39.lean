/- The contract of the reference's Num: the same answer as the document's numS. An interval on the whole text; the contract of the reference's Interval. The contract of the reference's Interval. -/
import Derived.Test.YtnfbgpjadnlgbaaGreatM11
import Derived.Test.YtnfbgpjadnlgbaaGreatM29
set_option maxRecDepth 100000
namespace Go.Proofs.YtnfbgpjadnlgbaaGreat
open Go.RowKit

/-- The number that digits make, on from n. -/
def numF : List UInt8 → Int → Int
  | [], n => n
  | c :: r, n => numF r (n * 10 + ((c.toNat : Int) - 48))
theorem numF_ge : ∀ (l : List UInt8) (n : Int), 0 ≤ n → (∀ c ∈ l, cDigit c.toNat = true) → n ≤ numF l n
  | [], n, _, _ => Int.le_refl _
  | c :: r, n, h, hd => by
    have hc := cDigit_bd (hd c (by simp))
    have := numF_ge r (n * 10 + ((c.toNat : Int) - 48)) (by omega) (fun x hx => hd x (List.mem_cons_of_mem _ hx))
    rw [numF]; omega
theorem valS_eq (most : Int) : ∀ (l : List UInt8) (n : Int), 0 ≤ n → (∀ c ∈ l, cDigit c.toNat = true) → (n ≤ most ∨ l ≠ []) →
    valS most l n = if numF l n ≤ most then some (numF l n) else none
  | [], n, _, _, h => by
    rcases h with h | h
    · rw [numF, if_pos h]; rfl
    · exact absurd rfl h
  | c :: r, n, h0, hd, _ => by
    have hc := cDigit_bd (hd c (by simp))
    have hr : ∀ x ∈ r, cDigit x.toNat = true := fun x hx => hd x (List.mem_cons_of_mem _ hx)
    by_cases h1 : n * 10 + ((c.toNat : Int) - 48) ≤ most
    · rw [valS, if_pos h1, numF]
      exact valS_eq most r _ (by omega) hr (.inl h1)
    · have := numF_ge r (n * 10 + ((c.toNat : Int) - 48)) (by omega) hr
      rw [valS, if_neg h1, numF, if_neg (by omega)]
theorem numF_snoc : ∀ (l : List UInt8) (c : UInt8) (n : Int), numF (l ++ [c]) n = numF l n * 10 + ((c.toNat : Int) - 48)
  | [], _, _ => rfl
  | x :: r, c, n => by rw [List.cons_append, numF, numF, numF_snoc r c]
theorem take_drop_snoc (l : List UInt8) (a k : Nat) (h : a ≤ k) (hk : k < l.length) : (l.take (k + 1)).drop a = (l.take k).drop a ++ [l[k]'hk] := by
  rw [List.take_succ_eq_append_getElem hk, List.drop_append_of_le_length (by rw [List.length_take]; omega)]

/-- How far the reference has come: what it holds of the digits so far. -/
def RefAt (v : Int) (n : Int) (over : Bool) : Prop := 0 ≤ n ∧ n ≤ 9223372036854775807 ∧ ((over = false ∧ v = n) ∨ (over = true ∧ 9223372036854775807 < v))

theorem refAt_more {v x d : Int} {o : Bool} (h : RefAt v x o) (h0 : 0 ≤ d) (h1 : x * 10 + d ≤ 9223372036854775807) : RefAt (v * 10 + d) (x * 10 + d) o := by
  obtain ⟨a, b, c | c⟩ := h
  · exact ⟨by omega, h1, .inl ⟨c.1, by rw [c.2]⟩⟩
  · exact ⟨by omega, h1, .inr ⟨c.1, by omega⟩⟩
theorem refAt_over {v x d : Int} {o : Bool} (h : RefAt v x o) (h0 : 0 ≤ d) (h1 : 9223372036854775807 < x * 10 + d) : RefAt (v * 10 + d) x true := by
  obtain ⟨a, b, c | c⟩ := h
  · exact ⟨a, b, .inr ⟨rfl, by omega⟩⟩
  · exact ⟨a, b, .inr ⟨rfl, by omega⟩⟩
theorem digits_end {l : List UInt8} {a : Nat} (ha : a ≤ l.length) : dEnd l a ≤ l.length ∧ a ≤ dEnd l a := ⟨dEnd_le ha, dEnd_ge l a⟩
/-- What the reference answers where the digits have ended at j. -/
theorem numS_end {l : List UInt8} {a j : Nat} {x most : Int} {o : Bool} (ha : a ≤ l.length) (hj : dEnd l a = j) (hx : RefAt (numF ((l.take j).drop a) 0) x o) (hm : most ≤ 9223372036854775807) :
    numS l a most = if j = a then (0, 0, 9) else if o = true ∨ most < x then (0, 0, 3) else (x, (j : Int), 0) := by
  unfold numS
  rw [if_neg (by omega), Int.toNat_natCast, hj]
  by_cases h1 : j = a
  · rw [if_pos h1, if_pos h1]
  · rw [if_neg h1, if_neg h1]
    have hdig := dEnd_digits l a
    rw [hj] at hdig
    have hb := digits_end ha
    rw [hj] at hb
    have hne : (l.take j).drop a ≠ [] := by
      intro h
      have := congrArg List.length h
      rw [List.length_drop, List.length_take, List.length_nil] at this
      omega
    rw [valS_eq most _ 0 (Int.le_refl _) hdig (.inr hne)]
    obtain ⟨p, q, c | c⟩ := hx
    · rw [c.2]
      by_cases h2 : x ≤ most
      · rw [if_pos h2, if_neg (by rw [c.1]; simp; omega)]
      · rw [if_neg h2, if_pos (.inr (by omega))]
    · rw [if_neg (by omega), if_pos (.inl c.1)]

theorem end_a {l : List UInt8} {a j : Nat} {x most : Int} {o : Bool} (h : numS l a most = if j = a then (0, 0, 9) else if o = true ∨ most < x then (0, 0, 3) else (x, (j : Int), 0)) (h1 : ((j : Int) == (a : Int)) = true) :
    Ending.returned (.tuple #[.int .i64 0, .int .i64 0, .int .i64 9]) = three (numS l a most) := by
  rw [h, if_pos (by simp at h1; omega)]; rfl
theorem end_3 {l : List UInt8} {a j : Nat} {x most : Int} {o : Bool} (h : numS l a most = if j = a then (0, 0, 9) else if o = true ∨ most < x then (0, 0, 3) else (x, (j : Int), 0)) (h1 : ((j : Int) == (a : Int)) = false)
    (h2 : o = true ∨ most < x) : Ending.returned (.tuple #[.int .i64 0, .int .i64 0, .int .i64 3]) = three (numS l a most) := by
  rw [h, if_neg (by simp at h1; omega), if_pos h2]; rfl
theorem end_v {l : List UInt8} {a j : Nat} {x most : Int} {o : Bool} (h : numS l a most = if j = a then (0, 0, 9) else if o = true ∨ most < x then (0, 0, 3) else (x, (j : Int), 0)) (h1 : ((j : Int) == (a : Int)) = false)
    (h2 : ¬ o = true) (h3 : x ≤ most) : Ending.returned (.tuple #[.int .i64 x, .int .i64 (j : Int), .int .i64 0]) = three (numS l a most) := by
  rw [h, if_neg (by simp at h1; omega), if_neg (by rintro (k | k); exact h2 k; omega)]; rfl

def RefRel (l : List UInt8) (a N : Nat) (k n ov : Value) : Prop := ∃ (j : Nat) (x : Int) (o : Bool), a ≤ j ∧ j ≤ N ∧ k = .int .i64 (j : Int) ∧ n = .int .i64 x ∧ ov = .bool o ∧ Hid (dEnd l a = dEnd l j) ∧ Hid (RefAt (numF ((l.take j).drop a) 0) x o)
theorem RefRel.mk {l : List UInt8} {a N : Nat} {k n ov : Value} (h : ∃ (j : Nat) (x : Int) (o : Bool), a ≤ j ∧ j ≤ N ∧ k = .int .i64 (j : Int) ∧ n = .int .i64 x ∧ ov = .bool o ∧ Hid (dEnd l a = dEnd l j) ∧ Hid (RefAt (numF ((l.take j).drop a) 0) x o)) : RefRel l a N k n ov := h

set_option maxHeartbeats 4000000 in
theorem refNum_in (A : Option Addr) (cap : Nat) (l : List UInt8) (N a : Nat) (most : Int) (B : Nat) (w : World) (hn : N = l.length) (hr : Byt w B A l) (hl : N ≤ maxLen) (ha : a ≤ N)
    (hm : most ≤ 9223372036854775807) :
    Calls Tryz.prog 69 #[.slice A N cap, .int .i64 (a : Int), .int .i64 most] w fun e w' => e = three (numS l a most) ∧ w = w' := by
  unfold maxLen at hl
  have hR := Lib.hid hr
  have hN := Lib.hid hn
  clear hr hn
  go_enter Tryz.func69, Tryz.ntmps69
  go_wp2
  go_loop [9, 10, 11] (fun k n ov => RefRel l a N k n ov) (fun k _ _ => N - (intOf k).toNat)
  case atStart => exact RefRel.mk (l := l) (a := a) (N := N) ⟨a, 0, false, Nat.le_refl _, ha, rfl, rfl, rfl, rfl, Lib.hid (by rw [List.drop_eq_nil_of_le (by rw [List.length_take]; omega)]; exact ⟨by omega, by omega, .inl ⟨rfl, rfl⟩⟩)⟩
  case round =>
    obtain ⟨j, x, o, hj1, hj2, rfl, rfl, rfl, hq, hx⟩ := hrel
    have hx0 := hx.out.1
    have hx1 := hx.out.2.1
    by_cases hlt : j < N
    · have hlk : j < l.length := by rw [← hN.out]; exact hlt
      obtain ⟨ad, hA, hb, hc⟩ := hR.out.at_ hlk
      subst hA
      have hsn := Lib.hid (take_drop_snoc l a j hj1 hlk)
      have hyes : Hid (cDigit ((l[j]'hlk).toNat : Int) = true → dEnd l j = dEnd l (j + 1)) := Lib.hid (dEnd_yes hlk)
      have hno : Hid (cDigit ((l[j]'hlk).toNat : Int) = false → dEnd l j = j) := Lib.hid (dEnd_no hlk)
      generalize l[j]'hlk = c at *
      have hnx : Hid (numF ((l.take (j + 1)).drop a) 0 = numF ((l.take j).drop a) 0 * 10 + ((c.toNat : Int) - 48)) := Lib.hid (by rw [hsn.out, numF_snoc])
      obtain ⟨d, hd⟩ : ∃ d : Int, (c.toNat : Int) = d := ⟨_, rfl⟩
      rw [hd] at hc hyes hno hnx
      have hd0 : 0 ≤ d := by omega
      have hd1 : d ≤ 255 := by have := c.toNat_lt; omega
      clear hd hsn
      by_cases h1 : 48 ≤ d
      · by_cases h2 : d ≤ 57
        · have hy := Lib.hid (hyes.out (isW_in h1 h2))
          clear hyes hno
          by_cases h3 : 922337203685477580 < x
          · go_wp2
            go_round
            case rel => exact RefRel.mk (l := l) (a := a) (N := N) ⟨j + 1, x, true, by omega, by omega, by go_num, rfl, rfl, by rw [hq.out]; exact hy, by rw [hnx.out]; exact refAt_over hx.out (by omega) (by omega)⟩
            case measure => simp [intOf]; omega
          · by_cases h4 : 922337203685477580 ≤ x
            · obtain rfl : x = 922337203685477580 := by omega
              clear h3 h4
              by_cases h5 : 7 < d - 48
              · go_wp2
                go_round
                case rel => exact RefRel.mk (l := l) (a := a) (N := N) ⟨j + 1, 922337203685477580, true, by omega, by omega, by go_num, rfl, rfl, by rw [hq.out]; exact hy, by rw [hnx.out]; exact refAt_over hx.out (by omega) (by omega)⟩
                case measure => simp [intOf]; omega
              · go_wp2
                go_round
                case rel => exact RefRel.mk (l := l) (a := a) (N := N) ⟨j + 1, 922337203685477580 * 10 + (d - 48), o, by omega, by omega, by go_num, by go_num, rfl, by rw [hq.out]; exact hy, by rw [hnx.out]; exact refAt_more hx.out (by omega) (by omega)⟩
                case measure => simp [intOf]; omega
            · have h4' : x < 922337203685477580 := by omega
              have hne : (x == 922337203685477580) = false := by simp; omega
              clear h4 h3
              go_wp2
              go_round
              case rel => exact ⟨_, _, _, RefRel.mk (l := l) (a := a) (N := N) ⟨j + 1, x * 10 + (d - 48), o, by omega, by omega, rfl, rfl, rfl, by rw [hq.out]; exact hy, by rw [hnx.out]; exact refAt_more hx.out (by omega) (by omega)⟩, by go_num, rfl, rfl⟩
              case measure => simp [intOf]; omega
        · have hy := Lib.hid (hno.out (isW_hi (by omega)))
          clear hyes hno hnx
          go_wp2
          all_goals
            go_ret3
            refine ⟨?_, rfl⟩
            have hS := numS_end (by rw [← hN.out]; exact ha) (hq.out.trans hy.out) hx.out hm
            first | exact end_a hS (by assumption) | exact end_3 hS (by assumption) (.inl (by assumption)) | exact end_3 hS (by assumption) (.inr (by assumption)) | exact end_v hS (by assumption) (by assumption) (by assumption)
      · have hy := Lib.hid (hno.out (isW_lo (by omega)))
        clear hyes hno hnx
        go_wp2
        all_goals
          go_ret3
          refine ⟨?_, rfl⟩
          have hS := numS_end (by rw [← hN.out]; exact ha) (hq.out.trans hy.out) hx.out hm
          first | exact end_a hS (by assumption) | exact end_3 hS (by assumption) (.inl (by assumption)) | exact end_3 hS (by assumption) (.inr (by assumption)) | exact end_v hS (by assumption) (by assumption) (by assumption)
    · have hy := Lib.hid (dEnd_stop (l := l) (k := j) (by rw [← hN.out]; omega))
      go_wp2
      all_goals
        go_ret3
        refine ⟨?_, rfl⟩
        have hS := numS_end (by rw [← hN.out]; exact ha) (hq.out.trans hy.out) hx.out hm
        first | exact end_a hS (by assumption) | exact end_3 hS (by assumption) (.inl (by assumption)) | exact end_3 hS (by assumption) (.inr (by assumption)) | exact end_v hS (by assumption) (by assumption) (by assumption)

theorem refNum_any (A : Option Addr) (cap : Nat) (l : List UInt8) (N : Nat) (a most : Int) (B : Nat) (w : World) (hn : N = l.length) (hr : Byt w B A l) (hl : N ≤ maxLen) (hm : most ≤ 9223372036854775807) :
    Calls Tryz.prog 69 #[.slice A N cap, .int .i64 a, .int .i64 most] w fun e w' => e = three (numS l a most) ∧ w = w' := by
  by_cases h1 : 0 ≤ a
  · obtain ⟨j, rfl⟩ := Int.eq_ofNat_of_zero_le h1
    by_cases h2 : j ≤ N
    · exact refNum_in A cap l N j most B w hn hr hl h2 hm
    · have hz : numS l j most = (0, 0, 1) := by unfold numS; rw [if_pos (by omega)]
      rw [hz]
      unfold maxLen at hl
      clear hz hn hr
      go_enter Tryz.func69, Tryz.ntmps69
      go_wp2
      go_ret3
      exact ⟨rfl, rfl⟩
  · have hz : numS l a most = (0, 0, 1) := by unfold numS; rw [if_pos (by omega)]
    rw [hz]
    clear hz hn hr hl
    go_enter Tryz.func69, Tryz.ntmps69
    go_wp2
    go_ret3
    exact ⟨rfl, rfl⟩
end Go.Proofs.YtnfbgpjadnlgbaaGreat

set_option linter.unusedVariables false
set_option maxRecDepth 100000
namespace Go.Proofs.YtnfbgpjadnlgbaaGreat
open Go.RowKit

/-- What Interval tells. -/
def rivR : Option (Int × Int × Nat) → Ending
  | none => .returned (.tuple #[.int .i64 0, .int .i64 0, .int .i64 0, .bool false])
  | some (lo, hi, k) => .returned (.tuple #[.int .i64 lo, .int .i64 hi, .int .i64 (k : Int), .bool true])
end Go.Proofs.YtnfbgpjadnlgbaaGreat

set_option linter.unusedVariables false
set_option maxRecDepth 100000
namespace Go.Proofs.YtnfbgpjadnlgbaaGreat
open Go.RowKit

section
variable {w : World} {B T : Nat} {A : Option Addr} {n c : Nat} {l : List UInt8} {v : Value} {ns : List Nod} {g i : Nat} {cl : Nat → Bool} {e : Nat} (h : Rdr w B T A n c l v ns g i cl e)
include h
theorem rnum_at {a : Nat} {x y q : Int} (hs : numS l (a : Int) 255 = (x, y, q)) : Calls Tryz.prog 69 #[.slice A n c, .int .i64 (a : Int), .int .i64 255] w fun e w' => e = .returned (.tuple #[.int .i64 x, .int .i64 y, .int .i64 q]) ∧ w = w' := by
  have hI := h.inp
  have := refNum_any A c l n (a : Int) 255 w.heap.size w hI.1 hI.2.2.2.2.1 (Nat.le_trans hI.2.1 hI.2.2.1) (by decide)
  rw [hs] at this
  exact this
set_option maxHeartbeats 8000000 in
theorem rinterval_any {a : Nat} (ha : a ≤ n) : Calls Tryz.prog 54 #[.pointer (some ⟨T, 0, none⟩), .int .i64 (a : Int)] w fun e w' => e = rivR (rivI l a) ∧ w = w' := by
  have hnl := h.hn
  have hns : n ≤ 100000 := h.txt.2.2.2.1
  have hnc : n ≤ c := h.inp.2.1
  have c0 := h.c0
  unfold rivI
  cases hs : numS l (a : Int) 255 with
  | mk x q =>
    obtain ⟨y, e1⟩ := q
    have hN := Lib.hid (rnum_at h hs)
    by_cases he : e1 = 0
    · subst he
      obtain ⟨k, rfl, hk1, hk2, hx0, hx1⟩ := numS_ok hs
      simp only [ne_eq, not_true_eq_false, if_false, Int.toNat_natCast]
      have hki : (k : Int) ≤ 100000 := by omega
      have hk0 : (0 : Int) ≤ (k : Int) := by omega
      by_cases hlt : k < n
      · obtain ⟨b, hx⟩ : ∃ b, l[k]? = some b := ⟨_, List.getElem?_eq_getElem (by omega)⟩
        obtain ⟨ad, rfl, hcell⟩ := h.byte hx
        have hkn : (k : Int) < (n : Int) := by omega
        rw [nx_some hx]
        by_cases hb : b = 44
        · subst hb
          replace hcell : w.cell? (ad.add k) = some (.int .u8 44) := hcell
          rw [if_neg (by decide)]
          obtain ⟨p, hp⟩ : ∃ p, p = k + 1 := ⟨_, rfl⟩
          rw [← hp]
          have hw : IntKind.i64.wrap ((k : Int) + 1) = (p : Int) := by rw [IntWalk.i64_in _ (by omega)]; omega
          have hwf : (k : Int) + 1 = (p : Int) := by omega
          replace hwf := Lib.hid hwf
          have hpn : p ≤ l.length := by omega
          cases hs2 : numS l (p : Int) 255 with
          | mk x2 q2 =>
            obtain ⟨y2, e2⟩ := q2
            have hM := Lib.hid (rnum_at h hs2)
            simp only
            rcases numS_err hpn hs2 with rfl | rfl | rfl
            · obtain ⟨k2, rfl, hk4, hk5, hy0, hy1⟩ := numS_ok hs2
              rw [Int.toNat_natCast]
              by_cases hlx : x2 < x
              · rw [if_pos (.inr ⟨rfl, hlx⟩)]
                clear h hx hs hs2 hp hnl hk2 hk5 hpn
                unfold rivR
                go_enter Tryz.func54, Tryz.ntmps54
                go_wp2_with (first
                  | (go_at_call 69; (with_reducible refine (hN.out).mono ?_); rintro e w1 ⟨rfl, rfl⟩)
                  | (go_at_call 69; (with_reducible refine (hM.out).mono ?_); rintro e w1 ⟨rfl, rfl⟩))
                exact bodyPost_ret (results_tmp4 Tryz.results54 _ _ _) rfl ⟨rfl, rfl⟩
              · rw [if_neg (by omega), if_neg (by decide)]
                clear h hx hs hs2 hp hnl hk2 hk5 hpn
                unfold rivR
                go_enter Tryz.func54, Tryz.ntmps54
                go_wp2_with (first
                  | (go_at_call 69; (with_reducible refine (hN.out).mono ?_); rintro e w1 ⟨rfl, rfl⟩)
                  | (go_at_call 69; (with_reducible refine (hM.out).mono ?_); rintro e w1 ⟨rfl, rfl⟩))
                exact bodyPost_ret (results_tmp4 Tryz.results54 _ _ _) rfl ⟨rfl, rfl⟩
            · rw [if_pos (.inl rfl)]
              clear h hx hs hs2 hp hnl hk2 hpn
              unfold rivR
              go_enter Tryz.func54, Tryz.ntmps54
              go_wp2_with (first
                | (go_at_call 69; (with_reducible refine (hN.out).mono ?_); rintro e w1 ⟨rfl, rfl⟩)
                | (go_at_call 69; (with_reducible refine (hM.out).mono ?_); rintro e w1 ⟨rfl, rfl⟩))
              exact bodyPost_ret (results_tmp4 Tryz.results54 _ _ _) rfl ⟨rfl, rfl⟩
            · rw [if_neg (by omega), if_pos (by decide)]
              clear h hx hs hs2 hp hnl hk2 hpn
              unfold rivR
              go_enter Tryz.func54, Tryz.ntmps54
              go_wp2_with (first
                | (go_at_call 69; (with_reducible refine (hN.out).mono ?_); rintro e w1 ⟨rfl, rfl⟩)
                | (go_at_call 69; (with_reducible refine (hM.out).mono ?_); rintro e w1 ⟨rfl, rfl⟩))
              exact bodyPost_ret (results_tmp4 Tryz.results54 _ _ _) rfl ⟨rfl, rfl⟩
        · have hne : (b.toNat : Int) ≠ 44 := fun e => hb (UInt8.toNat_inj.1 (show b.toNat = 44 by omega))
          have hbn : ((b.toNat : Int) != 44) = true := by rw [bne_iff_ne]; exact hne
          rw [if_pos hne]
          clear hne
          clear h hx hs hnl hk2 hb
          unfold rivR
          go_enter Tryz.func54, Tryz.ntmps54
          go_wp2_with (first
            | (go_at_call 69; (with_reducible refine (hN.out).mono ?_); rintro e w1 ⟨rfl, rfl⟩))
          exact bodyPost_ret (results_tmp4 Tryz.results54 _ _ _) rfl ⟨rfl, rfl⟩
      · rw [nx_none (by omega), if_pos (by decide)]
        obtain rfl : k = n := by omega
        clear h hs hnl hk2 hlt
        unfold rivR
        go_enter Tryz.func54, Tryz.ntmps54
        go_wp2_with (first
          | (go_at_call 69; (with_reducible refine (hN.out).mono ?_); rintro e w1 ⟨rfl, rfl⟩))
        exact bodyPost_ret (results_tmp4 Tryz.results54 _ _ _) rfl ⟨rfl, rfl⟩
    · simp only [ne_eq, he, not_false_eq_true, if_true]
      have heb : (e1 != 0) = true := by rw [bne_iff_ne]; exact he
      clear h hs hnl he
      unfold rivR
      go_enter Tryz.func54, Tryz.ntmps54
      go_wp2_with (first
        | (go_at_call 69; (with_reducible refine (hN.out).mono ?_); rintro e w1 ⟨rfl, rfl⟩))
      exact bodyPost_ret (results_tmp4 Tryz.results54 _ _ _) rfl ⟨rfl, rfl⟩
end
end Go.Proofs.YtnfbgpjadnlgbaaGreat
