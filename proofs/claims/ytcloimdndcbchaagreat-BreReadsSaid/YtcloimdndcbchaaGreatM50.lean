/- An interval on the whole text; the contract of the reference's Interval. The contract of the reference's Interval. -/
import Derived.Test.YtcloimdndcbchaaGreatM37
import Derived.Test.YtcloimdndcbchaaGreatM49
set_option linter.unusedVariables false
set_option maxRecDepth 100000
namespace Go.Proofs.YtcloimdndcbchaaGreat
open Go.RowKit

theorem dEnd_drop (t : List UInt8) (i k : Nat) : dEnd t (i + k) = i + dEnd (t.drop i) k := by
  unfold dEnd; rw [List.drop_drop]; omega
theorem numS_drop (t : List UInt8) (i k : Nat) (most : Int) (h : i + k ≤ t.length) :
    numS t ((i + k : Nat) : Int) most = match numS (t.drop i) (k : Int) most with | (x, y, e) => (x, (if e = 0 then y + i else 0), e) := by
  have g1 : ¬ (((i + k : Nat) : Int) < 0 ∨ (t.length : Int) < ((i + k : Nat) : Int)) := by omega
  have g2 : ¬ ((k : Int) < 0 ∨ ((t.drop i).length : Int) < (k : Int)) := by rw [List.length_drop]; omega
  unfold numS
  rw [if_neg g1, if_neg g2, Int.toNat_natCast, Int.toNat_natCast, dEnd_drop]
  have he : (t.take (i + dEnd (t.drop i) k)).drop (i + k) = ((t.drop i).take (dEnd (t.drop i) k)).drop k := by
    rw [List.drop_take, List.drop_take, List.drop_drop]
    congr 1; omega
  rw [he]
  by_cases hd : dEnd (t.drop i) k = k
  · rw [if_pos (by omega), if_pos hd]; rfl
  · rw [if_neg (by omega), if_neg hd]
    cases valS most (((t.drop i).take (dEnd (t.drop i) k)).drop k) 0 with
    | none => rfl
    | some v => simp only [if_true]; rw [Prod.mk.injEq, Prod.mk.injEq]; exact ⟨rfl, by omega, rfl⟩
theorem numS_drop_ok {t : List UInt8} {i k : Nat} {most x y : Int} (h : i + k ≤ t.length) (hs : numS t ((i + k : Nat) : Int) most = (x, y, 0)) : numS (t.drop i) (k : Int) most = (x, y - i, 0) := by
  rw [numS_drop t i k most h] at hs
  cases hn : numS (t.drop i) (k : Int) most with
  | mk a b =>
    obtain ⟨b, c⟩ := b
    rw [hn] at hs
    simp only [Prod.mk.injEq] at hs
    obtain ⟨rfl, h2, rfl⟩ := hs
    rw [if_pos rfl] at h2
    rw [show y - (i : Int) = b by omega]
theorem numS_drop_bad {t : List UInt8} {i k : Nat} {most x y e : Int} (h : i + k ≤ t.length) (hs : numS t ((i + k : Nat) : Int) most = (x, y, e)) : (numS (t.drop i) (k : Int) most).2.2 = e ∧ (numS (t.drop i) (k : Int) most).1 = x := by
  rw [numS_drop t i k most h] at hs
  cases hn : numS (t.drop i) (k : Int) most with
  | mk a b =>
    obtain ⟨b, c⟩ := b
    rw [hn] at hs
    simp only [Prod.mk.injEq] at hs
    exact ⟨hs.2.2, hs.1⟩
theorem numS_err {t : List UInt8} {a : Nat} {most x y e : Int} (h : a ≤ t.length) (hs : numS t (a : Int) most = (x, y, e)) : e = 0 ∨ e = 3 ∨ e = 9 := by
  unfold numS at hs
  rw [if_neg (by omega)] at hs
  split at hs
  · simp only [Prod.mk.injEq] at hs; omega
  · split at hs
    · simp only [Prod.mk.injEq] at hs; omega
    · simp only [Prod.mk.injEq] at hs; omega
theorem numS_none {t : List UInt8} {a : Nat} {most : Int} {x : UInt8} {r : List UInt8} (hd : t.drop a = x :: r) (hx : cDigit (x.toNat : Int) = false) : numS t (a : Int) most = (0, 0, 9) := by
  have hl : a < t.length := by
    have := congrArg List.length hd
    rw [List.length_drop, List.length_cons] at this; omega
  unfold numS
  rw [if_neg (by omega), Int.toNat_natCast, if_pos (dEnd_no hl (by rw [List.drop_eq_getElem_cons hl] at hd; injection hd with hd _; rw [hd]; exact hx))]
/-- What the reference tells of the interval whose numbers begin at a: the numbers, and the place of the byte behind. -/
def rivI (t : List UInt8) (a : Nat) : Option (Int × Int × Nat) :=
  match numS t (a : Int) 255 with
  | (x, y, e) => if e ≠ 0 then none else if nx t y.toNat ≠ 44 then some (x, x, y.toNat) else
    match numS t ((y.toNat + 1 : Nat) : Int) 255 with
    | (x2, y2, e2) => if e2 = 3 ∨ (e2 = 0 ∧ x2 < x) then none else if e2 ≠ 0 then some (x, -1, y.toNat + 1) else some (x, x2, y2.toNat)
theorem nx_bg (t : List UInt8) (k : Nat) (c : UInt8) : nx t k = (c.toNat : Int) ↔ bg [c] (t.drop k) = true := by
  have h := nx_drop t k 0
  rw [Nat.add_zero] at h
  rw [h, nx_eq]
theorem ivl_riv {t : List UInt8} {i : Nat} (hb : bg [92, 123] (t.drop i) = true) : ivl t i = match rivI t (i + 2) with
    | some (lo, hi, k) => if bg [92, 125] (t.drop k) = true then some (lo, hi, k + 2) else none
    | none => none := by
  have hlen : i + 2 ≤ t.length := by have := bg_room hb; simp at this; omega
  unfold ivl ivB rivI
  cases h1 : numS t ((i + 2 : Nat) : Int) 255 with
  | mk x q =>
    obtain ⟨y, e⟩ := q
    by_cases he : e = 0
    · subst he
      obtain ⟨k, rfl, hk1, hk2, hx0, hx1⟩ := numS_ok h1
      have h2 := numS_drop_ok hlen h1
      rw [show ((2 : Nat) : Int) = 2 from rfl] at h2
      rw [h2]
      have e1 : ((k : Int) - (i : Int)).toNat = k - i := by omega
      have e2 : (t.drop i).drop (k - i) = t.drop k := by rw [List.drop_drop]; congr 1; omega
      simp only [e1, e2, Int.toNat_natCast, ne_eq, not_true_eq_false, if_false]
      by_cases hc : nx t k = 44
      · have hc1 : bg [44] (t.drop k) = true := (nx_bg t k 44).1 hc
        have hk3 : k + 1 ≤ t.length := by have := bg_room hc1; simp at this; omega
        have hcn : ¬ ¬ nx t k = 44 := by simp [hc]
        rw [if_neg hcn]
        cases h3 : numS t ((k + 1 : Nat) : Int) 255 with
        | mk x2 q2 =>
          obtain ⟨y2, e3⟩ := q2
          simp only
          by_cases hbb : bg [44, 92, 125] (t.drop k) = true
          · have hb1 := bg_tail hbb
            obtain ⟨r, hr⟩ := drop_two hb1
            rw [numS_none hr (by decide)] at h3
            simp only [Prod.mk.injEq] at h3
            obtain ⟨rfl, rfl, rfl⟩ := h3
            rw [if_pos hbb, if_neg (by omega), if_pos (by decide)]
            simp only [hb1, if_true, Option.map_some, Option.some.injEq, Prod.mk.injEq, true_and]
            omega
          · rw [if_neg hbb, if_pos hc1]
            have hcast : (k : Int) - (i : Int) + 1 = ((k - i + 1 : Nat) : Int) := by omega
            have h3' : numS t ((i + (k - i + 1) : Nat) : Int) 255 = (x2, y2, e3) := by rw [show i + (k - i + 1) = k + 1 by omega]; exact h3
            rw [hcast]
            rcases numS_err hk3 h3 with rfl | rfl | rfl
            · obtain ⟨k2, rfl, hk4, hk5, hx2, hx3⟩ := numS_ok h3
              have h4 := numS_drop_ok (by omega) h3'
              rw [h4]
              have e5 : ((k2 : Int) - (i : Int)).toNat = k2 - i := by omega
              have e6 : (t.drop i).drop (k2 - i) = t.drop k2 := by rw [List.drop_drop]; congr 1; omega
              simp only [e5, e6, Int.toNat_natCast]
              by_cases hlt : x2 < x
              · simp [hlt]
              · by_cases hz : bg [92, 125] (t.drop k2) = true
                · simp [hlt, hz]; omega
                · simp [hlt, hz]
            · have h4 := numS_drop_bad (by omega) h3'
              rw [if_pos (.inl (by rw [h4.1]; decide)), if_pos (.inl rfl)]; rfl
            · have h4 := numS_drop_bad (by omega) h3'
              have hno : ¬ bg [92, 125] (t.drop (k + 1)) = true := fun hz => hbb (by
                cases hd : t.drop k with
                | nil => rw [hd] at hc1; cases hc1
                | cons z r =>
                  have hd1 : t.drop (k + 1) = r := by
                    have := congrArg (List.drop 1) hd
                    rwa [List.drop_drop] at this
                  rw [hd, bg_cons, bg_nil, Bool.and_true] at hc1
                  rw [bg_cons, hc1, ← hd1, hz]; rfl)
              rw [if_pos (.inl (by rw [h4.1]; decide)), if_neg (by omega), if_pos (by decide)]
              simp [hno]
      · have hc1 : ¬ bg [44] (t.drop k) = true := fun h => hc ((nx_bg t k 44).2 h)
        have hc2 : ¬ bg [44, 92, 125] (t.drop k) = true := fun h => hc1 (by
          cases hd : t.drop k with
          | nil => rw [hd] at h; cases h
          | cons z r => rw [hd, bg_cons] at h; rw [bg_cons, bg_nil, Bool.and_true]; simp only [Bool.and_eq_true] at h; exact h.1)
        rw [if_neg hc2, if_neg hc1, if_pos hc]
        by_cases hz : bg [92, 125] (t.drop k) = true
        · simp only [hz, if_true, Option.map_some, Option.some.injEq, Prod.mk.injEq, true_and]; omega
        · simp [hz]
    · have h2 := numS_drop_bad hlen h1
      rw [show ((2 : Nat) : Int) = 2 from rfl] at h2
      rw [if_pos (by rw [h2.1]; exact he)]
      simp only [if_pos he]; rfl
theorem riv_in {t : List UInt8} {a : Nat} {lo hi : Int} {k : Nat} (ha : a ≤ t.length) (h : rivI t a = some (lo, hi, k)) : a < k ∧ k ≤ t.length := by
  unfold rivI at h
  cases h1 : numS t (a : Int) 255 with
  | mk x q =>
    obtain ⟨y, e⟩ := q
    rw [h1] at h
    simp only at h
    by_cases he : e = 0
    · subst he
      obtain ⟨k1, rfl, hk1, hk2, hx0, hx1⟩ := numS_ok h1
      rw [if_neg (by decide), Int.toNat_natCast] at h
      by_cases hc : nx t k1 = 44
      · have hk3 : k1 + 1 ≤ t.length := by have := bg_room ((nx_bg t k1 44).1 hc); simp at this; omega
        rw [if_neg (by rw [hc]; decide)] at h
        cases h3 : numS t ((k1 + 1 : Nat) : Int) 255 with
        | mk x2 q2 =>
          obtain ⟨y2, e3⟩ := q2
          rw [h3] at h
          simp only at h
          split at h
          · cases h
          · split at h
            · simp only [Option.some.injEq, Prod.mk.injEq] at h; omega
            · rename_i hz
              obtain rfl : e3 = 0 := by simpa using hz
              obtain ⟨k2, rfl, hk4, hk5, hx2, hx3⟩ := numS_ok h3
              simp only [Option.some.injEq, Prod.mk.injEq] at h; omega
      · rw [if_pos hc] at h
        simp only [Option.some.injEq, Prod.mk.injEq] at h; omega
    · rw [if_pos he] at h; cases h
/-- What Interval tells. -/
def rivR : Option (Int × Int × Nat) → Ending
  | none => .returned (.tuple #[.int .i64 0, .int .i64 0, .int .i64 0, .bool false])
  | some (lo, hi, k) => .returned (.tuple #[.int .i64 lo, .int .i64 hi, .int .i64 (k : Int), .bool true])
end Go.Proofs.YtcloimdndcbchaaGreat

set_option linter.unusedVariables false
set_option maxRecDepth 100000
namespace Go.Proofs.YtcloimdndcbchaaGreat
open Go.RowKit

section
variable {w : World} {B T : Nat} {A : Option Addr} {n c : Nat} {l : List UInt8} {v : Value} {ns : List Nod} {g i : Nat} {cl : Nat → Bool} {e : Nat} (h : Rdr w B T A n c l v ns g i cl e)
include h
theorem rnum_at {a : Nat} {x y q : Int} (hs : numS l (a : Int) 255 = (x, y, q)) : Calls Tryz.prog 61 #[.slice A n c, .int .i64 (a : Int), .int .i64 255] w fun e w' => e = .returned (.tuple #[.int .i64 x, .int .i64 y, .int .i64 q]) ∧ w = w' := by
  have hI := h.inp
  have := refNum_any A c l n (a : Int) 255 w.heap.size w hI.1 hI.2.2.2.2.1 (Nat.le_trans hI.2.1 hI.2.2.1) (by decide)
  rw [hs] at this
  exact this
set_option maxHeartbeats 8000000 in
theorem rinterval_any {a : Nat} (ha : a ≤ n) : Calls Tryz.prog 44 #[.pointer (some ⟨T, 0, none⟩), .int .i64 (a : Int)] w fun e w' => e = rivR (rivI l a) ∧ w = w' := by
  have hnl := h.hn
  have hns : n ≤ 100000 := h.txt.2.2.2.1
  have hnc : n ≤ c := h.inp.2.1
  have c0 := h.c0
  unfold rivI
  cases hs : numS l (a : Int) 255 with
  | mk x q =>
    obtain ⟨y, e1⟩ := q
    have hN := Lib.hid (rnum_at h hs)
    by_cases he : e1 = 0
    · subst he
      obtain ⟨k, rfl, hk1, hk2, hx0, hx1⟩ := numS_ok hs
      simp only [ne_eq, not_true_eq_false, if_false, Int.toNat_natCast]
      have hki : (k : Int) ≤ 100000 := by omega
      have hk0 : (0 : Int) ≤ (k : Int) := by omega
      by_cases hlt : k < n
      · obtain ⟨b, hx⟩ : ∃ b, l[k]? = some b := ⟨_, List.getElem?_eq_getElem (by omega)⟩
        obtain ⟨ad, rfl, hcell⟩ := h.byte hx
        have hkn : (k : Int) < (n : Int) := by omega
        rw [nx_some hx]
        by_cases hb : b = 44
        · subst hb
          replace hcell : w.cell? (ad.add k) = some (.int .u8 44) := hcell
          rw [if_neg (by decide)]
          obtain ⟨p, hp⟩ : ∃ p, p = k + 1 := ⟨_, rfl⟩
          rw [← hp]
          have hw : IntKind.i64.wrap ((k : Int) + 1) = (p : Int) := by rw [IntWalk.i64_in _ (by omega)]; omega
          have hwf : (k : Int) + 1 = (p : Int) := by omega
          replace hwf := Lib.hid hwf
          have hpn : p ≤ l.length := by omega
          cases hs2 : numS l (p : Int) 255 with
          | mk x2 q2 =>
            obtain ⟨y2, e2⟩ := q2
            have hM := Lib.hid (rnum_at h hs2)
            simp only
            rcases numS_err hpn hs2 with rfl | rfl | rfl
            · obtain ⟨k2, rfl, hk4, hk5, hy0, hy1⟩ := numS_ok hs2
              rw [Int.toNat_natCast]
              by_cases hlx : x2 < x
              · rw [if_pos (.inr ⟨rfl, hlx⟩)]
                clear h hx hs hs2 hp hnl hk2 hk5 hpn
                unfold rivR
                go_enter Tryz.func44, Tryz.ntmps44
                go_wp2_with (first
                  | (go_at_call 61; (with_reducible refine (hN.out).mono ?_); rintro e w1 ⟨rfl, rfl⟩)
                  | (go_at_call 61; (with_reducible refine (hM.out).mono ?_); rintro e w1 ⟨rfl, rfl⟩))
                exact bodyPost_ret (results_tmp4 Tryz.results44 _ _ _) rfl ⟨rfl, rfl⟩
              · rw [if_neg (by omega), if_neg (by decide)]
                clear h hx hs hs2 hp hnl hk2 hk5 hpn
                unfold rivR
                go_enter Tryz.func44, Tryz.ntmps44
                go_wp2_with (first
                  | (go_at_call 61; (with_reducible refine (hN.out).mono ?_); rintro e w1 ⟨rfl, rfl⟩)
                  | (go_at_call 61; (with_reducible refine (hM.out).mono ?_); rintro e w1 ⟨rfl, rfl⟩))
                exact bodyPost_ret (results_tmp4 Tryz.results44 _ _ _) rfl ⟨rfl, rfl⟩
            · rw [if_pos (.inl rfl)]
              clear h hx hs hs2 hp hnl hk2 hpn
              unfold rivR
              go_enter Tryz.func44, Tryz.ntmps44
              go_wp2_with (first
                | (go_at_call 61; (with_reducible refine (hN.out).mono ?_); rintro e w1 ⟨rfl, rfl⟩)
                | (go_at_call 61; (with_reducible refine (hM.out).mono ?_); rintro e w1 ⟨rfl, rfl⟩))
              exact bodyPost_ret (results_tmp4 Tryz.results44 _ _ _) rfl ⟨rfl, rfl⟩
            · rw [if_neg (by omega), if_pos (by decide)]
              clear h hx hs hs2 hp hnl hk2 hpn
              unfold rivR
              go_enter Tryz.func44, Tryz.ntmps44
              go_wp2_with (first
                | (go_at_call 61; (with_reducible refine (hN.out).mono ?_); rintro e w1 ⟨rfl, rfl⟩)
                | (go_at_call 61; (with_reducible refine (hM.out).mono ?_); rintro e w1 ⟨rfl, rfl⟩))
              exact bodyPost_ret (results_tmp4 Tryz.results44 _ _ _) rfl ⟨rfl, rfl⟩
        · have hne : (b.toNat : Int) ≠ 44 := fun e => hb (UInt8.toNat_inj.1 (show b.toNat = 44 by omega))
          have hbn : ((b.toNat : Int) != 44) = true := by rw [bne_iff_ne]; exact hne
          rw [if_pos hne]
          clear hne
          clear h hx hs hnl hk2 hb
          unfold rivR
          go_enter Tryz.func44, Tryz.ntmps44
          go_wp2_with (first
            | (go_at_call 61; (with_reducible refine (hN.out).mono ?_); rintro e w1 ⟨rfl, rfl⟩))
          exact bodyPost_ret (results_tmp4 Tryz.results44 _ _ _) rfl ⟨rfl, rfl⟩
      · rw [nx_none (by omega), if_pos (by decide)]
        obtain rfl : k = n := by omega
        clear h hs hnl hk2 hlt
        unfold rivR
        go_enter Tryz.func44, Tryz.ntmps44
        go_wp2_with (first
          | (go_at_call 61; (with_reducible refine (hN.out).mono ?_); rintro e w1 ⟨rfl, rfl⟩))
        exact bodyPost_ret (results_tmp4 Tryz.results44 _ _ _) rfl ⟨rfl, rfl⟩
    · simp only [ne_eq, he, not_false_eq_true, if_true]
      have heb : (e1 != 0) = true := by rw [bne_iff_ne]; exact he
      clear h hs hnl he
      unfold rivR
      go_enter Tryz.func44, Tryz.ntmps44
      go_wp2_with (first
        | (go_at_call 61; (with_reducible refine (hN.out).mono ?_); rintro e w1 ⟨rfl, rfl⟩))
      exact bodyPost_ret (results_tmp4 Tryz.results44 _ _ _) rfl ⟨rfl, rfl⟩
end
end Go.Proofs.YtcloimdndcbchaaGreat
