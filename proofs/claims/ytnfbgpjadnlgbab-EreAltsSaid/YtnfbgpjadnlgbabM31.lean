/- Contracts of package brack: secondEnd, item. -/
import Derived.Test.YtnfbgpjadnlgbabM30
set_option maxRecDepth 100000
namespace Go.Proofs.Ytnfbgpjadnlgbab
open Go.RowKit

theorem namedR_end {l : List UInt8} (h : bg [91, 58] l = true) : endA (piece l) = 0 ∧ endB (piece l) = 0 ∧ ((∃ f n, namedR l = .ok (f, n) ∧ endC (piece l) = 3) ∨ ∃ e : Nat, namedR l = .error e ∧ endC (piece l) = (e : Int) ∧ ((e : Int) != 0) = true) := by
  unfold piece namedR
  rw [if_pos h]
  cases hp : clsP l with
  | bad e =>
    refine ⟨rfl, rfl, Or.inr ⟨e, rfl, rfl, ?_⟩⟩
    have := clsP_err hp
    simp; omega
  | cls nm n =>
    refine ⟨rfl, rfl, ?_⟩
    cases hj : joins (l.drop n) with
    | true => exact Or.inr ⟨3, by simp [hj], rfl, rfl⟩
    | false => exact Or.inl ⟨clsF nm, n, by simp [hj], rfl⟩
  | one c n => exact absurd hp clsP_one

set_option maxRecDepth 100000 in
set_option maxHeartbeats 2000000 in
theorem secondEnd_any {A : Option Addr} {n c : Nat} {l : List UInt8} {w : World} (h : Inp w A n c l) :
    Calls Try.prog 83 #[.slice A n c] w fun e w' => e = .returned (.tuple #[.int .u8 (endA (piece l)), .int .i64 (endB (piece l)), .int .i64 (endC (piece l))]) ∧ Below w.heap.size w w' := by
  have h' := Lib.hid h
  cases h1 : bg [91, 58] l with
  | false =>
    have hp : piece l = endP l := by unfold piece; rw [h1]; rfl
    rw [hp]
    have hE := Lib.hid (fun w1 (h : Inp w1 A n c l) => end_any h)
    generalize endA (endP l) = a at *
    generalize endB (endP l) = b at *
    generalize endC (endP l) = d at *
    replace h1 := Lib.hid h1
    clear h hp
    go_enter Try.func83, Try.ntmps83
    go_wp2_with (first
      | (go_at_call 66; refine (begins_is h'.out ⟨#[91, 58]⟩ false h1.out).mono ?_; rintro e w1 ⟨rfl, hb1⟩)
      | (go_at_call 81; refine (hE.out _ (h'.out.grow hb1)).mono ?_; rintro e w2 ⟨rfl, hb2⟩))
    go_ret3
    exact ⟨rfl, hb1.trans (hb2.mono hb1.size)⟩
  | true =>
    obtain ⟨ea, eb, ec⟩ := namedR_end h1
    have hE := fun w1 (h : Inp w1 A n c l) => named7_any h h1
    rw [ea, eb]
    rcases ec with ⟨f, m, hr, ec⟩ | ⟨e, hr, ec, hne⟩
    · rw [hr] at hE
      rw [ec]
      replace hE := Lib.hid (show ∀ w1, Inp w1 A n c l → Calls Try.prog 80 #[.slice A n c] w1 fun e w' => e = .returned (.tuple #[.agg (setC f), .int .i64 (m : Int), .int .i64 0]) ∧ Below w1.heap.size w1 w' from hE)
      replace h1 := Lib.hid h1
      clear h hr ea eb ec
      go_enter Try.func83, Try.ntmps83
      go_wp2_with (first
        | (go_at_call 66; refine (begins_is h'.out ⟨#[91, 58]⟩ true h1.out).mono ?_; rintro e w1 ⟨rfl, hb1⟩)
        | (go_at_call 80; refine (hE.out _ (h'.out.grow hb1)).mono ?_; rintro e w2 ⟨rfl, hb2⟩))
      go_ret3
      exact ⟨rfl, hb1.trans (hb2.mono hb1.size)⟩
    · rw [hr] at hE
      rw [ec]
      replace hE := Lib.hid (show ∀ w1, Inp w1 A n c l → Calls Try.prog 80 #[.slice A n c] w1 fun e' w' => e' = .returned (.tuple #[.agg (setC noneF), .int .i64 0, .int .i64 (e : Int)]) ∧ Below w1.heap.size w1 w' from hE)
      replace h1 := Lib.hid h1
      clear h hr ea eb ec
      go_enter Try.func83, Try.ntmps83
      go_wp2_with (first
        | (go_at_call 66; refine (begins_is h'.out ⟨#[91, 58]⟩ true h1.out).mono ?_; rintro e w1 ⟨rfl, hb1⟩)
        | (go_at_call 80; refine (hE.out _ (h'.out.grow hb1)).mono ?_; rintro e w2 ⟨rfl, hb2⟩))
      go_ret3
      exact ⟨rfl, hb1.trans (hb2.mono hb1.size)⟩

theorem ofL_one (x : UInt8) : ofL [x] = oneF x := by
  funext c
  simp [ofL, oneF, oneF.ofB]
/-- class.Of of one byte, just laid. -/
theorem of_one (w : World) (x : UInt8) :
    Calls Try.prog 54 #[.slice (some ⟨w.heap.size, 0, none⟩) 1 1] (w.alloc (.cells #[.int .u8 (x.toNat : Int)] 5)) fun e w' => e = .returned (.agg (setC (oneF x))) ∧ Below w.heap.size w w' := by
  have hb : Below w.heap.size w (w.alloc (.cells #[.int .u8 (x.toNat : Int)] 5)) := (Below.refl _ _).alloc (Nat.le_refl _) _
  have hx := byt_new w [x] 5 (0, 0)
  refine (of_any (some ⟨w.heap.size, 0, none⟩) 1 1 [x] (w.heap.size + 1) _ rfl (Nat.le_refl _) (by decide) (by simp) hx).mono fun e w' ⟨he, hw⟩ => ⟨?_, hb.trans (hw.mono hb.size)⟩
  rw [he, ofL_one]; rfl
theorem range_at (x y : UInt8) (w : World) :
    Calls Try.prog 84 #[.int .u8 (x.toNat : Int), .int .u8 (y.toNat : Int)] w fun e w' => e = .returned (.agg (setC (rngF x y))) ∧ Below w.heap.size w w' :=
  range_any x.toNat y.toNat w x.toNat_lt y.toNat_lt

theorem item_bad {l : List UInt8} {e : Nat} (hp : piece l = .bad e) : item l = .error e := by unfold item; rw [hp]
theorem item_alone {l : List UInt8} {c : UInt8} {n : Nat} (hp : piece l = .one c n) (hj : joins (l.drop n) = false) : item l = .ok (oneF c, n) := by unfold item; rw [hp]; simp [hj]
theorem item_two {l : List UInt8} {c : UInt8} {n : Nat} (hp : piece l = .one c n) (hj : joins (l.drop n) = true) : item l = match piece (l.drop (n + 1)) with
      | .bad e => .error e
      | .cls _ _ => .error 3
      | .one d m => if d < c then .error 3 else .ok (rngF c d, n + 1 + m) := by unfold item; rw [hp]; simp only [hj, if_true]; rfl
theorem item_late {l : List UInt8} {c : UInt8} {n : Nat} (hp : piece l = .one c n) (hj : joins (l.drop n) = true) {e : Nat} (hq : endC (piece (l.drop (n + 1))) = (e : Int)) (he : ((e : Int) != 0) = true) : item l = .error e := by
  rw [item_two hp hj]
  cases hx : piece (l.drop (n + 1)) with
  | bad e' => rw [hx] at hq; simp only [endC] at hq; rw [show e' = e by omega]
  | cls nm m => rw [hx] at hq; simp only [endC] at hq; rw [show e = 3 by omega]
  | one d m => rw [hx] at hq; simp only [endC] at hq; simp [← hq] at he
theorem endC_nat (p : Pc) : ∃ e : Nat, endC p = (e : Int) := by
  cases p with
  | bad e => exact ⟨e, rfl⟩
  | cls nm n => exact ⟨3, rfl⟩
  | one c n => exact ⟨0, rfl⟩

set_option maxRecDepth 100000 in
set_option maxHeartbeats 4000000 in
theorem item_any {A : Option Addr} {n c : Nat} {l : List UInt8} {w : World} (h : Inp w A n c l) :
    Calls Try.prog 72 #[.slice A n c] w fun e w' => e = .returned (.tuple #[.agg (setC (told (item l)).1), .int .i64 ((told (item l)).2.1 : Int), .int .i64 ((told (item l)).2.2 : Int)]) ∧ Below w.heap.size w w' := by
  have h' := Lib.hid h
  have hz := build_set
  have hW0 := Lib.hid (show Below w.heap.size w (w.alloc (.cells #[.int .u64 0, .int .u64 0, .int .u64 0, .int .u64 0] 32)) from (Below.refl _ _).alloc (Nat.le_refl _) _)
  have hS0 := Lib.hid (set_zero' w)
  cases h1 : bg [91, 58] l with
  | true =>
    rw [item_named h1]
    have hE := Lib.hid (fun w1 (h : Inp w1 A n c l) => named7_any h h1)
    replace h1 := Lib.hid h1
    clear h
    generalize (told (namedR l)).1 = F at *
    generalize (told (namedR l)).2.1 = m at *
    generalize (told (namedR l)).2.2 = d at *
    go_enter Try.func72, Try.ntmps72
    go_wp2_with (first
      | (go_at_call 66; refine (begins_is (h'.out.grow hW0.out) ⟨#[91, 58]⟩ true h1.out).mono ?_; rintro e w1 ⟨rfl, hb1⟩; have hW1 := Lib.hid (hW0.out.trans (hb1.mono hW0.out.size)); have hS1 := Lib.hid (hS0.out.below hb1 hS0.out.lt))
      | (go_at_call 80; refine (hE.out _ (h'.out.grow hW1.out)).mono ?_; rintro e w2 ⟨rfl, hb2⟩; have hW2 := Lib.hid (hW1.out.trans (hb2.mono hW1.out.size)); have hS2 := Lib.hid (hS1.out.below hb2 hS1.out.lt))
      | (refine wpList_store_row rfl 32 (.tmp 2) (.tmp 14) rfl w.heap.size (setC F) rfl rfl 32 _ hS2.out (set_size _) (set_hold _ _) (set_cells _) ?_))
    exact bodyPost_ret (v := .tuple #[.agg (setC F), .int .i64 (m : Int), .int .i64 (d : Int)]) (results_cell_three Try.results72 _ _ w.heap.size 32 (setC F) (0, 0) _ rfl rfl rfl (hS2.out.put _) Try.underlying32 rfl (set_size _)) rfl ⟨rfl, below_put hW2.out (Nat.le_refl _) _⟩
  | false =>
    have hp : piece l = endP l := by unfold piece; rw [h1]; rfl
    have hE := fun w1 (h : Inp w1 A n c l) => end_any h
    rw [← hp] at hE
    replace h1 := Lib.hid h1
    cases hpc : piece l with
    | cls nm m => rw [hp] at hpc; exact absurd hpc endP_cls
    | bad e =>
      have hne : ((e : Int) != 0) = true := by have := piece_err hpc; simp; omega
      rw [item_bad hpc]
      rw [hpc] at hE
      replace hE := Lib.hid (show ∀ w1, Inp w1 A n c l → Calls Try.prog 81 #[.slice A n c] w1 fun e' w' => e' = .returned (.tuple #[.int .u8 0, .int .i64 0, .int .i64 (e : Int)]) ∧ Below w1.heap.size w1 w' from hE)
      clear h hp hpc
      go_enter Try.func72, Try.ntmps72
      go_wp2_with (first
        | (go_at_call 66; refine (begins_is (h'.out.grow hW0.out) ⟨#[91, 58]⟩ false h1.out).mono ?_; rintro e w1 ⟨rfl, hb1⟩; have hW1 := Lib.hid (hW0.out.trans (hb1.mono hW0.out.size)); have hS1 := Lib.hid (hS0.out.below hb1 hS0.out.lt))
        | (go_at_call 81; refine (hE.out _ (h'.out.grow hW1.out)).mono ?_; rintro e w2 ⟨rfl, hb2⟩; have hW2 := Lib.hid (hW1.out.trans (hb2.mono hW1.out.size)); have hS2 := Lib.hid (hS1.out.below hb2 hS1.out.lt))
        | (refine wpList_store_row rfl 32 (.tmp 2) (.tmp 25) rfl w.heap.size (setC noneF) rfl (by rw [setC_noneF]; rfl) 32 _ hS2.out (set_size _) (set_hold _ _) (set_cells _) ?_))
      exact bodyPost_ret (v := .tuple #[.agg (setC noneF), .int .i64 0, .int .i64 (e : Int)]) (results_cell_three Try.results72 _ _ w.heap.size 32 (setC noneF) (0, 0) _ rfl rfl rfl (hS2.out.put _) Try.underlying32 rfl (set_size _)) rfl ⟨rfl, below_put hW2.out (Nat.le_refl _) _⟩
    | one x k =>
      have hk := piece_one_size hpc
      have hn := h.len
      have hdr := h.drop (i := k) (by omega)
      rw [hpc] at hE
      replace hE := Lib.hid (show ∀ w1, Inp w1 A n c l → Calls Try.prog 81 #[.slice A n c] w1 fun e' w' => e' = .returned (.tuple #[.int .u8 (x.toNat : Int), .int .i64 (k : Int), .int .i64 0]) ∧ Below w1.heap.size w1 w' from hE)
      obtain ⟨ad, rfl⟩ := h.some_ (by omega)
      have hJ := fun w2 (hb : Below w.heap.size w w2) => joins_any (hdr.grow hb)
      have hkn : k ≤ n := by omega
      have hns : n ≤ 100000 := h.2.2.2.1
      have hnc := h.2.1
      have hcm := h.2.2.1
      unfold maxLen at hcm
      cases hj : joins (l.drop k) with
      | false =>
        rw [item_alone hpc hj]
        rw [hj] at hJ
        replace hJ := Lib.hid hJ
        clear h hp hpc hj hn hdr
        by_cases hcN : c = k
        · subst hcN
          obtain rfl : n = c := by omega
          rw [if_pos rfl, Nat.sub_self] at hJ
          go_enter Try.func72, Try.ntmps72
          go_wp2_with (first
            | (go_at_call 66; refine (begins_is (h'.out.grow hW0.out) ⟨#[91, 58]⟩ false h1.out).mono ?_; rintro e w1 ⟨rfl, hb1⟩; have hW1 := Lib.hid (hW0.out.trans (hb1.mono hW0.out.size)); have hS1 := Lib.hid (hS0.out.below hb1 hS0.out.lt))
            | (go_at_call 81; refine (hE.out _ (h'.out.grow hW1.out)).mono ?_; rintro e w2 ⟨rfl, hb2⟩; have hW2 := Lib.hid (hW1.out.trans (hb2.mono hW1.out.size)); have hS2 := Lib.hid (hS1.out.below hb2 hS1.out.lt))
            | (go_at_call 82; with_reducible refine (hJ.out _ hW2.out).mono ?_; rintro e w3 ⟨rfl, hb3⟩; have hW3 := Lib.hid (hW2.out.trans (hb3.mono hW2.out.size)); have hS3 := Lib.hid (hS2.out.below hb3 hS2.out.lt))
            | (go_at_call 54; refine (of_one w3 x).mono ?_; rintro e w4 ⟨rfl, hb4⟩; have hW4 := Lib.hid (hW3.out.trans (hb4.mono hW3.out.size)); have hS4 := Lib.hid (hS3.out.below hb4 hS3.out.lt))
            | (refine wpList_store_row rfl 32 (.tmp 2) (.tmp 34) rfl w.heap.size (setC (oneF x)) rfl rfl 32 _ hS4.out (set_size _) (set_hold _ _) (set_cells _) ?_))
          exact bodyPost_ret (v := .tuple #[.agg (setC (oneF x)), .int .i64 (n : Int), .int .i64 0]) (results_cell_three Try.results72 _ _ w.heap.size 32 (setC (oneF x)) (0, 0) _ rfl rfl rfl (hS4.out.put _) Try.underlying32 rfl (set_size _)) rfl ⟨rfl, below_put hW4.out (Nat.le_refl _) _⟩
        · rw [if_neg hcN, Option.map_some] at hJ
          go_enter Try.func72, Try.ntmps72
          go_wp2_with (first
            | (go_at_call 66; refine (begins_is (h'.out.grow hW0.out) ⟨#[91, 58]⟩ false h1.out).mono ?_; rintro e w1 ⟨rfl, hb1⟩; have hW1 := Lib.hid (hW0.out.trans (hb1.mono hW0.out.size)); have hS1 := Lib.hid (hS0.out.below hb1 hS0.out.lt))
            | (go_at_call 81; refine (hE.out _ (h'.out.grow hW1.out)).mono ?_; rintro e w2 ⟨rfl, hb2⟩; have hW2 := Lib.hid (hW1.out.trans (hb2.mono hW1.out.size)); have hS2 := Lib.hid (hS1.out.below hb2 hS1.out.lt))
            | (go_at_call 82; with_reducible refine (hJ.out _ hW2.out).mono ?_; rintro e w3 ⟨rfl, hb3⟩; have hW3 := Lib.hid (hW2.out.trans (hb3.mono hW2.out.size)); have hS3 := Lib.hid (hS2.out.below hb3 hS2.out.lt))
            | (go_at_call 54; refine (of_one w3 x).mono ?_; rintro e w4 ⟨rfl, hb4⟩; have hW4 := Lib.hid (hW3.out.trans (hb4.mono hW3.out.size)); have hS4 := Lib.hid (hS3.out.below hb4 hS3.out.lt))
            | (refine wpList_store_row rfl 32 (.tmp 2) (.tmp 34) rfl w.heap.size (setC (oneF x)) rfl rfl 32 _ hS4.out (set_size _) (set_hold _ _) (set_cells _) ?_))
          exact bodyPost_ret (v := .tuple #[.agg (setC (oneF x)), .int .i64 (k : Int), .int .i64 0]) (results_cell_three Try.results72 _ _ w.heap.size 32 (setC (oneF x)) (0, 0) _ rfl rfl rfl (hS4.out.put _) Try.underlying32 rfl (set_size _)) rfl ⟨rfl, below_put hW4.out (Nat.le_refl _) _⟩
      | true =>
        have hk1 : k + 1 ≤ n := by
          by_cases e : k < n
          · exact e
          · rw [List.drop_of_length_le (by omega)] at hj
            cases hj
        have hdr2 := h.drop (i := k + 1) hk1
        have hQ := fun w2 (hb : Below w.heap.size w w2) => secondEnd_any (hdr2.grow hb)
        rw [hj] at hJ
        rw [if_neg (by omega), Option.map_some] at hJ
        replace hJ := Lib.hid hJ
        by_cases hcN : c = k + 1
        · subst hcN
          obtain rfl : n = k + 1 := by omega
          rw [if_pos rfl, Nat.sub_self] at hQ
          rw [show k + 1 - k = 1 by omega] at hJ
          have hp2 : piece (l.drop (k + 1)) = .bad 11 := by rw [List.drop_of_length_le (by omega)]; rfl
          rw [hp2] at hQ
          replace hQ := Lib.hid (show ∀ w2, Below w.heap.size w w2 → Calls Try.prog 83 #[.slice (some ad) 0 0] w2 fun e w' => e = .returned (.tuple #[.int .u8 0, .int .i64 0, .int .i64 11]) ∧ Below w2.heap.size w2 w' from hQ)
          rw [item_late (e := 11) hpc hj (by rw [hp2]; rfl) rfl]
          clear h hp hpc hj hn hdr hdr2 hp2
          go_enter Try.func72, Try.ntmps72
          go_wp2_with (first
            | (go_at_call 66; refine (begins_is (h'.out.grow hW0.out) ⟨#[91, 58]⟩ false h1.out).mono ?_; rintro e w1 ⟨rfl, hb1⟩; have hW1 := Lib.hid (hW0.out.trans (hb1.mono hW0.out.size)); have hS1 := Lib.hid (hS0.out.below hb1 hS0.out.lt))
            | (go_at_call 81; refine (hE.out _ (h'.out.grow hW1.out)).mono ?_; rintro e w2 ⟨rfl, hb2⟩; have hW2 := Lib.hid (hW1.out.trans (hb2.mono hW1.out.size)); have hS2 := Lib.hid (hS1.out.below hb2 hS1.out.lt))
            | (go_at_call 82; with_reducible refine (hJ.out _ hW2.out).mono ?_; rintro e w3 ⟨rfl, hb3⟩; have hW3 := Lib.hid (hW2.out.trans (hb3.mono hW2.out.size)); have hS3 := Lib.hid (hS2.out.below hb3 hS2.out.lt))
            | (go_at_call 83; with_reducible refine (hQ.out _ hW3.out).mono ?_; rintro e w4 ⟨rfl, hb4⟩; have hW4 := Lib.hid (hW3.out.trans (hb4.mono hW3.out.size)); have hS4 := Lib.hid (hS3.out.below hb4 hS3.out.lt))
            | (refine wpList_store_row rfl 32 (.tmp 2) (.tmp 48) rfl w.heap.size (setC noneF) rfl (by rw [setC_noneF]; rfl) 32 _ hS4.out (set_size _) (set_hold _ _) (set_cells _) ?_))
          exact bodyPost_ret (v := .tuple #[.agg (setC noneF), .int .i64 0, .int .i64 11]) (results_cell_three Try.results72 _ _ w.heap.size 32 (setC noneF) (0, 0) _ rfl rfl rfl (hS4.out.put _) Try.underlying32 rfl (set_size _)) rfl ⟨rfl, below_put hW4.out (Nat.le_refl _) _⟩
        · rw [if_neg hcN, Option.map_some, add_succ] at hQ
          cases hqc : piece (l.drop (k + 1)) with
          | bad e =>
            have hne : ((e : Int) != 0) = true := by have := piece_err hqc; simp; omega
            rw [hqc] at hQ
            replace hQ := Lib.hid (show ∀ w2, Below w.heap.size w w2 → Calls Try.prog 83 #[.slice (some ⟨ad.block, ad.off + (k + 1), none⟩) (n - (k + 1)) (c - (k + 1))] w2 fun e' w' => e' = .returned (.tuple #[.int .u8 0, .int .i64 0, .int .i64 (e : Int)]) ∧ Below w2.heap.size w2 w' from hQ)
            rw [item_late (e := e) hpc hj (by rw [hqc]; rfl) hne]
            clear h hp hpc hj hn hdr hdr2 hqc
            go_enter Try.func72, Try.ntmps72
            go_wp2_with (first
              | (go_at_call 66; refine (begins_is (h'.out.grow hW0.out) ⟨#[91, 58]⟩ false h1.out).mono ?_; rintro e w1 ⟨rfl, hb1⟩; have hW1 := Lib.hid (hW0.out.trans (hb1.mono hW0.out.size)); have hS1 := Lib.hid (hS0.out.below hb1 hS0.out.lt))
              | (go_at_call 81; refine (hE.out _ (h'.out.grow hW1.out)).mono ?_; rintro e w2 ⟨rfl, hb2⟩; have hW2 := Lib.hid (hW1.out.trans (hb2.mono hW1.out.size)); have hS2 := Lib.hid (hS1.out.below hb2 hS1.out.lt))
              | (go_at_call 82; with_reducible refine (hJ.out _ hW2.out).mono ?_; rintro e w3 ⟨rfl, hb3⟩; have hW3 := Lib.hid (hW2.out.trans (hb3.mono hW2.out.size)); have hS3 := Lib.hid (hS2.out.below hb3 hS2.out.lt))
              | (go_at_call 83; with_reducible refine (hQ.out _ hW3.out).mono ?_; rintro e w4 ⟨rfl, hb4⟩; have hW4 := Lib.hid (hW3.out.trans (hb4.mono hW3.out.size)); have hS4 := Lib.hid (hS3.out.below hb4 hS3.out.lt))
              | (refine wpList_store_row rfl 32 (.tmp 2) (.tmp 48) rfl w.heap.size (setC noneF) rfl (by rw [setC_noneF]; rfl) 32 _ hS4.out (set_size _) (set_hold _ _) (set_cells _) ?_))
            exact bodyPost_ret (v := .tuple #[.agg (setC noneF), .int .i64 0, .int .i64 (e : Int)]) (results_cell_three Try.results72 _ _ w.heap.size 32 (setC noneF) (0, 0) _ rfl rfl rfl (hS4.out.put _) Try.underlying32 rfl (set_size _)) rfl ⟨rfl, below_put hW4.out (Nat.le_refl _) _⟩
          | cls nm m =>
            rw [hqc] at hQ
            replace hQ := Lib.hid (show ∀ w2, Below w.heap.size w w2 → Calls Try.prog 83 #[.slice (some ⟨ad.block, ad.off + (k + 1), none⟩) (n - (k + 1)) (c - (k + 1))] w2 fun e' w' => e' = .returned (.tuple #[.int .u8 0, .int .i64 0, .int .i64 3]) ∧ Below w2.heap.size w2 w' from hQ)
            rw [item_late (e := 3) hpc hj (by rw [hqc]; rfl) rfl]
            clear h hp hpc hj hn hdr hdr2 hqc
            go_enter Try.func72, Try.ntmps72
            go_wp2_with (first
              | (go_at_call 66; refine (begins_is (h'.out.grow hW0.out) ⟨#[91, 58]⟩ false h1.out).mono ?_; rintro e w1 ⟨rfl, hb1⟩; have hW1 := Lib.hid (hW0.out.trans (hb1.mono hW0.out.size)); have hS1 := Lib.hid (hS0.out.below hb1 hS0.out.lt))
              | (go_at_call 81; refine (hE.out _ (h'.out.grow hW1.out)).mono ?_; rintro e w2 ⟨rfl, hb2⟩; have hW2 := Lib.hid (hW1.out.trans (hb2.mono hW1.out.size)); have hS2 := Lib.hid (hS1.out.below hb2 hS1.out.lt))
              | (go_at_call 82; with_reducible refine (hJ.out _ hW2.out).mono ?_; rintro e w3 ⟨rfl, hb3⟩; have hW3 := Lib.hid (hW2.out.trans (hb3.mono hW2.out.size)); have hS3 := Lib.hid (hS2.out.below hb3 hS2.out.lt))
              | (go_at_call 83; with_reducible refine (hQ.out _ hW3.out).mono ?_; rintro e w4 ⟨rfl, hb4⟩; have hW4 := Lib.hid (hW3.out.trans (hb4.mono hW3.out.size)); have hS4 := Lib.hid (hS3.out.below hb4 hS3.out.lt))
              | (refine wpList_store_row rfl 32 (.tmp 2) (.tmp 48) rfl w.heap.size (setC noneF) rfl (by rw [setC_noneF]; rfl) 32 _ hS4.out (set_size _) (set_hold _ _) (set_cells _) ?_))
            exact bodyPost_ret (v := .tuple #[.agg (setC noneF), .int .i64 0, .int .i64 3]) (results_cell_three Try.results72 _ _ w.heap.size 32 (setC noneF) (0, 0) _ rfl rfl rfl (hS4.out.put _) Try.underlying32 rfl (set_size _)) rfl ⟨rfl, below_put hW4.out (Nat.le_refl _) _⟩
          | one y m =>
            have hm := piece_one_size hqc
            rw [List.length_drop] at hm
            have hmn : k + 1 + m ≤ n := by omega
            rw [hqc] at hQ
            replace hQ := Lib.hid (show ∀ w2, Below w.heap.size w w2 → Calls Try.prog 83 #[.slice (some ⟨ad.block, ad.off + (k + 1), none⟩) (n - (k + 1)) (c - (k + 1))] w2 fun e' w' => e' = .returned (.tuple #[.int .u8 (y.toNat : Int), .int .i64 (m : Int), .int .i64 0]) ∧ Below w2.heap.size w2 w' from hQ)
            have hit := item_two hpc hj
            rw [hqc] at hit
            simp only at hit
            have hRg := Lib.hid (range_at x y)
            by_cases hlt : y < x
            · rw [if_pos hlt] at hit
              rw [hit]
              have hlt' : y.toNat < x.toNat := hlt
              generalize x.toNat = X at *
              generalize y.toNat = Y at *
              clear h hp hpc hj hn hdr hdr2 hqc hit hm hlt
              go_enter Try.func72, Try.ntmps72
              go_wp2_with (first
                | (go_at_call 66; refine (begins_is (h'.out.grow hW0.out) ⟨#[91, 58]⟩ false h1.out).mono ?_; rintro e w1 ⟨rfl, hb1⟩; have hW1 := Lib.hid (hW0.out.trans (hb1.mono hW0.out.size)); have hS1 := Lib.hid (hS0.out.below hb1 hS0.out.lt))
                | (go_at_call 81; refine (hE.out _ (h'.out.grow hW1.out)).mono ?_; rintro e w2 ⟨rfl, hb2⟩; have hW2 := Lib.hid (hW1.out.trans (hb2.mono hW1.out.size)); have hS2 := Lib.hid (hS1.out.below hb2 hS1.out.lt))
                | (go_at_call 82; with_reducible refine (hJ.out _ hW2.out).mono ?_; rintro e w3 ⟨rfl, hb3⟩; have hW3 := Lib.hid (hW2.out.trans (hb3.mono hW2.out.size)); have hS3 := Lib.hid (hS2.out.below hb3 hS2.out.lt))
                | (go_at_call 83; with_reducible refine (hQ.out _ hW3.out).mono ?_; rintro e w4 ⟨rfl, hb4⟩; have hW4 := Lib.hid (hW3.out.trans (hb4.mono hW3.out.size)); have hS4 := Lib.hid (hS3.out.below hb4 hS3.out.lt))
                | (refine wpList_store_row rfl 32 (.tmp 2) (.tmp 53) rfl w.heap.size (setC noneF) rfl (by rw [setC_noneF]; rfl) 32 _ hS4.out (set_size _) (set_hold _ _) (set_cells _) ?_))
              exact bodyPost_ret (v := .tuple #[.agg (setC noneF), .int .i64 0, .int .i64 3]) (results_cell_three Try.results72 _ _ w.heap.size 32 (setC noneF) (0, 0) _ rfl rfl rfl (hS4.out.put _) Try.underlying32 rfl (set_size _)) rfl ⟨rfl, below_put hW4.out (Nat.le_refl _) _⟩
            · rw [if_neg hlt] at hit
              rw [hit]
              have hlt' : ¬ y.toNat < x.toNat := hlt
              generalize hF : rngF x y = F at *
              replace hF := Lib.hid hF
              generalize x.toNat = X at *
              generalize y.toNat = Y at *
              clear h hp hpc hj hn hdr hdr2 hqc hit hm hlt
              go_enter Try.func72, Try.ntmps72
              go_wp2_with (first
                | (go_at_call 66; refine (begins_is (h'.out.grow hW0.out) ⟨#[91, 58]⟩ false h1.out).mono ?_; rintro e w1 ⟨rfl, hb1⟩; have hW1 := Lib.hid (hW0.out.trans (hb1.mono hW0.out.size)); have hS1 := Lib.hid (hS0.out.below hb1 hS0.out.lt))
                | (go_at_call 81; refine (hE.out _ (h'.out.grow hW1.out)).mono ?_; rintro e w2 ⟨rfl, hb2⟩; have hW2 := Lib.hid (hW1.out.trans (hb2.mono hW1.out.size)); have hS2 := Lib.hid (hS1.out.below hb2 hS1.out.lt))
                | (go_at_call 82; with_reducible refine (hJ.out _ hW2.out).mono ?_; rintro e w3 ⟨rfl, hb3⟩; have hW3 := Lib.hid (hW2.out.trans (hb3.mono hW2.out.size)); have hS3 := Lib.hid (hS2.out.below hb3 hS2.out.lt))
                | (go_at_call 83; with_reducible refine (hQ.out _ hW3.out).mono ?_; rintro e w4 ⟨rfl, hb4⟩; have hW4 := Lib.hid (hW3.out.trans (hb4.mono hW3.out.size)); have hS4 := Lib.hid (hS3.out.below hb4 hS3.out.lt))
                | (go_at_call 84; refine (hRg.out _).mono ?_; rintro e w5 ⟨rfl, hb5⟩; have hW5 := Lib.hid (hW4.out.trans (hb5.mono hW4.out.size)); have hS5 := Lib.hid (hS4.out.below hb5 hS4.out.lt))
                | (refine wpList_store_row rfl 32 (.tmp 2) (.tmp 56) rfl w.heap.size (setC F) rfl rfl 32 _ hS5.out (set_size _) (set_hold _ _) (set_cells _) ?_))
              exact bodyPost_ret (v := .tuple #[.agg (setC F), .int .i64 ((k + 1 + m : Nat) : Int), .int .i64 0]) (results_cell_three Try.results72 _ _ w.heap.size 32 (setC F) (0, 0) _ rfl rfl rfl (hS5.out.put _) Try.underlying32 rfl (set_size _)) rfl ⟨rfl, below_put hW5.out (Nat.le_refl _) _⟩
end Go.Proofs.Ytnfbgpjadnlgbab
