/- The contract of brack.Parse. -/
import Derived.Test.YtnfbgpjadnlgbabM34
set_option maxRecDepth 100000
namespace Go.Proofs.Ytnfbgpjadnlgbab
open Go.RowKit

theorem not_at (f : Nat → Bool) (w : World) :
    Calls Try.prog 53 #[.agg (setC f)] w fun e w' => e = .returned (.agg (setC (negF f))) ∧ Below w.heap.size w w' := not_any f w
theorem items_bad {A : Option Addr} {n c : Nat} {l : List UInt8} {w : World} (h : Inp w A n c l) (k : Nat) (hk : k ≤ n) {e : Nat} (hr : items true (l.drop k) k noneF = .error e) :
    Calls Try.prog 67 #[.slice A n c, .int .i64 (k : Int)] w fun e' w' => e' = .returned (.tuple #[.slice none 0 0, .int .i64 0, .int .i64 (e : Int)]) ∧ Below w.heap.size w w' := by
  have := items_any h k hk
  rw [hr] at this
  exact this
theorem items_good {A : Option Addr} {n c : Nat} {l : List UInt8} {w : World} (h : Inp w A n c l) (k : Nat) (hk : k ≤ n) {f : Nat → Bool} {j : Nat} (hr : items true (l.drop k) k noneF = .ok (f, j)) :
    Calls Try.prog 67 #[.slice A n c, .int .i64 (k : Int)] w fun e' w' => ∃ v ss, e' = .returned (.tuple #[v, .int .i64 (j : Int), .int .i64 0]) ∧ anyS ss = f ∧ w'.ownsRow w.heap.size 32 4 v ss.length (setsL ss) ∧ Below w.heap.size w w' := by
  have := items_any h k hk
  rw [hr] at this
  exact this

set_option maxRecDepth 100000 in
set_option maxHeartbeats 4000000 in
theorem parse_plain {A : Option Addr} {n c : Nat} {l : List UInt8} {w : World} (h : Inp w A n c l) (k : Nat) (hk : k ≤ n) (hx : bg [94] (l.drop k) = false) :
    Calls Try.prog 61 #[.slice A n c, .int .i64 (k : Int)] w fun e w' => e = .returned (.tuple #[.agg (setC (told (readB l k)).1), .int .i64 ((told (readB l k)).2.1 : Int), .int .i64 ((told (readB l k)).2.2 : Int)]) ∧ Below w.heap.size w w' := by
  have hrd := readB_plain hx
  have h' := Lib.hid h
  have hz := build_set
  have hW0 := Lib.hid (show Below w.heap.size w (w.alloc (.cells #[.int .u64 0, .int .u64 0, .int .u64 0, .int .u64 0] 32)) from (Below.refl _ _).alloc (Nat.le_refl _) _)
  have hS0 := Lib.hid (set_zero' w)
  have hns : n ≤ 100000 := h.2.2.2.1
  have hnc := h.2.1
  have hcm := h.2.2.1
  unfold maxLen at hcm
  have hd := Lib.hid (h.drop hk)
  have hbg := Lib.hid hx
  cases hr : items true (l.drop k) k noneF with
  | error e =>
    have hne : ((e : Int) != 0) = true := by have := items_wrong _ _ _ _ _ hr; simp; omega
    have hfin := Lib.hid (hrd.trans hr)
    have hIt := Lib.hid (fun w1 (h : Inp w1 A n c l) => items_bad h k hk hr)
    clear h hx hrd hr
    by_cases hck : c = k
    · obtain rfl : n = k := by omega
      obtain rfl : c = n := hck
      rw [if_pos rfl, Nat.sub_self] at hd
      go_enter Try.func61, Try.ntmps61
      go_wp2_with (first
        | (go_at_call 66; with_reducible refine (begins_is (hd.out.grow hW0.out) ⟨#[94]⟩ false hbg.out).mono ?_; rintro e w1 ⟨rfl, hb1⟩; have hW1 := Lib.hid (hW0.out.trans (hb1.mono hW0.out.size)); have hS1 := Lib.hid (hS0.out.below hb1 hS0.out.lt))
        | (go_at_call 67; with_reducible refine (hIt.out _ (h'.out.grow hW1.out)).mono ?_; rintro e w2 ⟨rfl, hb2⟩; have hW2 := Lib.hid (hW1.out.trans (hb2.mono hW1.out.size)); have hS2 := Lib.hid (hS1.out.below hb2 hS1.out.lt))
        | (refine wpList_store_row rfl 32 (.tmp 4) (.tmp 37) rfl w.heap.size (setC noneF) rfl (by rw [setC_noneF]; rfl) 32 _ hS2.out (set_size _) (set_hold _ _) (set_cells _) ?_))
      exact bodyPost_ret (v := .tuple #[.agg (setC noneF), .int .i64 0, .int .i64 (e : Int)]) (results_cell_three Try.results61 _ _ w.heap.size 32 (setC noneF) (0, 0) _ rfl rfl rfl (hS2.out.put _) Try.underlying32 rfl (set_size _)) rfl ⟨by rw [hfin.out]; rfl, below_put hW2.out (Nat.le_refl _) _⟩
    · rw [if_neg hck] at hd
      go_enter Try.func61, Try.ntmps61
      go_wp2_with (first
        | (go_at_call 66; with_reducible refine (begins_is (hd.out.grow hW0.out) ⟨#[94]⟩ false hbg.out).mono ?_; rintro e w1 ⟨rfl, hb1⟩; have hW1 := Lib.hid (hW0.out.trans (hb1.mono hW0.out.size)); have hS1 := Lib.hid (hS0.out.below hb1 hS0.out.lt))
        | (go_at_call 67; with_reducible refine (hIt.out _ (h'.out.grow hW1.out)).mono ?_; rintro e w2 ⟨rfl, hb2⟩; have hW2 := Lib.hid (hW1.out.trans (hb2.mono hW1.out.size)); have hS2 := Lib.hid (hS1.out.below hb2 hS1.out.lt))
        | (refine wpList_store_row rfl 32 (.tmp 4) (.tmp 37) rfl w.heap.size (setC noneF) rfl (by rw [setC_noneF]; rfl) 32 _ hS2.out (set_size _) (set_hold _ _) (set_cells _) ?_))
      exact bodyPost_ret (v := .tuple #[.agg (setC noneF), .int .i64 0, .int .i64 (e : Int)]) (results_cell_three Try.results61 _ _ w.heap.size 32 (setC noneF) (0, 0) _ rfl rfl rfl (hS2.out.put _) Try.underlying32 rfl (set_size _)) rfl ⟨by rw [hfin.out]; rfl, below_put hW2.out (Nat.le_refl _) _⟩
  | ok p =>
    obtain ⟨F, j⟩ := p
    have hj := items_size _ _ _ _ _ _ hr
    have hck : ¬ c = k := by rw [List.length_drop] at hj; have := h.len; omega
    rw [if_neg hck] at hd
    have hfin := Lib.hid (hrd.trans hr)
    have hIt := Lib.hid (fun w1 (h : Inp w1 A n c l) => items_good h k hk hr)
    clear h hx hrd hr hj
    go_enter Try.func61, Try.ntmps61
    go_wp2_with (first
      | (go_at_call 66; with_reducible refine (begins_is (hd.out.grow hW0.out) ⟨#[94]⟩ false hbg.out).mono ?_; rintro e w1 ⟨rfl, hb1⟩; have hW1 := Lib.hid (hW0.out.trans (hb1.mono hW0.out.size)); have hS1 := Lib.hid (hS0.out.below hb1 hS0.out.lt))
      | (go_at_call 67; with_reducible refine (hIt.out _ (h'.out.grow hW1.out)).mono ?_; rintro e w2 ⟨v, ss, rfl, hu, hown, hb2⟩; replace hu := Lib.hid hu; obtain ⟨As, cs, rfl, -, hcs, hcsm, hsets⟩ := own_sets hown; replace hsets := Lib.hid hsets; replace hown := Lib.hid hown; have hW2 := Lib.hid (hW1.out.trans (hb2.mono hW1.out.size)); have hS2 := Lib.hid (hS1.out.below hb2 hS1.out.lt))
      | (go_at_call 68; refine (union_any As ss.length cs ss w2.heap.size w2 rfl hcs hcsm (Nat.le_refl _) hsets.out).mono ?_; rintro e w3 ⟨rfl, hb3⟩; rw [hu.out]; have hW3 := Lib.hid (hW2.out.trans (hb3.mono hW2.out.size)); have hS3 := Lib.hid (hS2.out.below hb3 hS2.out.lt))
      | (refine wpList_store_row rfl 32 (.tmp 11) (.tmp 40) rfl w3.heap.size (setC F) rfl rfl 32 _ (set_zero w3) (set_size _) (set_hold (fun _ => false) F |> fun h => by rw [← h, setC_none]) (set_cells _) ?_; rw [World.setRow_alloc_new]; have hW4 := Lib.hid (hW3.out.alloc hW3.out.size (.cells (setC F) 32)); have hS4 := Lib.hid (hS3.out.alloc (.cells (setC F) 32)); have hR4 := Lib.hid (set_new w3 F))
      | (refine wpList_load_row rfl 32 (.tmp 11) rfl w3.heap.size rfl 32 _ (0, 0) _ hR4.out Try.underlying32 rfl (set_size _) ?_)
      | (refine wpList_store_row rfl 32 (.tmp 4) (.tmp 44) rfl w.heap.size (setC F) rfl rfl 32 _ hS4.out (set_size _) (set_hold _ _) (set_cells _) ?_))
    exact bodyPost_ret (v := .tuple #[.agg (setC F), .int .i64 (j : Int), .int .i64 0]) (results_cell_three Try.results61 _ _ w.heap.size 32 (setC F) (0, 0) _ rfl rfl rfl (hS4.out.put _) Try.underlying32 rfl (set_size _)) rfl ⟨by rw [hfin.out]; rfl, below_put hW4.out (Nat.le_refl _) _⟩

set_option maxRecDepth 100000 in
set_option maxHeartbeats 4000000 in
theorem parse_not {A : Option Addr} {n c : Nat} {l : List UInt8} {w : World} (h : Inp w A n c l) (k : Nat) (hk : k ≤ n) (hx : bg [94] (l.drop k) = true) :
    Calls Try.prog 61 #[.slice A n c, .int .i64 (k : Int)] w fun e w' => e = .returned (.tuple #[.agg (setC (told (readB l k)).1), .int .i64 ((told (readB l k)).2.1 : Int), .int .i64 ((told (readB l k)).2.2 : Int)]) ∧ Below w.heap.size w w' := by
  have hrd := readB_not hx
  have h' := Lib.hid h
  have hz := build_set
  have hW0 := Lib.hid (show Below w.heap.size w (w.alloc (.cells #[.int .u64 0, .int .u64 0, .int .u64 0, .int .u64 0] 32)) from (Below.refl _ _).alloc (Nat.le_refl _) _)
  have hS0 := Lib.hid (set_zero' w)
  have hns : n ≤ 100000 := h.2.2.2.1
  have hnc := h.2.1
  have hcm := h.2.2.1
  unfold maxLen at hcm
  have hk1 : k + 1 ≤ n := by
    have h1 := bg_len hx
    rw [List.length_drop, List.length_singleton] at h1
    have := h.len
    omega
  have hd := Lib.hid (h.drop hk)
  have hck : ¬ c = k := by omega
  rw [if_neg hck] at hd
  have hbg := Lib.hid hx
  cases hr : items true (l.drop (k + 1)) (k + 1) noneF with
  | error e =>
    have hne : ((e : Int) != 0) = true := by have := items_wrong _ _ _ _ _ hr; simp; omega
    rw [hr] at hrd
    have hfin := Lib.hid hrd
    have hIt := Lib.hid (fun w1 (h : Inp w1 A n c l) => items_bad h (k + 1) hk1 hr)
    rw [show (((k + 1 : Nat)) : Int) = (k : Int) + 1 by omega] at hIt
    clear h hx hrd hr
    go_enter Try.func61, Try.ntmps61
    go_wp2_with (first
      | (go_at_call 66; with_reducible refine (begins_is (hd.out.grow hW0.out) ⟨#[94]⟩ true hbg.out).mono ?_; rintro e w1 ⟨rfl, hb1⟩; have hW1 := Lib.hid (hW0.out.trans (hb1.mono hW0.out.size)); have hS1 := Lib.hid (hS0.out.below hb1 hS0.out.lt))
      | (go_at_call 67; with_reducible refine (hIt.out _ (h'.out.grow hW1.out)).mono ?_; rintro e w2 ⟨rfl, hb2⟩; have hW2 := Lib.hid (hW1.out.trans (hb2.mono hW1.out.size)); have hS2 := Lib.hid (hS1.out.below hb2 hS1.out.lt))
      | (refine wpList_store_row rfl 32 (.tmp 4) (.tmp 37) rfl w.heap.size (setC noneF) rfl (by rw [setC_noneF]; rfl) 32 _ hS2.out (set_size _) (set_hold _ _) (set_cells _) ?_))
    exact bodyPost_ret (v := .tuple #[.agg (setC noneF), .int .i64 0, .int .i64 (e : Int)]) (results_cell_three Try.results61 _ _ w.heap.size 32 (setC noneF) (0, 0) _ rfl rfl rfl (hS2.out.put _) Try.underlying32 rfl (set_size _)) rfl ⟨by rw [hfin.out]; rfl, below_put hW2.out (Nat.le_refl _) _⟩
  | ok p =>
    obtain ⟨F, j⟩ := p
    rw [hr] at hrd
    have hfin := Lib.hid hrd
    have hIt := Lib.hid (fun w1 (h : Inp w1 A n c l) => items_good h (k + 1) hk1 hr)
    rw [show (((k + 1 : Nat)) : Int) = (k : Int) + 1 by omega] at hIt
    clear h hx hrd hr
    go_enter Try.func61, Try.ntmps61
    go_wp2_with (first
      | (go_at_call 66; with_reducible refine (begins_is (hd.out.grow hW0.out) ⟨#[94]⟩ true hbg.out).mono ?_; rintro e w1 ⟨rfl, hb1⟩; have hW1 := Lib.hid (hW0.out.trans (hb1.mono hW0.out.size)); have hS1 := Lib.hid (hS0.out.below hb1 hS0.out.lt))
      | (go_at_call 67; with_reducible refine (hIt.out _ (h'.out.grow hW1.out)).mono ?_; rintro e w2 ⟨v, ss, rfl, hu, hown, hb2⟩; replace hu := Lib.hid hu; obtain ⟨As, cs, rfl, -, hcs, hcsm, hsets⟩ := own_sets hown; replace hsets := Lib.hid hsets; replace hown := Lib.hid hown; have hW2 := Lib.hid (hW1.out.trans (hb2.mono hW1.out.size)); have hS2 := Lib.hid (hS1.out.below hb2 hS1.out.lt))
      | (go_at_call 68; refine (union_any As ss.length cs ss w2.heap.size w2 rfl hcs hcsm (Nat.le_refl _) hsets.out).mono ?_; rintro e w3 ⟨rfl, hb3⟩; rw [hu.out]; have hW3 := Lib.hid (hW2.out.trans (hb3.mono hW2.out.size)); have hS3 := Lib.hid (hS2.out.below hb3 hS2.out.lt))
      | (refine wpList_store_row rfl 32 (.tmp 11) (.tmp 40) rfl w3.heap.size (setC F) rfl rfl 32 _ (set_zero w3) (set_size _) (set_hold (fun _ => false) F |> fun h => by rw [← h, setC_none]) (set_cells _) ?_; rw [World.setRow_alloc_new]; have hW4 := Lib.hid (hW3.out.alloc hW3.out.size (.cells (setC F) 32)); have hS4 := Lib.hid (hS3.out.alloc (.cells (setC F) 32)); have hR4 := Lib.hid (set_new w3 F))
      | (refine wpList_load_row rfl 32 (.tmp 11) rfl w3.heap.size rfl 32 _ (0, 0) _ hR4.out Try.underlying32 rfl (set_size _) ?_)
      | (go_at_call 53; refine (not_at F _).mono ?_; rintro e w5 ⟨rfl, hb5⟩; have hW5 := Lib.hid (hW4.out.trans (hb5.mono hW4.out.size)); have hS5 := Lib.hid (hS4.out.below hb5 hS4.out.lt); have hR5 := Lib.hid (hR4.out.below hb5 hR4.out.lt))
      | (refine wpList_store_row rfl 32 (.tmp 11) (.tmp 43) rfl w3.heap.size (setC (negF F)) rfl rfl 32 _ hR5.out (set_size _) (set_hold _ _) (set_cells _) ?_; have hR6 := Lib.hid (hR5.out.put (negF F)); have hS6 := Lib.hid (hS5.out.put_other (Nat.ne_of_lt hS3.out.lt) (setC (negF F))); have hW6 := Lib.hid (below_put hW5.out (g := w3.heap.size) (Nat.le_of_lt hS3.out.lt) (setC (negF F))))
      | (refine wpList_load_row rfl 32 (.tmp 11) rfl w3.heap.size rfl 32 _ (0, 0) _ hR6.out Try.underlying32 rfl (set_size _) ?_)
      | (refine wpList_store_row rfl 32 (.tmp 4) (.tmp 44) rfl w.heap.size (setC (negF F)) rfl rfl 32 _ hS6.out (set_size _) (set_hold _ _) (set_cells _) ?_))
    exact bodyPost_ret (v := .tuple #[.agg (setC (negF F)), .int .i64 (j : Int), .int .i64 0]) (results_cell_three Try.results61 _ _ w.heap.size 32 (setC (negF F)) (0, 0) _ rfl rfl rfl (hS6.out.put _) Try.underlying32 rfl (set_size _)) rfl ⟨by rw [hfin.out]; rfl, below_put hW6.out (Nat.le_refl _) _⟩

theorem parse_any {A : Option Addr} {n c : Nat} {l : List UInt8} {w : World} (h : Inp w A n c l) (k : Nat) (hk : k ≤ n) :
    Calls Try.prog 61 #[.slice A n c, .int .i64 (k : Int)] w fun e w' => e = .returned (.tuple #[.agg (setC (told (readB l k)).1), .int .i64 ((told (readB l k)).2.1 : Int), .int .i64 ((told (readB l k)).2.2 : Int)]) ∧ Below w.heap.size w w' := by
  cases hx : bg [94] (l.drop k) with
  | true => exact parse_not h k hk hx
  | false => exact parse_plain h k hk hx
end Go.Proofs.Ytnfbgpjadnlgbab
