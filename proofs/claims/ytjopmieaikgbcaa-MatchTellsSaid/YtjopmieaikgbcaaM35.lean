/- Contract of the reference's None: ten spans of no group. Contract of the reference's Same: the place behind the bytes of a span that stand at a place. Contract of the reference's Better. The reference's tasks and rows: cells, frames; contract of row. -/
import Derived.Test.YtjopmieaikgbcaaM19
import Derived.Test.YtjopmieaikgbcaaM11
import Derived.Test.YtjopmieaikgbcaaM15
import Derived.BigQuiet
import Derived.Deep.Cut
import Derived.Test.YtjopmieaikgbcaaM12
import Derived.Deep.AppendLies
set_option linter.unusedVariables false
set_option maxRecDepth 100000
namespace Go.Proofs.Ytjopmieaikgbcaa
open Go.RowKit

set_option maxHeartbeats 4000000 in
theorem rNone_any (w : World) : Calls Try.prog 25 #[] w fun e w' => e = .returned (hitV spNo) ∧ Below w.heap.size w w' := by
  go_enter Try.func25, Try.ntmps25
  go_wp2
  go_loopw [2] (fun i wr => ∃ k : Nat, k ≤ 10 ∧ i = .int .i64 (k : Int) ∧ Held wr w.heap.size 29 (hitC sp00) ∧ Held wr (w.heap.size + 1) 29 (hitC (spTo k)) ∧ Below w.heap.size w wr) (fun i _ => 10 - (intOf i).toNat)
  case atStart => exact ⟨0, by omega, rfl, (held_new w 29 (hitC sp00)).alloc _, held_new2 w _ 29 (hitC (spTo 0)), ((Below.refl _ _).alloc (Nat.le_refl _) _).alloc (by simp) _⟩
  case round =>
    obtain ⟨k, hk, rfl, h0, h1, hb⟩ := hrel
    by_cases hlt : k < 10
    · have ⟨c0, c1⟩ := span_there h1 hlt
      have t0 := h1.thawed (k * 2)
      have t1 := h1.thawed (k * 2 + 1)
      have h1' := Lib.hid (h1.span hlt (-1, -1))
      have h0' := Lib.hid ((h0.far (a := ⟨w.heap.size + 1, k * 2, none⟩) (by show w.heap.size ≠ w.heap.size + 1; omega) (.int .i64 (-1))).far (a := ⟨w.heap.size + 1, k * 2 + 1, none⟩) (by show w.heap.size ≠ w.heap.size + 1; omega) (.int .i64 (-1)))
      have hb' := Lib.hid ((hb.setCell (p := ⟨w.heap.size + 1, k * 2, none⟩) (Nat.le_succ _) (.int .i64 (-1))).setCell (p := ⟨w.heap.size + 1, k * 2 + 1, none⟩) (Nat.le_succ _) (.int .i64 (-1)))
      rw [spTo_next] at h1'
      have k0 : (0 : Int) ≤ (k : Int) := by omega
      have k1 : (k : Int) < 10 := by omega
      clear h0 h1 hb
      go_wp2
      go_roundw
      case rel => exact ⟨k + 1, by omega, by go_num, h0'.out, h1'.out, hb'.out⟩
      case measure => simp [intOf]; omega
    · obtain rfl : k = 10 := by omega
      rw [spTo_end] at h1
      have h0' := Lib.hid h0
      have h1' := Lib.hid h1
      have hb' := Lib.hid hb
      clear h0 h1 hb
      go_wp2_with (first
        | (refine wpList_load_row rfl 29 (.tmp 1) rfl (w.heap.size + 1) rfl 29 _ (0, 0) _ h1'.out Try.underlying29 rfl (by rw [hitC_size]; exact size_ten) ?_)
        | (refine wpList_store_row rfl 29 (.tmp 0) (.tmp 10) rfl w.heap.size (hitC spNo) rfl rfl 29 _ h0'.out (by rw [hitC_size]; exact size_ten) (by rw [hitC_size, hitC_size]) (hit_cells _) ?_))
      exact bodyPost_ret (v := hitV spNo) (results_cell_row Try.results25 _ _ w.heap.size 29 (hitC spNo) (0, 0) _ rfl (h0'.out.row _) Try.underlying29 rfl (by rw [hitC_size]; exact size_ten)) rfl ⟨rfl, below_row hb'.out (Nat.le_refl _) _⟩
end Go.Proofs.Ytjopmieaikgbcaa

set_option linter.unusedVariables false
set_option linter.unusedSimpArgs false
set_option maxRecDepth 100000
namespace Go.Proofs.Ytjopmieaikgbcaa
open Go.RowKit

def samI (t : List UInt8) (s : Int × Int) (p : Nat) : Int := match backAt t s p with | some j => (j : Int) | none => -1
theorem samI_no {t : List UInt8} {s : Int × Int} {p : Nat} (h : backAt t s p = none) : samI t s p = -1 := by unfold samI; rw [h]
theorem samI_yes {t : List UInt8} {s : Int × Int} {p j : Nat} (h : backAt t s p = some j) : samI t s p = (j : Int) := by unfold samI; rw [h]
set_option maxHeartbeats 8000000 in
theorem rSame_any (A : Option Addr) (n c : Nat) (l : List UInt8) (B p : Nat) (x y : Int) (w : World) (hn : n = l.length) (hnc : n ≤ c) (hm : n ≤ 1000000) (h : Byt w B A l) (hB : B ≤ w.heap.size) (hp : p ≤ l.length) (hs : (x = -1 ∧ y = -1) ∨ (0 ≤ x ∧ x ≤ y ∧ y ≤ p)) :
    Calls Try.prog 41 #[.slice A n c, spnV (x, y), .int .i64 (p : Int)] w fun e w' => e = .returned (.int .i64 (samI l (x, y) p)) ∧ Below w.heap.size w w' := by
  have hs0 := Lib.hid (held_new w 28 #[.int .i64 x, .int .i64 y])
  have hb0 := Lib.hid ((Below.refl w.heap.size w).alloc (Nat.le_refl _) (.cells #[.int .i64 x, .int .i64 y] 28))
  have ⟨z0, z1⟩ := held2 hs0.out
  show Calls Try.prog 41 #[.slice A n c, .agg #[.int .i64 x, .int .i64 y], .int .i64 (p : Int)] w _
  rcases hs with ⟨rfl, rfl⟩ | ⟨h0, h1, h2⟩
  · rw [samI_no (backAt_neg (by decide))]
    clear h hp
    go_enter Try.func41, Try.ntmps41
    go_wp2
    go_ret
    exact ⟨rfl, hb0.out⟩
  · obtain ⟨a, rfl⟩ := Int.eq_ofNat_of_zero_le h0
    obtain ⟨b, rfl⟩ := Int.eq_ofNat_of_zero_le (Int.le_trans h0 h1)
    have dx : decide ((a : Int) < 0) = false := decide_eq_false (by omega)
    have hw1 : IntKind.i64.wrap ((b : Int) - (a : Int)) = (b : Int) - (a : Int) := IntWalk.i64_in _ (by omega)
    have hw2 : IntKind.i64.wrap ((n : Int) - (p : Int)) = (n : Int) - (p : Int) := IntWalk.i64_in _ (by omega)
    by_cases hf : (n : Int) - (p : Int) < (b : Int) - (a : Int)
    · rw [samI_no (backAt_far (show (l.length : Int) - (p : Int) < (b : Int) - (a : Int) by omega))]
      have dy : decide ((n : Int) - (p : Int) < (b : Int) - (a : Int)) = true := decide_eq_true hf
      replace hf := Lib.hid hf
      clear h hp h0 h1 h2 hn
      go_enter Try.func41, Try.ntmps41
      go_wp2
      go_ret
      exact ⟨rfl, hb0.out⟩
    · have dy : decide ((n : Int) - (p : Int) < (b : Int) - (a : Int)) = false := decide_eq_false hf
      have hw4 : IntKind.i64.wrap ((p : Int) + (b : Int)) = (p : Int) + (b : Int) := IntWalk.i64_in _ (by omega)
      have hw5 : IntKind.i64.wrap ((p : Int) + (b : Int) - (a : Int)) = (p : Int) + (b : Int) - (a : Int) := IntWalk.i64_in _ (by omega)
      have hyes := Lib.hid (fun (hk : ∀ k, k < b - a → l[a + k]? = l[p + k]?) => show samI l ((a : Int), (b : Int)) p = (p : Int) + (b : Int) - (a : Int) from by
        rw [samI_yes (backAt_yes (s := ((a : Int), (b : Int))) (by show (0 : Int) ≤ a; omega) (by show (b : Int) - (a : Int) ≤ (l.length : Int) - (p : Int); omega) fun k hk2 => hk k (by have : k < ((b : Int) - (a : Int)).toNat := hk2; omega))]
        show ((p + ((b : Int) - (a : Int)).toNat : Nat) : Int) = _
        omega)
      have hno := Lib.hid (fun k (hk : k < b - a) (hne : l[a + k]? ≠ l[p + k]?) => samI_no (backAt_no (s := ((a : Int), (b : Int))) (i := p) (k := k) (by show k < ((b : Int) - (a : Int)).toNat; omega) hne))
      have hF := Lib.hid (show (a ≤ b ∧ b ≤ p ∧ p ≤ l.length) ∧ n = l.length ∧ p + (b - a) ≤ l.length ∧ n ≤ c ∧ n ≤ 1000000 ∧ B ≤ w.heap.size from by omega)
      generalize samI l ((a : Int), (b : Int)) p = r at *
      have hbr0 := Lib.hid (Below.refl (w.heap.size + 1) (w.alloc (.cells #[.int .i64 (a : Int), .int .i64 (b : Int)] 28)))
      have hh := Lib.hid h
      clear h0 h1 h2 hf h hp hB hn hm hnc
      go_enter Try.func41, Try.ntmps41
      go_wp2
      generalize w.alloc (.cells #[.int .i64 (a : Int), .int .i64 (b : Int)] 28) = w1 at *
      clear z0 z1 dx dy
      go_loopw [7] (fun i wr => ∃ k : Nat, k ≤ b - a ∧ i = .int .i64 (k : Int) ∧ Hid (∀ j, j < k → l[a + j]? = l[p + j]?) ∧ Hid (Below (w.heap.size + 1) w1 wr)) (fun i _ => (b - a) - (intOf i).toNat)
      case atStart => exact ⟨0, Nat.zero_le _, rfl, Lib.hid fun j hj => absurd hj (Nat.not_lt_zero _), hbr0⟩
      case round =>
        obtain ⟨k, hk, rfl, hall, hbr⟩ := hrel
        have ⟨z0, z1⟩ := held2 (hs0.out.below hbr.out (Nat.lt_succ_self _))
        have ⟨⟨f1, f2, f3⟩, f4, f5, f6, f7, f8⟩ := hF.out
        have hbw := Lib.hid (show Below w.heap.size w wr from hb0.out.trans (hbr.out.mono (Nat.le_succ _)))
        by_cases hlt : k < b - a
        · obtain ⟨ad, rfl, had, c1⟩ := (hh.out.below (hbw.out.mono f8)).at_ (show a + k < l.length by omega)
          obtain ⟨ad', he, _, c2⟩ := (hh.out.below (hbw.out.mono f8)).at_ (show p + k < l.length by omega)
          cases he
          have dk : decide ((k : Int) < (b : Int) - (a : Int)) = true := decide_eq_true (by omega)
          have hw3 : IntKind.i64.wrap ((a : Int) + (k : Int)) = ((a + k : Nat) : Int) := by rw [Int.natCast_add]; exact IntWalk.i64_in _ (by omega)
          have hw6 : IntKind.i64.wrap ((p : Int) + (k : Int)) = ((p + k : Nat) : Int) := by rw [Int.natCast_add]; exact IntWalk.i64_in _ (by omega)
          have hw7 : IntKind.i64.wrap ((k : Int) + 1) = ((k + 1 : Nat) : Int) := by rw [Int.natCast_add]; exact IntWalk.i64_in _ (by omega)
          have i1 : ((a + k : Nat) : Int) < (n : Int) := by omega
          have i2 : ((p + k : Nat) : Int) < (n : Int) := by omega
          have i3 : (0 : Int) ≤ ((a + k : Nat) : Int) := by omega
          have i4 : (0 : Int) ≤ ((p + k : Nat) : Int) := by omega
          have j1 : a + k < n := by omega
          have j2 : p + k < n := by omega
          by_cases he : l[a + k]'(by omega) = l[p + k]'(by omega)
          · rw [← he] at c2
            have hx := Lib.hid (show l[a + k]? = l[p + k]? by rw [List.getElem?_eq_getElem (by omega), List.getElem?_eq_getElem (by omega), he])
            have hn2 := Lib.hid (fun j (hj : j < k + 1) => show l[a + j]? = l[p + j]? by
              rcases Nat.lt_or_ge j k with h | h
              · exact hall.out j h
              · obtain rfl : j = k := by omega
                exact hx.out)
            have dz : ∀ v : Int, (v != v) = false := fun v => by simp
            generalize ((l[a + k]'(by omega)).toNat : Int) = v at *
            replace hlt := Lib.hid hlt
            clear f1 f2 f3 f4 f5 f6 f7 f8 he hk
            go_wp2
            go_quiet (fail)
            go_wp2
            go_roundw
            case rel => exact ⟨k + 1, by have := hlt.out; omega, rfl, hn2, by first | exact hbr | exact Lib.hid (below_drewN hbr.out _) | exact Lib.hid (hbr.out.drew)⟩
            case measure => simp [intOf]; have := hlt.out; omega
          · have hx := Lib.hid (hno.out k hlt (by rw [List.getElem?_eq_getElem (by omega), List.getElem?_eq_getElem (by omega)]; exact fun e => he (Option.some.inj e)))
            have dz : (((l[a + k]'(by omega)).toNat : Int) != ((l[p + k]'(by omega)).toNat : Int)) = true := by
              rw [bne_iff_ne]; exact fun e => he (UInt8.toNat_inj.1 (by omega))
            generalize ((l[a + k]'(by omega)).toNat : Int) = v at *
            generalize ((l[p + k]'(by omega)).toNat : Int) = v2 at *
            replace hlt := Lib.hid hlt
            clear f1 f2 f3 f4 f5 f6 f7 f8 he hk
            go_wp2
            go_quiet (fail)
            go_wp2
            go_ret
            exact ⟨by rw [hx.out]; rfl, by first | exact hbw.out | exact below_drewN hbw.out _⟩
        · obtain rfl : k = b - a := by omega
          have hx := Lib.hid (hyes.out hall.out)
          have dk : decide ((((b - a : Nat)) : Int) < (b : Int) - (a : Int)) = false := decide_eq_false (by omega)
          clear f1 f2 f3 f4 f5 f6 f7 f8 hlt hk
          go_wp2
          go_ret
          exact ⟨by rw [hx.out]; rfl, hbw.out⟩
end Go.Proofs.Ytjopmieaikgbcaa

set_option linter.unusedVariables false
set_option linter.unusedSimpArgs false
set_option maxRecDepth 100000
namespace Go.Proofs.Ytjopmieaikgbcaa
open Go.RowKit

set_option maxHeartbeats 8000000 in
theorem rBetter_any (a b : Spn) (w : World) : Calls Try.prog 27 #[hitV a, hitV b] w fun e w' => e = .returned (.bool (bet a b)) ∧ Below w.heap.size w w' := by
  have hA := Lib.hid ((held_new w 31 (hitC a)).alloc (.cells (hitC b) 31))
  have hB := Lib.hid (held_new2 w (.cells (hitC a) 31) 31 (hitC b))
  have hb0 := Lib.hid (((Below.refl w.heap.size w).alloc (Nat.le_refl _) (.cells (hitC a) 31)).alloc (by simp) (.cells (hitC b) 31))
  have hsz : ((w.alloc (.cells (hitC a) 31)).alloc (.cells (hitC b) 31)).heap.size = w.heap.size + 2 := by simp
  have ⟨a00, a01⟩ := held_from hA.out (k := 0) (by decide)
  have ⟨b00, b01⟩ := held_from hB.out (k := 0) (by decide)
  show Calls Try.prog 27 #[.agg (hitC a), .agg (hitC b)] w _
  have hgen := Lib.hid (fun wr (hb : Below (w.heap.size + 2) ((w.alloc (.cells (hitC a) 31)).alloc (.cells (hitC b) 31)) wr) k (hk : k < 10) => And.intro (held_from (hA.out.below hb (by omega)) hk) (held_from (hB.out.below hb (by omega)) hk))
  have hE := span_eql
  have hEG := span_guard
  unfold spnV at hE hEG
  clear hA hB
  generalize hca : hitC a = ca at *
  generalize hcb : hitC b = cb at *
  have hb00 := Lib.hid (Below.refl (w.heap.size + 2) ((w.alloc (.cells ca 31)).alloc (.cells cb 31)))
  by_cases e0 : (a 0).2 = (b 0).2
  · have d0 : ((a 0).2 != (b 0).2) = false := by rw [bne_eq_false_iff_eq]; exact e0
    have hbet : bet a b = betG a b 9 1 := by unfold bet; rw [if_neg (by simpa using e0)]
    rw [hbet]
    replace e0 := Lib.hid e0
    clear hbet
    generalize hr : betG a b 9 1 = r
    replace hr := Lib.hid hr
    go_enter Try.func27, Try.ntmps27
    go_wp2
    generalize ((w.alloc (.cells ca 31)).alloc (.cells cb 31)) = w2 at *
    go_loopw [5] (fun i wr => ∃ k : Nat, 1 ≤ k ∧ k ≤ 10 ∧ i = .int .i64 (k : Int) ∧ Hid (∀ j, 1 ≤ j → j < k → a j = b j) ∧ Hid (Below (w.heap.size + 2) w2 wr)) (fun i _ => 10 - (intOf i).toNat)
    case atStart => exact ⟨1, by decide, by decide, rfl, Lib.hid fun j h1 h2 => absurd h2 (by omega), hb00⟩
    case round =>
      obtain ⟨k, hk1, hk, rfl, hall, hbr⟩ := hrel
      by_cases hlt : k < 10
      · have ⟨⟨p0, p1⟩, q0, q1⟩ := hgen.out wr hbr.out k hlt
        have hEk := fun w => hE w (a k) (b k)
        have hEGk := fun w op p q => hEG w op p q (a k) (b k)
        have hAt := Lib.hid (fun (hne : a k ≠ b k) => betG_at 9 1 k hk1 (by omega) hall.out hne)
        have hNx := Lib.hid (fun (he : a k = b k) j (j1 : 1 ≤ j) (j2 : j < k + 1) => show a j = b j by
          rcases Nat.lt_or_ge j k with h | h
          · exact hall.out j j1 h
          · obtain rfl : j = k := by omega
            exact he)
        have k0 : (0 : Int) ≤ (k : Int) := by omega
        have k10 : (k : Int) < 10 := by omega
        have hsr : w.heap.size + 2 ≤ wr.heap.size := by have := hbr.out.size; omega
        have hgen2 := Lib.hid (fun w3 (hb : Below (w.heap.size + 2) w2 w3) => hgen.out w3 hb k hlt)
        clear hE hEG hgen hall a00 a01 b00 b01 d0
        have hbf2 := Lib.hid (fun w3 (hb : Below (w.heap.size + 2) w2 w3) => show Below w.heap.size w w3 from hb0.out.trans (hb.mono (by omega)))
        have hX3 := Lib.hid (show Held (wr.alloc (.cells #[.int .i64 (a k).1, .int .i64 (a k).2] 28)) wr.heap.size 28 #[.int .i64 (a k).1, .int .i64 (a k).2] from held_new wr 28 _)
        have hB3 := Lib.hid (hbr.out.alloc (by omega) (.cells #[.int .i64 (a k).1, .int .i64 (a k).2] 28))
        have hs3 := Lib.hid (show (wr.alloc (.cells #[.int .i64 (a k).1, .int .i64 (a k).2] 28)).heap.size = wr.heap.size + 1 by simp)
        have ⟨⟨p03, p13⟩, q03, q13⟩ := hgen2.out _ hB3.out
        go_upto_region 7 with fail
        generalize (wr.alloc (.cells #[.int .i64 (a k).1, .int .i64 (a k).2] 28)) = w3 at *
        clear p0 p1 q0 q1 hgen2
        generalize wr.heap.size = H at *
        have hY4 := Lib.hid (show Held (w3.alloc (.cells #[.int .i64 (b k).1, .int .i64 (b k).2] 28)) w3.heap.size 28 #[.int .i64 (b k).1, .int .i64 (b k).2] from held_new w3 28 _)
        have hX4 := Lib.hid (hX3.out.alloc (.cells #[.int .i64 (b k).1, .int .i64 (b k).2] 28))
        have hB4 := Lib.hid (hB3.out.alloc (by have := hs3.out; omega) (.cells #[.int .i64 (b k).1, .int .i64 (b k).2] 28))
        have ⟨x0, x1⟩ := held2 hX4.out
        have ⟨y0, y1⟩ := held2 hY4.out
        have hF := Lib.hid (hbf2.out _ hB4.out)
        go_upto_region 8 with fail
        generalize (w3.alloc (.cells #[.int .i64 (b k).1, .int .i64 (b k).2] 28)) = w4 at *
        generalize w3.heap.size = K at *
        clear p03 p13 q03 q13 hX3 hB3 hs3 hbr hbf2
        replace hsz := Lib.hid hsz
        replace hsr := Lib.hid hsr
        by_cases he : a k = b k
        · have dk : decide (a k = b k) = true := decide_eq_true he
          rw [dk] at hEk
          have hNx2 := Lib.hid (hNx.out he)
          clear hAt hNx dk
          replace he := Lib.hid he
          go_wp2
          go_roundw
          case rel => exact ⟨k + 1, by omega, by omega, by go_num, hNx2, hB4⟩
          case measure => simp [intOf]; omega
        · have dk : decide (a k = b k) = false := decide_eq_false he
          rw [dk] at hEk
          have hA2 := Lib.hid ((hAt.out he).symm.trans hr.out)
          unfold betS at hA2
          clear hAt hNx dk hr
          generalize (a k).1 = u1 at *
          generalize (a k).2 = u2 at *
          generalize (b k).1 = v1 at *
          generalize (b k).2 = v2 at *
          replace he := Lib.hid he
          by_cases h1 : u1 < 0
          · rw [if_pos h1] at hA2
            have d1 : decide (u1 < 0) = true := decide_eq_true h1
            go_wp2
            go_ret
            exact ⟨by rw [← hA2.out]; rfl, hF.out⟩
          · rw [if_neg h1] at hA2
            have d1 : decide (u1 < 0) = false := decide_eq_false h1
            by_cases h2 : v1 < 0
            · rw [if_pos h2] at hA2
              have d2 : decide (v1 < 0) = true := decide_eq_true h2
              go_wp2
              go_ret
              exact ⟨by rw [← hA2.out]; rfl, hF.out⟩
            · rw [if_neg h2] at hA2
              have d2 : decide (v1 < 0) = false := decide_eq_false h2
              by_cases h3 : u1 = v1
              · rw [if_neg (fun hc => hc h3)] at hA2
                have d3 : (u1 != v1) = false := by rw [bne_eq_false_iff_eq]; exact h3
                replace h3 := Lib.hid h3
                go_wp2
                go_ret
                exact ⟨by rw [← hA2.out]; rfl, hF.out⟩
              · rw [if_pos h3] at hA2
                have d3 : (u1 != v1) = true := by rw [bne_iff_ne]; exact h3
                replace h3 := Lib.hid h3
                go_wp2
                go_ret
                exact ⟨by rw [← hA2.out]; rfl, hF.out⟩
      · obtain rfl : k = 10 := by omega
        have hz := Lib.hid (betG_all (a := a) (b := b) 9 1 fun j j1 j2 => hall.out j j1 (by omega))
        have hbf := Lib.hid (show Below w.heap.size w wr from hb0.out.trans (hbr.out.mono (by omega)))
        clear hE hEG hgen hall a00 a01 b00 b01 d0
        go_wp2
        go_ret
        exact ⟨ret_bool (hz.out.symm.trans hr.out), hbf.out⟩
  · have d0 : ((a 0).2 != (b 0).2) = true := by rw [bne_iff_ne]; exact e0
    have hbet : bet a b = decide ((b 0).2 < (a 0).2) := by unfold bet; rw [if_pos (by simpa using e0)]
    rw [hbet]
    replace e0 := Lib.hid e0
    clear hbet hE hEG hgen
    go_enter Try.func27, Try.ntmps27
    go_wp2
    go_ret
    exact ⟨rfl, hb0.out⟩
end Go.Proofs.Ytjopmieaikgbcaa

set_option linter.unusedVariables false
set_option linter.unusedSimpArgs false
set_option maxRecDepth 100000
namespace Go.Proofs.Ytjopmieaikgbcaa
open Go.RowKit

def tskL : Tsk → List Value
  | .node n => [.int .i64 0, .int .i64 n, .int .i64 0, .int .i64 0]
  | .gend g p => [.int .i64 1, .int .i64 g, .int .i64 0, .int .i64 (p : Int)]
  | .times n k p => [.int .i64 2, .int .i64 n, .int .i64 k, .int .i64 (p : Int)]
def rowL (l : List Tsk) : List Value := l.flatMap tskL
theorem tskL_len (tk : Tsk) : (tskL tk).length = 4 := by cases tk <;> rfl
theorem rowL_len (l : List Tsk) : (rowL l).length = l.length * 4 := by
  induction l with
  | nil => rfl
  | cons x r ih => unfold rowL at ih ⊢; rw [List.flatMap_cons, List.length_append, ih, tskL_len, List.length_cons]; omega
theorem rowL_app (a b : List Tsk) : rowL (a ++ b) = rowL a ++ rowL b := by simp [rowL]
theorem rowL_cons (x : Tsk) (l : List Tsk) : rowL (x :: l) = tskL x ++ rowL l := by simp [rowL]
theorem rowL_one (l : List Tsk) : ∀ u ∈ rowL l, u.oneCell' = true := fun u hu => by
  obtain ⟨x, _, hx⟩ := List.mem_flatMap.1 hu
  cases x <;> simp [tskL] at hx <;> rcases hx with rfl | rfl | rfl | rfl <;> rfl
theorem add_off (b o k : Nat) : (Addr.add ⟨b, o, none⟩ k : Addr) = ⟨b, o + k, none⟩ := by unfold Addr.add; split <;> simp_all
/-- A row of tasks that lies behind F. -/
def Trow (w : World) (F : Nat) (A : Option Addr) (l : List Tsk) : Prop := ∀ j u, (rowL l)[j]? = some u → ∃ b o, A = some ⟨b, o, none⟩ ∧ F < b ∧ b < w.heap.size ∧ w.cell? ⟨b, o + j, none⟩ = some u
theorem Trow.src {w : World} {F : Nat} {A : Option Addr} {l : List Tsk} (h : Trow w F A l) : Src w A (rowL l) := fun j u hj => by
  obtain ⟨b, o, h1, _, _, h2⟩ := h j u hj
  exact ⟨_, h1, by rw [add_off]; exact h2⟩
theorem Trow.keep {w w' : World} {F : Nat} {A : Option Addr} {l : List Tsk} (h : Trow w F A l) (hg : w.grownBy w' (some F)) : Trow w' F A l := fun j u hj => by
  obtain ⟨b, o, h1, h2, h3, h4⟩ := h j u hj
  refine ⟨b, o, h1, h2, Nat.lt_of_lt_of_le h3 hg.size, ?_⟩
  rw [World.grownBy.cell_far hg _ (show b < w.heap.size from h3) (by intro e; have : b = F := Option.some.inj e; omega)]
  exact h4
theorem Trow.below {w w' : World} {F : Nat} {A : Option Addr} {l : List Tsk} (h : Trow w F A l) (hb : Below w.heap.size w w') : Trow w' F A l := h.keep (grown_of hb _)
theorem Trow.nil (w : World) (F : Nat) (A : Option Addr) : Trow w F A [] := fun j u hj => by simp [rowL] at hj
theorem own_trow {w : World} {F base : Nat} {e : TypeId} {v : Value} {n : Nat} {l : List Tsk} (h : w.ownsRow base e 4 v n (rowL l)) (hF : F < base) :
    ∃ A cap, v = .slice A n cap ∧ n = l.length ∧ n ≤ cap ∧ cap ≤ maxLen ∧ Trow w F A l := by
  obtain ⟨hl, ⟨rfl, rfl⟩ | ⟨g, cap, cur, rfl, _, hh, hnc, hcm, hsz, htake⟩⟩ := id h
  · have : l = [] := by rw [rowL_len] at hl; exact List.length_eq_zero_iff.1 (by omega)
    subst this
    exact ⟨none, 0, rfl, rfl, Nat.le_refl _, by simp [maxLen], Trow.nil _ _ _⟩
  · refine ⟨some ⟨g, 0, none⟩, cap, rfl, by rw [rowL_len] at hl; omega, hnc, hcm, ?_⟩
    intro j u hj
    have hlt := h.lt g rfl
    refine ⟨_, _, rfl, by show F < g; omega, hlt.2, ?_⟩
    have hj2 : j < (rowL l).length := (List.getElem?_eq_some_iff.1 hj).1
    rw [Nat.zero_add, h.cellAt j (by rw [hl] at hj2; exact hj2)]
    exact hj
theorem task_info : (Try.prog.info? 66).map (fun i => (i.size, i.bytes)) = some (4, 32) := by kernel_rfl
theorem task_zero : (Try.prog.info? 66).map (·.zero) = some (some (.agg #[.int .i64 0, .int .i64 0, .int .i64 0, .int .i64 0])) := by kernel_rfl
set_option maxHeartbeats 8000000 in
theorem rrow_any (w : World) (F : Nat) (hF : F < w.heap.size) (A1 : Option Addr) (n1 c1 : Nat) (l : List Tsk) (hn1 : n1 = l.length) (hc1 : n1 ≤ c1) (h1 : Trow w F A1 l) (A2 : Option Addr) (n2 c2 : Nat) (ah : List Tsk) (hn2 : n2 = ah.length) (hc2 : n2 ≤ c2) (h2 : Trow w F A2 ah) (hm : n1 + n2 ≤ 1000000) :
    Calls Try.prog 36 #[.slice A1 n1 c1, .slice A2 n2 c2] w fun e w' => (∃ A n c, e = .returned (.slice A n c) ∧ n = (ah ++ l).length ∧ n ≤ c ∧ c ≤ maxLen ∧ Trow w' F A (ah ++ l)) ∧ Below w.heap.size w w' := by
  obtain ⟨i0, hi, hi12⟩ := Option.map_eq_some_iff.1 task_info
  obtain ⟨i0', hi', hz0⟩ := Option.map_eq_some_iff.1 task_zero
  obtain rfl : i0 = i0' := Option.some.inj (hi.symm.trans hi')
  have hI1 := Lib.hid (congrArg Prod.fst hi12)
  have hI2 := Lib.hid (congrArg Prod.snd hi12)
  clear hi12 hi'
  have hown0 := Lib.hid (show (w.alloc (.cells #[] 66)).ownsRow w.heap.size 66 4 (.slice (some ⟨w.heap.size, 0, none⟩) 0 0) 0 (rowL []) from World.ownsRow_lit (e := 66) (size := 4) w #[] 0 (Nat.le_refl _) (by decide) rfl)
  have hb1 := Lib.hid ((Below.refl w.heap.size w).alloc (Nat.le_refl _) (.cells #[] 66))
  have hs2 := Lib.hid (h2.below hb1.out).src
  have hl1 := Lib.hid (show (rowL l).length = n1 * 4 by rw [rowL_len, hn1])
  have hl2 := Lib.hid (show (rowL ah).length = n2 * 4 by rw [rowL_len, hn2])
  have hh1 := Lib.hid h1
  have hfin := Lib.hid (show n2 + n1 = (ah ++ l).length by simp; omega)
  have hsz := Lib.hid (show n2 + n1 ≤ 1000000 by omega)
  have hF0 := Lib.hid hF
  clear h1 h2 hn1 hn2 hm hF hc1 hc2
  go_enter Try.func36, Try.ntmps36
  go_wp2_with (first
    | (have _h := hown2; at_builtin; refine wpList_append_at rfl _ _ 67 rfl w.heap.size 66 i0 (.agg #[.int .i64 0, .int .i64 0, .int .i64 0, .int .i64 0]) 4 32 Try.underlying67 hi hz0 hI1.out hI2.out rfl (by decide) v2 (0 + n2) (rowL [] ++ rowL ah) rfl hown2.out A1 n1 c1 (rowL l) rfl hl1.out (hh1.out.below hb2.out).src (rowL_one l) (by have := hsz.out; unfold maxLen; omega) (by have := hsz.out; omega) hb2.out.size ?_; intro v3 w3 hown3 hg3 _; have hb3 := Lib.hid (below_append hb2.out hown2.out hb2.out.size hg3); replace hown3 := Lib.hid hown3)
    | (at_builtin; refine wpList_append_at rfl _ _ 67 rfl w.heap.size 66 i0 (.agg #[.int .i64 0, .int .i64 0, .int .i64 0, .int .i64 0]) 4 32 Try.underlying67 hi hz0 hI1.out hI2.out rfl (by decide) _ 0 (rowL []) rfl hown0.out A2 n2 c2 (rowL ah) rfl hl2.out hs2.out (rowL_one ah) (by have := hsz.out; unfold maxLen; omega) (by have := hsz.out; omega) hb1.out.size ?_; intro v2 w2 hown2 hg2 _; have hb2 := Lib.hid (below_append hb1.out hown0.out hb1.out.size hg2); replace hown2 := Lib.hid hown2))
  go_ret
  have ho := hown3.out
  rw [show rowL [] ++ rowL ah ++ rowL l = rowL (ah ++ l) by rw [rowL_app]; rfl] at ho
  obtain ⟨A, cap, rfl, e1, e2, e3, e4⟩ := own_trow ho hF0.out
  exact ⟨⟨A, _, cap, rfl, e1.trans List.length_append, e2, e3, e4⟩, hb3.out⟩
end Go.Proofs.Ytjopmieaikgbcaa
