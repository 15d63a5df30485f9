/- Layer 4: the contracts of show.Quote and of the reference's Quote. -/
import Derived.Test.YtcjhbpkkkhaaiaaShwC
import Derived.Test.YtcjhbpkkkhaaiaaBld
namespace Go.Proofs.Ytcjhbpkkkhaaiaa
open Go.RowKit

theorem flatMap_step {l : List UInt8} {k : Nat} {x : UInt8} (hx : l[k]? = some x) (f : UInt8 → List UInt8) : (l.drop k).flatMap f = f x ++ (l.drop (k + 1)).flatMap f := by
  obtain ⟨hk, rfl⟩ := List.getElem?_eq_some_iff.1 hx
  rw [List.drop_eq_getElem_cons hk, List.flatMap_cons]

def QRel (B : Nat) (l : List UInt8) (k : Nat) (W w : World) : Prop :=
  ∃ o : List UInt8, o.length ≤ 5 * k + 1 ∧ o ++ ((l.drop k).flatMap encL ++ [34]) = quoteS l ∧ Bld B B o w ∧ Below W.heap.size W w ∧ B = W.heap.size
theorem QRel.mk {B : Nat} {l : List UInt8} {k : Nat} {W w : World} (o : List UInt8) (h1 : o.length ≤ 5 * k + 1) (h2 : o ++ ((l.drop k).flatMap encL ++ [34]) = quoteS l) (h3 : Bld B B o w) (h4 : Below W.heap.size W w) (h5 : B = W.heap.size) : QRel B l k W w := ⟨o, h1, h2, h3, h4, h5⟩

set_option maxHeartbeats 1000000 in
theorem quote_any (A : Option Addr) (n c : Nat) (l : List UInt8) (w : World) (hn : n = l.length) (hnc : n ≤ c) (hbig : n ≤ 1000) (h : Byt w w.heap.size A l) :
    Calls Try.prog 10 #[.slice A n c] w fun e w' => e = .returned (.string ⟨(quoteS l).toArray⟩) ∧ Below w.heap.size w w' := by
  have hL := Lib.hid hn
  have hB := Lib.hid h
  have hWB := Lib.hid (writeByte_any w.heap.size w.heap.size)
  have hWS := Lib.hid (writeString_any w.heap.size w.heap.size)
  have hST := Lib.hid (Try.Builder_String_any w.heap.size w.heap.size)
  clear hn h
  have hfr := Lib.hid (Lib.fresh_isBuilder 41 5 w)
  go_enter Try.func10, Try.ntmps10
  go_wp2_with (first
    | (go_at_call 16; refine (hWB.out [] 34 34 rfl _ hfr.out (by simp) (by simp)).mono ?_; rintro e w1 ⟨rfl, h1, hb1⟩; have hbW := ((Below.refl w.heap.size w).alloc (Nat.le_refl _) (.cells #[.pointer none, .slice none 0 0] 41)).trans hb1))
  have hL0 : QRel w.heap.size l 0 w w1 := QRel.mk [34] (by simp) (by rw [List.drop_zero]; rfl) h1 hbW rfl
  clear h1 hb1 hbW hfr
  go_loopw [9] (fun i wr => ∃ k : Nat, k ≤ n ∧ i = .int .i64 ((k : Nat) : Int) ∧ QRel w.heap.size l k w wr) (fun i _ => n - (intOf i).toNat)
  case atStart => exact ⟨0, Nat.zero_le _, rfl, hL0⟩
  case round =>
    obtain ⟨k, hk, rfl, o, ho, hrow, hbl, hb, -⟩ := hrel
    clear hL0
    by_cases hkn : k < n
    · obtain ⟨x, hx⟩ := get_some hL.out hkn
      obtain ⟨ad, rfl, hcell⟩ := (hB.out.below hb).get hx
      obtain ⟨m, hm1, hm4, hmx, hM0⟩ := mark_str x
      have hM := Lib.hid hM0
      rw [flatMap_step hx encL] at hrow
      clear hx hM0
      replace hb := Lib.hid hb
      replace hbl := Lib.hid hbl
      by_cases h1 : x = 34
      · have he : encL x = [92] ++ m.data.toList := by rw [hmx, h1]; decide
        rw [he] at hrow
        replace hrow := Lib.hid hrow
        have g1 : ((x.toNat : Int) == 34) = true := by rw [h1]; rfl
        clear hmx he h1
        go_wp2_with (first
          | (go_at_call 15; refine (hM.out _).mono ?_; rintro e w3 ⟨rfl, hb3⟩; have h3 := Lib.hid (h2.out.below hb3); have hbY := hbX.trans (hb3.mono hbX.size))
          | (go_at_call 16; refine (hWB.out o 92 92 rfl _ hbl.out (by omega) hb.out.size).mono ?_; rintro e w2 ⟨rfl, h2, hb2⟩; replace h2 := Lib.hid h2; have hbX := hb.out.trans hb2)
          | (go_at_call 17; refine (hWS.out (o ++ [92]) m _ h3.out (by simp; omega) (by omega) hbY.size).mono ?_; rintro e w4 ⟨rfl, h4, hb4⟩; replace h4 := Lib.hid h4; have hbZ := hbY.trans hb4))
        go_round
        case rel => exact ⟨k + 1, by omega, by go_num, QRel.mk _ (by simp; omega) (by rw [← hrow.out]; simp only [List.append_assoc]) h4.out hbZ rfl⟩
        case measure => simp [intOf]; omega
      · have he : encL x = m.data.toList := by unfold encL; rw [if_neg (by simpa using h1), hmx]
        rw [he] at hrow
        replace hrow := Lib.hid hrow
        have g1 : ((x.toNat : Int) == 34) = false := u8_ne (b := 34) h1
        clear hmx he h1
        go_wp2_with (first
          | (go_at_call 15; refine (hM.out _).mono ?_; rintro e w3 ⟨rfl, hb3⟩; have h3 := Lib.hid (hbl.out.below hb3); have hbY := hb.out.trans (hb3.mono hb.out.size))
          | (go_at_call 17; refine (hWS.out o m _ h3.out (by omega) (by omega) hbY.size).mono ?_; rintro e w4 ⟨rfl, h4, hb4⟩; replace h4 := Lib.hid h4; have hbZ := hbY.trans hb4))
        go_round
        case rel => exact ⟨k + 1, by omega, by go_num, QRel.mk _ (by simp; omega) (by rw [← hrow.out]; simp only [List.append_assoc]) h4.out hbZ rfl⟩
        case measure => simp [intOf]; omega
    · have hkn' : k = n := by omega
      subst hkn'
      have hend : Hid (o ++ [34] = quoteS l) := by
        apply Lib.hid
        rw [← hrow, List.drop_of_length_le (by rw [← hL.out]; omega)]; rfl
      clear hrow
      replace hb := Lib.hid hb
      replace hbl := Lib.hid hbl
      go_wp2_with (first
        | (go_at_call 16; refine (hWB.out o 34 34 rfl _ hbl.out (by omega) hb.out.size).mono ?_; rintro e w2 ⟨rfl, h2, hb2⟩; replace h2 := Lib.hid h2; have hbX := hb.out.trans hb2)
        | (go_at_call 18; refine (hST.out (o ++ [34]) _ h2.out hbX.size).mono ?_; rintro e w4 ⟨rfl, hb4⟩; have hbZ := hbX.trans hb4))
      go_ret
      exact ⟨by rw [← hend.out]; rfl, hbZ⟩

set_option maxHeartbeats 1000000 in
theorem refMark_int (x : Int) (c : UInt8) (hx : x = (c.toNat : Int)) (w : World) :
    Calls Try.prog 21 #[.int .u8 x] w fun e w' => e = .returned (.string ⟨(markL c).toArray⟩) ∧ Below w.heap.size w w' := by
  have hc := c.toNat_lt
  by_cases h1 : x = 92
  · have hm : markL c = [92, 92] := by
      have : c = 92 := UInt8.toNat_inj.1 (by simp; omega)
      subst this; rfl
    subst h1
    rw [hm]
    clear hx hc hm
    go_enter Try.func21, Try.ntmps21
    go_wp2
    go_ret
    exact ⟨rfl, Below.refl _ _⟩
  · have g1 : (x == 92) = false := by simp [h1]
    by_cases h2 : 7 ≤ x ∧ x ≤ 13
    · have hm : markL c = [92, lettersL.getD (x.toNat - 7) 0] := by
        unfold markL
        rw [if_neg (by rw [beq_iff_eq]; rintro rfl; simp at hx; omega), if_pos (by simp; omega), show x.toNat = c.toNat by omega]
      rw [hm]
      clear hm hc hx
      have : x = 7 ∨ x = 8 ∨ x = 9 ∨ x = 10 ∨ x = 11 ∨ x = 12 ∨ x = 13 := by omega
      clear h1 h2 g1
      rcases this with rfl | rfl | rfl | rfl | rfl | rfl | rfl
      all_goals
        go_enter Try.func21, Try.ntmps21
        go_wp2
        go_ret
        exact ⟨rfl, Below.refl _ _⟩
    · by_cases h3 : 32 ≤ x ∧ x ≤ 126
      · have hm : markL c = [c] := by
          unfold markL
          rw [if_neg (by rw [beq_iff_eq]; rintro rfl; simp at hx; omega), if_neg (by simp; omega), if_pos (by simp; omega)]
        rw [hm]
        have hcv := conv1 x (by omega) (by omega)
        have g2 : decide (7 ≤ x) = true := by simp; omega
        have g3 : decide (x ≤ 13) = false := by simp; omega
        have g4 : decide (32 ≤ x) = true := by simp; omega
        have g5 : decide (x ≤ 126) = true := by simp; omega
        clear hc
        replace hx := Lib.hid hx
        go_enter Try.func21, Try.ntmps21
        go_wp2
        go_ret
        refine ⟨?_, (Below.refl _ _).alloc (Nat.le_refl _) _⟩
        rw [hx.out, Int.toNat_natCast, UInt8.ofNat_toNat]; rfl
      · have hm : markL c = [92, UInt8.ofNat (48 + c.toNat / 64), UInt8.ofNat (48 + c.toNat / 8 % 8), UInt8.ofNat (48 + c.toNat % 8)] := by
          unfold markL
          rw [if_neg (by rw [beq_iff_eq]; rintro rfl; simp at hx; omega), if_neg (by simp; omega), if_neg (by simp; omega)]
        rw [hm]
        clear hm
        have hfin : Hid ((⟨#[92, UInt8.ofNat (48 + x / 64).toNat, UInt8.ofNat (48 + x / 8 % 8).toNat, UInt8.ofNat (48 + x % 8).toNat]⟩ : ByteArray) = ⟨[92, UInt8.ofNat (48 + c.toNat / 64), UInt8.ofNat (48 + c.toNat / 8 % 8), UInt8.ofNat (48 + c.toNat % 8)].toArray⟩) := by
          apply Lib.hid
          rw [show (48 + x / 64).toNat = 48 + c.toNat / 64 by omega, show (48 + x / 8 % 8).toNat = 48 + c.toNat / 8 % 8 by omega, show (48 + x % 8).toNat = 48 + c.toNat % 8 by omega]
        have h0 : 0 ≤ x := by omega
        have h255 : x ≤ 255 := by omega
        clear hc
        replace hx := Lib.hid hx
        by_cases h7 : 7 ≤ x
        all_goals
          go_enter Try.func21, Try.ntmps21
          go_wp2
          all_goals
            rw [conv3 (48 + x / 64) (48 + x / 8 % 8) (48 + x % 8) (by omega) (by omega) (by omega) _ _ (by rw [cell_of_row _ _ 0 _ _ _ (heap_alloc_new w _)]; rfl) (by rw [cell_of_row _ _ 1 _ _ _ (heap_alloc_new w _)]; rfl) (by rw [cell_of_row _ _ 2 _ _ _ (heap_alloc_new w _)]; rfl)]
            simp only [Result.andThen]
            rw [Oper.upon_value]
            go_wp2
            go_ret
            refine ⟨?_, (Below.refl _ _).alloc (Nat.le_refl _) _⟩
            rw [← hfin.out]; rfl
end Go.Proofs.Ytcjhbpkkkhaaiaa
