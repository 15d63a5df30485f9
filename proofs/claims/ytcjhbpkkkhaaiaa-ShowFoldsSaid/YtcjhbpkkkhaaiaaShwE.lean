/- Layer 4: the contract of the reference's Quote. -/
import Derived.Test.YtcjhbpkkkhaaiaaShwD
namespace Go.Proofs.Ytcjhbpkkkhaaiaa
open Go.RowKit

theorem refMark_str (x : UInt8) : ∃ m : ByteArray, 1 ≤ m.size ∧ m.size ≤ 4 ∧ m.data.toList = markL x ∧
    ∀ w, Calls Try.prog 21 #[.int .u8 (x.toNat : Int)] w fun e w' => e = .returned (.string m) ∧ Below w.heap.size w w' :=
  ⟨⟨(markL x).toArray⟩, (mark_len x).1, (mark_len x).2, rfl, fun w => refMark_int _ x rfl w⟩

def RQRel (l : List UInt8) (k : Nat) (v : Value) (W w : World) : Prop :=
  ∃ o : ByteArray, v = .string o ∧ o.size ≤ 5 * k + 1 ∧ o.data.toList ++ ((l.drop k).flatMap encL ++ [34]) = quoteS l ∧ Below W.heap.size W w
theorem RQRel.mk {l : List UInt8} {k : Nat} {W w : World} (o : ByteArray) (h1 : o.size ≤ 5 * k + 1) (h2 : o.data.toList ++ ((l.drop k).flatMap encL ++ [34]) = quoteS l) (h4 : Below W.heap.size W w) : RQRel l k (.string o) W w := ⟨o, rfl, h1, h2, h4⟩
theorem str_app (a b : ByteArray) : (a ++ b).data.toList = a.data.toList ++ b.data.toList := by simp

set_option maxHeartbeats 1000000 in
theorem refQuote_any (A : Option Addr) (n c : Nat) (l : List UInt8) (w : World) (hn : n = l.length) (hnc : n ≤ c) (hbig : n ≤ 1000) (h : Byt w w.heap.size A l) :
    Calls Try.prog 12 #[.slice A n c] w fun e w' => e = .returned (.string ⟨(quoteS l).toArray⟩) ∧ Below w.heap.size w w' := by
  have hL := Lib.hid hn
  have hB := Lib.hid h
  clear hn h
  go_enter Try.func12, Try.ntmps12
  go_wp2
  go_loopw [4, 3] (fun i v wr => ∃ k : Nat, k ≤ n ∧ i = .int .i64 ((k : Nat) : Int) ∧ RQRel l k v w wr) (fun i _ _ => n - (intOf i).toNat)
  case atStart => exact ⟨0, Nat.zero_le _, rfl, RQRel.mk ⟨#[34]⟩ (by simp [ByteArray.size]) (by rw [List.drop_zero]; rfl) (Below.refl _ _)⟩
  case round =>
    obtain ⟨k, hk, rfl, o, rfl, ho, hrow, hb⟩ := hrel
    by_cases hkn : k < n
    · obtain ⟨x, hx⟩ := get_some hL.out hkn
      obtain ⟨ad, rfl, hcell⟩ := (hB.out.below hb).get hx
      rw [flatMap_step hx encL] at hrow
      clear hx
      replace hb := Lib.hid hb
      by_cases h1 : x = 34
      · have he : encL x = [92, 34] := by rw [h1]; decide
        rw [he] at hrow
        replace hrow := Lib.hid hrow
        have g1 : ((x.toNat : Int) == 34) = true := by rw [h1]; rfl
        clear he h1
        go_wp2
        go_round
        case rel => exact ⟨k + 1, by omega, by go_num, RQRel.mk (o ++ ⟨#[92, 34]⟩) (by rw [ByteArray.size_append]; show o.size + 2 ≤ _; omega) (by rw [← hrow.out, str_app]; simp only [List.append_assoc]) hb.out⟩
        case measure => simp [intOf]; omega
      · obtain ⟨m, hm1, hm4, hmx, hM0⟩ := refMark_str x
        have hM := Lib.hid hM0
        have he : encL x = m.data.toList := by unfold encL; rw [if_neg (by simpa using h1), hmx]
        rw [he] at hrow
        replace hrow := Lib.hid hrow
        have g1 : ((x.toNat : Int) == 34) = false := u8_ne (b := 34) h1
        clear hmx he h1 hM0
        go_wp2_with (first
          | (go_at_call 21; refine (hM.out _).mono ?_; rintro e w3 ⟨rfl, hb3⟩; have hbY := hb.out.trans (hb3.mono hb.out.size)))
        go_round
        case rel => exact ⟨k + 1, by omega, by go_num, RQRel.mk (o ++ m) (by rw [ByteArray.size_append]; omega) (by rw [← hrow.out, str_app]; simp only [List.append_assoc]) hbY⟩
        case measure => simp [intOf]; omega
    · have hkn' : k = n := by omega
      subst hkn'
      have hend : Hid (o.data.toList ++ [34] = quoteS l) := by
        apply Lib.hid
        rw [← hrow, List.drop_of_length_le (by rw [← hL.out]; omega)]; rfl
      clear hrow
      replace hb := Lib.hid hb
      go_wp2
      go_ret
      refine ⟨?_, hb.out⟩
      have : (⟨(quoteS l).toArray⟩ : ByteArray) = o ++ ⟨#[34]⟩ := bytes_ext (by rw [str_app, ← hend.out])
      rw [this]; rfl
end Go.Proofs.Ytcjhbpkkkhaaiaa
