/- The reference's Copy; what is read of a written number. -/
import Derived.Test.YtcflagjannphoaaDoorDigC
import Derived.Test.YtcflagjannphoaaDoorDigF
import Derived.Test.YtcflagjannphoaaDoorApp
namespace Go.Proofs.YtcflagjannphoaaDoor
open Go.RowKit

theorem byte_info : (Tryd.prog.info? 5).map (fun i => (i.zero, i.size, i.bytes)) = some (some (.int .u8 0), 1, 1) := by kernel_rfl

/-- A value that owns the bytes l. -/
def Owned (base : Nat) (e : TypeId) (n : Nat) (l : List UInt8) (w : World) (en : Ending) (w' : World) : Prop := ∃ v, en = .returned v ∧ w'.ownsRow base e 1 v n (bv l) ∧ Below base w w'

theorem copy_any (A : Option Addr) (cap n : Nat) (l : List UInt8) (B : Nat) (w : World) (hn : n = l.length) (hr : Byt w B A l) (hB : B ≤ w.heap.size) (hl : n ≤ 1048576) :
    Calls Tryd.prog 15 #[.slice A n cap] w (Owned w.heap.size 5 n l w) := by
  obtain ⟨i0, hi, hz0, hz1, hz2⟩ := info_parts byte_info
  have hR := Lib.hid hr
  have hN := Lib.hid hn
  clear hr hn
  go_enter Tryd.func15, Tryd.ntmps15
  go_wp2_with (at_builtin; refine wpList_append_vals rfl _ _ 26 rfl w.heap.size 5 i0 (.int .u8 0) 1 Tryd.underlying26 hi hz0 hz1 hz2 rfl _ 0 [] rfl (World.ownsRow_made w #[] 0 (Nat.le_refl _) (by simp [maxLen]) (by simp)) B A n cap (bv l) rfl (by rw [bv_length]; exact hN.out) (((hR.out).vals).keep (fun p hp => World.cell?_alloc_lt w _ p (by omega))) (bv_one l) (by unfold maxLen; omega) (by omega) (by simp) ?_; intro v1 w1 hown1 hg1)
  go_ret
  refine ⟨v1, rfl, by simpa only [Nat.zero_add, List.nil_append] using hown1, ?_⟩
  exact ((Below.refl _ _).alloc (Nat.le_refl _) _).grown hg1 (by simp) (by intro k hk; cases hk; exact Nat.le_refl _)

/-! ### What is written of a number -/
theorem digit_byte (k : Nat) (h : k < 10) : cDigit ((UInt8.ofNat (48 + k)).toNat : Int) = true ∧ ((UInt8.ofNat (48 + k)).toNat : Int) = 48 + k := by
  have e : (UInt8.ofNat (48 + k)).toNat = 48 + k := by rw [UInt8.toNat_ofNat']; exact Nat.mod_eq_of_lt (by omega)
  rw [e]
  exact ⟨isW_in (by omega) (by omega), by omega⟩
theorem numF_app : ∀ (a b : List UInt8) (n : Int), numF (a ++ b) n = numF b (numF a n)
  | [], _, _ => rfl
  | x :: r, b, n => by rw [List.cons_append, numF, numF, numF_app r b]
theorem itoa_facts (k : Nat) : ∀ n : Nat, n ≤ k → (∀ c ∈ Lib.itoa n, cDigit c.toNat = true) ∧ numF (Lib.itoa n) 0 = n ∧ Lib.itoa n ≠ [] := by
  have small : ∀ n : Nat, n < 10 → (∀ c ∈ Lib.itoa n, cDigit c.toNat = true) ∧ numF (Lib.itoa n) 0 = n ∧ Lib.itoa n ≠ [] := by
    intro n h
    have hd := digit_byte n h
    rw [itoa_digit n h]
    refine ⟨fun c hc => ?_, ?_, by simp⟩
    · obtain rfl := List.mem_singleton.1 hc
      exact hd.1
    · rw [numF, numF, hd.2]; omega
  induction k with
  | zero => exact fun n h => small n (by omega)
  | succ k ih =>
    intro n hk
    by_cases h : n < 10
    · exact small n h
    · obtain ⟨i1, i2, i3⟩ := ih (n / 10) (by omega)
      have hd := digit_byte (n % 10) (by omega)
      rw [itoa_more n (by omega)]
      refine ⟨fun c hc => ?_, ?_, by simp⟩
      · rcases List.mem_append.1 hc with h1 | h1
        · exact i1 c h1
        · obtain rfl := List.mem_singleton.1 h1
          exact hd.1
      · rw [numF_app, i2, numF, numF, hd.2]; omega

/-- Where digits stand between what is ahead and something that begins with no digit, they are read whole. -/
theorem dEnd_mid (f d r : List UInt8) (hd : ∀ c ∈ d, cDigit c.toNat = true) (hr : ∀ c ∈ r.head?, cDigit c.toNat = false) : dEnd (f ++ (d ++ r)) f.length = f.length + d.length := by
  unfold dEnd
  rw [List.drop_left]
  have : (d ++ r).takeWhile (fun c : UInt8 => cDigit c.toNat) = d := by
    induction d with
    | nil =>
      cases r with
      | nil => rfl
      | cons x r => rw [List.nil_append, List.takeWhile_cons_of_neg (by rw [hr x (by simp)]; decide)]
    | cons x d ih => rw [List.cons_append, List.takeWhile_cons_of_pos (by rw [hd x (by simp)]), ih (fun c hc => hd c (List.mem_cons_of_mem _ hc))]
  rw [this]
theorem numS_mid (f r : List UInt8) (n : Nat) (most : Int) (hr : ∀ c ∈ r.head?, cDigit c.toNat = false) :
    numS (f ++ (Lib.itoa n ++ r)) f.length most = if (n : Int) ≤ most then ((n : Int), ((f.length + (Lib.itoa n).length : Nat) : Int), 0) else (0, 0, 3) := by
  obtain ⟨h1, h2, h3⟩ := itoa_facts n n (Nat.le_refl _)
  have he := dEnd_mid f (Lib.itoa n) r h1 hr
  have hpos : 0 < (Lib.itoa n).length := List.length_pos_iff.2 h3
  unfold numS
  rw [if_neg (by rw [List.length_append]; omega), Int.toNat_natCast, he, if_neg (by omega)]
  have hc : ((f ++ (Lib.itoa n ++ r)).take (f.length + (Lib.itoa n).length)).drop f.length = Lib.itoa n := by
    rw [List.take_length_add_append, List.drop_left, List.take_left]
  rw [hc, valS_eq most _ 0 (Int.le_refl _) h1 (.inr h3), h2]
  by_cases hm : (n : Int) ≤ most
  · rw [if_pos hm, if_pos hm]
  · rw [if_neg hm, if_neg hm]
end Go.Proofs.YtcflagjannphoaaDoor
