/- Contract of lines.Nth. -/
import Derived.Test.YtdmbjhgfiofbhaaLinE
namespace Go.Proofs.Ytdmbjhgfiofbhaa
open Go.RowKit

/-- The n-th line, from 1 on. -/
def nthS (l : List UInt8) (n : Int) : Option Lin := if n < 1 then none else (splitS l)[(n - 1).toNat]?

def RelN (l : List UInt8) (m : Nat) (n : Int) (a i : Value) : Prop :=
  ∃ (p k : Nat), a = .int .i64 (p : Nat) ∧ i = .int .i64 (k : Nat) ∧ p ≤ m ∧ 1 ≤ k ∧ (k : Int) ≤ n ∧ Hid (splitS (l.drop p) = (splitS l).drop (k - 1))
theorem RelN.mk {l : List UInt8} {m : Nat} {n : Int} {a i : Value} (h : ∃ (p k : Nat), a = .int .i64 (p : Nat) ∧ i = .int .i64 (k : Nat) ∧ p ≤ m ∧ 1 ≤ k ∧ (k : Int) ≤ n ∧ Hid (splitS (l.drop p) = (splitS l).drop (k - 1))) : RelN l m n a i := h

theorem nth_low (A : Option Addr) (m c : Nat) (n : Int) (w : World) (hn : n < 1) :
    Calls Try.prog 9 #[.slice A m c, .int .i64 n] w fun e w' => e = .returned (.tuple #[.agg #[.slice none 0 0, .bool false], .bool false]) ∧ Below w.heap.size w w' := by
  go_enter Try.func9, Try.ntmps9
  go_wp2
  exact bodyPost_ret (v := .tuple #[.agg #[.slice none 0 0, .bool false], .bool false]) (by simp [results, Try.results9, go_sem]) rfl ⟨rfl, (Below.refl _ _).alloc (Nat.le_refl _) _⟩

/-- The cells of the result's variable behind a call and a new block. -/
theorem resN {w w1 : World} (hb : Below (w.alloc (.cells #[.slice none 0 0, .bool false] 27)).heap.size (w.alloc (.cells #[.slice none 0 0, .bool false] 27)) w1) :
    w1.cell? ⟨w.heap.size, 0, none⟩ = some (.slice none 0 0) ∧ w1.cell? ⟨w.heap.size, 1, none⟩ = some (.bool false) ∧ w1.frozen? ⟨w.heap.size, 0, none⟩ = false ∧ w1.frozen? ⟨w.heap.size, 1, none⟩ = false ∧ w.heap.size < w1.heap.size := by
  have hs : w.heap.size < (w.alloc (.cells #[.slice none 0 0, .bool false] 27)).heap.size := by simp
  refine ⟨?_, ?_, ?_, ?_, Nat.lt_of_lt_of_le hs hb.size⟩
  · rw [hb.cell (p := ⟨w.heap.size, 0, none⟩) hs]; go_simp
  · rw [hb.cell (p := ⟨w.heap.size, 1, none⟩) hs]; go_simp
  · rw [hb.frozen (p := ⟨w.heap.size, 0, none⟩) hs]; go_simp
  · rw [hb.frozen (p := ⟨w.heap.size, 1, none⟩) hs]; go_simp

set_option maxHeartbeats 2000000 in
theorem nth_any (A : Option Addr) (m c : Nat) (l : List UInt8) (n : Int) (w : World) (hm : m = l.length) (hmc : m ≤ c) (hc : c ≤ maxLen) (hbig : m ≤ 1000000) (hwf : n ≤ 9223372036854775807) (h : Byt w w.heap.size A l) (h1 : 1 ≤ n) :
    Calls Try.prog 9 #[.slice A m c, .int .i64 n] w fun e w' => Below w.heap.size w w' ∧
      ((nthS l n = none ∧ e = .returned (.tuple #[.agg #[.slice none 0 0, .bool false], .bool false])) ∨
       ∃ x v, nthS l n = some x ∧ e = .returned (.tuple #[.agg #[v, .bool x.2], .bool true]) ∧ w'.ownsRow w.heap.size 5 1 v x.1.length (bv x.1)) := by
  have hb1 : ∀ o1, Below w.heap.size w (w.alloc o1) := fun o1 => (Below.refl _ _).alloc (Nat.le_refl _) o1
  have hszA : ∀ (w : World) (o : Obj), (w.alloc o).heap.size = w.heap.size + 1 := fun w o => by simp
  have hbeh := Lib.hid (fun (p : Nat) (hp : p < m) (o1 : Obj) => behind_any A m c p l _ (w.alloc o1) hm hmc hc (h.below (hb1 o1)) hp)
  have hno := Lib.hid (fun (p : Nat) (hp : m ≤ p) (o1 : Obj) => cut_no A m c (p : Int) (w.alloc o1) hmc hc (.inr (by omega)))
  have hyes := Lib.hid (fun (p : Nat) (hp : p < m) (o1 : Obj) => cut_yes A m c p l (w.alloc o1) hm hmc hc (by omega) ((h.below (hb1 o1)).more (by rw [hszA]; omega)) hp)
  have hS := Lib.hid (show ∀ k, k < m → splitS (l.drop k) = (lnOf (l.drop k), hasNL (l.drop k)) :: splitS (l.drop (k + adv (l.drop k))) from fun k hk => by
    rw [splitS_cons (l.drop k) (by intro e; have := congrArg List.length e; simp at this; omega), List.drop_drop])
  have hA := Lib.hid (show ∀ k, k < m → 0 < adv (l.drop k) ∧ k + adv (l.drop k) ≤ m from fun k hk => by
    have h1 := adv_pos (d := l.drop k) (by intro e; have := congrArg List.length e; simp at this; omega)
    have h2 := adv_le (l.drop k); rw [List.length_drop] at h2
    exact ⟨h1, by omega⟩)
  have hE := Lib.hid (show splitS (l.drop m) = [] from by rw [hm, List.drop_length]; rfl)
  unfold maxLen at hc
  clear hm h
  go_enter Try.func9, Try.ntmps9
  go_wp2
  go_loop [6, 7] (fun a i => RelN l m n a i) (fun a _ => m - (intOf a).toNat)
  case atStart => exact RelN.mk ⟨0, 1, rfl, rfl, by omega, by omega, by omega, Lib.hid (by simp)⟩
  case round =>
    obtain ⟨p, k, rfl, rfl, hp, hk1, hk2, hst⟩ := hrel
    by_cases hpm : p < m
    · by_cases hkn : (k : Int) < n
      · have hbeh := Lib.hid (hbeh.out p hpm)
        obtain ⟨hq0, hq1⟩ := hA.out p hpm
        have hT := Lib.hid (show splitS (l.drop (p + adv (l.drop p))) = (splitS l).drop (k + 1 - 1) by
          have e := hS.out p hpm
          rw [hst.out] at e
          have e2 := congrArg List.tail e
          rw [List.tail_drop, List.tail_cons] at e2
          rw [← e2]; congr 1; omega)
        clear hst
        generalize adv (l.drop p) = q at *
        go_wp2_with (go_at_call 16; refine (hbeh.out _).mono ?_; rintro e w1 ⟨rfl, rfl⟩)
        go_round
        case rel => exact RelN.mk ⟨p + q, k + 1, by go_num, by go_num, by omega, by omega, by omega, hT⟩
        case measure => simp [intOf]; omega
      · have hX := Lib.hid (show nthS l n = some (lnOf (l.drop p), hasNL (l.drop p)) by
          have e := hS.out p hpm
          rw [hst.out] at e
          unfold nthS
          rw [if_neg (by omega), show (n - 1).toNat = k - 1 by omega, ← List.head?_drop, e]; rfl)
        have hyes := Lib.hid (hyes.out p hpm)
        clear hst
        generalize adv (l.drop p) = q at *
        generalize lnOf (l.drop p) = x1 at *
        generalize hasNL (l.drop p) = x2 at *
        go_wp2_with (go_at_call 15; refine (hyes.out _).mono ?_; rintro e w1 ⟨v, rfl, ho, hb⟩; obtain ⟨A1, c1, rfl, -, -, -, -⟩ := own_byt ho; obtain ⟨hr0, hr1, hr2, hr3, hr4⟩ := resN hb)
        have hlt1 : ∀ o : Obj, w.heap.size < (w.alloc o).heap.size := fun o => by rw [hszA]; omega
        have hr4' : w.heap.size < ((w1.setCell ⟨w.heap.size, 0, none⟩ (.slice A1 x1.length c1)).setCell ⟨w.heap.size, 1, none⟩ (.bool x2)).heap.size := by
          have h1 := (setCell_grown w1 ⟨w.heap.size, 0, none⟩ (.slice A1 x1.length c1)).size
          have h2 := (setCell_grown (w1.setCell ⟨w.heap.size, 0, none⟩ (.slice A1 x1.length c1)) ⟨w.heap.size, 1, none⟩ (.bool x2)).size
          omega
        exact bodyPost_ret (v := .tuple #[.agg #[.slice A1 x1.length c1, .bool x2], .bool true]) (by simp [results, Try.results9, go_sem, hr0, hr1, hr4]) rfl
          ⟨((((hb1 _).trans (hb.mono (Nat.le_of_lt (hlt1 _)))).setCell (Nat.le_refl _) _).setCell (Nat.le_refl _) _).alloc (Nat.le_of_lt hr4') _, .inr ⟨(x1, x2), _, hX.out, rfl, ownsRow_base ((own_set (own_set ho (hlt1 _) _) (hlt1 _) _).alloc _) (Nat.le_of_lt (hlt1 _))⟩⟩
    · have hX := Lib.hid (show nthS l n = none by
        obtain rfl : p = m := by omega
        have e := hst.out
        rw [hE.out] at e
        unfold nthS
        rw [if_neg (by omega)]
        have e2 := congrArg List.length e
        rw [List.length_drop, List.length_nil] at e2
        rw [List.getElem?_eq_none]; omega)
      have hno := Lib.hid (hno.out p (by omega))
      by_cases hkn : (k : Int) < n
      all_goals
        go_wp2_with (go_at_call 15; refine (hno.out _).mono ?_; rintro e w1 ⟨rfl, hb⟩; obtain ⟨hr0, hr1, hr2, hr3, hr4⟩ := resN hb)
        have hlt1 : ∀ o : Obj, w.heap.size < (w.alloc o).heap.size := fun o => by rw [hszA]; omega
        have hr4' : w.heap.size < ((w1.setCell ⟨w.heap.size, 0, none⟩ (.slice none 0 0)).setCell ⟨w.heap.size, 1, none⟩ (.bool false)).heap.size := by
          have h1 := (setCell_grown w1 ⟨w.heap.size, 0, none⟩ (.slice none 0 0)).size
          have h2 := (setCell_grown (w1.setCell ⟨w.heap.size, 0, none⟩ (.slice none 0 0)) ⟨w.heap.size, 1, none⟩ (.bool false)).size
          omega
        exact bodyPost_ret (v := .tuple #[.agg #[.slice none 0 0, .bool false], .bool false]) (by simp [results, Try.results9, go_sem, hr0, hr1, hr4]) rfl
          ⟨((((hb1 _).trans (hb.mono (Nat.le_of_lt (hlt1 _)))).setCell (Nat.le_refl _) _).setCell (Nat.le_refl _) _).alloc (Nat.le_of_lt hr4') _, .inl ⟨hX.out, rfl⟩⟩

theorem nth_none (A : Option Addr) (m c : Nat) (l : List UInt8) (n : Int) (w : World) (hm : m = l.length) (hmc : m ≤ c) (hc : c ≤ maxLen) (hbig : m ≤ 1000000) (hwf : n ≤ 9223372036854775807) (h : Byt w w.heap.size A l) (hx : nthS l n = none) :
    Calls Try.prog 9 #[.slice A m c, .int .i64 n] w fun e w' => e = .returned (.tuple #[.agg #[.slice none 0 0, .bool false], .bool false]) ∧ Below w.heap.size w w' := by
  by_cases h1 : 1 ≤ n
  · refine (nth_any A m c l n w hm hmc hc hbig hwf h h1).mono fun e w' ⟨hb2, hr⟩ => ?_
    rcases hr with ⟨_, he⟩ | ⟨x, v, hx2, _, _⟩
    · exact ⟨he, hb2⟩
    · rw [hx] at hx2; cases hx2
  · exact nth_low A m c n w (by omega)
theorem nth_some (A : Option Addr) (m c : Nat) (l : List UInt8) (n : Int) (w : World) (hm : m = l.length) (hmc : m ≤ c) (hc : c ≤ maxLen) (hbig : m ≤ 1000000) (hwf : n ≤ 9223372036854775807) (h : Byt w w.heap.size A l) {x : Lin} (hx : nthS l n = some x) :
    Calls Try.prog 9 #[.slice A m c, .int .i64 n] w fun e w' => ∃ v, e = .returned (.tuple #[.agg #[v, .bool x.2], .bool true]) ∧ w'.ownsRow w.heap.size 5 1 v x.1.length (bv x.1) ∧ Below w.heap.size w w' := by
  have h1 : 1 ≤ n := by
    unfold nthS at hx
    by_cases h2 : n < 1
    · rw [if_pos h2] at hx; cases hx
    · omega
  refine (nth_any A m c l n w hm hmc hc hbig hwf h h1).mono fun e w' ⟨hb2, hr⟩ => ?_
  rcases hr with ⟨hx2, _⟩ | ⟨y, v, hx2, he, ho⟩
  · rw [hx] at hx2; cases hx2
  · obtain rfl : x = y := by rw [hx] at hx2; exact Option.some.inj hx2
    exact ⟨v, he, ho, hb2⟩
end Go.Proofs.Ytdmbjhgfiofbhaa
