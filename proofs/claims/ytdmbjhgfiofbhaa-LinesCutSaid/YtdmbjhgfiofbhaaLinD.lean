/- Contracts of package lines. -/
import Derived.Test.YtdmbjhgfiofbhaaByK
import Derived.Test.YtdmbjhgfiofbhaaLinW
import Derived.Deep.QuietTactic
import Derived.BigQuiet
namespace Go.Proofs.Ytdmbjhgfiofbhaa
open Go.RowKit

theorem behind_any (A : Option Addr) (n c k : Nat) (l : List UInt8) (B : Nat) (w : World) (hn : n = l.length) (hnc : n ≤ c) (hm : c ≤ maxLen) (h : Byt w B A l) (hk : k < n) :
    Calls Try.prog 16 #[.slice A n c, .int .i64 (k : Int)] w fun e w' => e = .returned (.int .i64 ((k + adv (l.drop k) : Nat) : Int)) ∧ w = w' := by
  unfold maxLen at hm
  have hcut : Byt w B (if c = k then A else A.map (·.add k)) (l.drop k) := by
    have := h.cut (i := k) (j := l.length) (cap := c) (Nat.le_refl _) (by omega)
    rwa [List.take_length] at this
  obtain ⟨ad, hA, -, -⟩ := h.at_ (k := k) (by omega)
  subst hA
  rw [if_neg (by omega)] at hcut
  have hi := indexByte_any _ (n - k) (c - k) _ 10 B w (by rw [List.length_drop]; omega) hcut
  have hle := adv_le (l.drop k)
  rw [List.length_drop] at hle
  rw [indexByte_adv] at hi
  have hb : hasNL (l.drop k) = false → adv (l.drop k) = n - k := fun h => by unfold adv; rw [h, List.length_drop]; simp; omega
  have ha : hasNL (l.drop k) = true → adv (l.drop k) = (lnOf (l.drop k)).length + 1 := fun h => by unfold adv; rw [h]; simp
  generalize adv (l.drop k) = q at *
  generalize (lnOf (l.drop k)).length = z at *
  by_cases hx : hasNL (l.drop k) = true
  · rw [if_pos hx] at hi
    have hI := Lib.hid hi
    have ha := ha hx
    subst ha
    have hz : k + z + 1 ≤ n := by omega
    clear hb hi hn
    go_enter Try.func16, Try.ntmps16
    go_wp2_with (go_at_call 20; refine (hI.out).mono ?_; rintro e w' ⟨rfl, rfl⟩)
    go_ret
    exact ⟨ret_int (by omega), rfl⟩
  · rw [if_neg hx] at hi
    have hI := Lib.hid hi
    have hb := hb (by simpa using hx)
    subst hb
    clear ha hi hn
    go_enter Try.func16, Try.ntmps16
    go_wp2_with (go_at_call 20; refine (hI.out).mono ?_; rintro e w' ⟨rfl, rfl⟩)
    go_ret
    exact ⟨ret_int (by omega), rfl⟩

theorem cut_no (A : Option Addr) (n c : Nat) (k : Int) (w : World) (hc : n ≤ c) (hm : c ≤ maxLen) (hk : k < 0 ∨ (n : Int) ≤ k) :
    Calls Try.prog 15 #[.slice A n c, .int .i64 k] w fun e w' => e = .returned (.tuple #[.agg #[.slice none 0 0, .bool false], .int .i64 0, .bool false]) ∧ Below w.heap.size w w' := by
  unfold maxLen at hm
  rcases hk with hk | hk
  · go_enter Try.func15, Try.ntmps15
    go_wp2
    exact bodyPost_ret (v := .tuple #[.agg #[.slice none 0 0, .bool false], .int .i64 0, .bool false]) (by simp [results, Try.results15, go_sem]) rfl ⟨rfl, (Below.refl _ _).alloc (Nat.le_refl _) _⟩
  · have hk' : ¬ k < 0 := by omega
    go_enter Try.func15, Try.ntmps15
    go_wp2
    exact bodyPost_ret (v := .tuple #[.agg #[.slice none 0 0, .bool false], .int .i64 0, .bool false]) (by simp [results, Try.results15, go_sem]) rfl ⟨rfl, (Below.refl _ _).alloc (Nat.le_refl _) _⟩

theorem setCell_grown (w : World) (p : Addr) (u : Value) : w.grownBy (w.setCell p u) (some p.block) := by
  have hb : Below 0 w (w.setCell p u) := (Below.refl 0 w).setCell (Nat.zero_le _) u
  exact ⟨hb.os, hb.tape, hb.output, hb.size, fun k _ hne => Below.heap_setCell w p u k (fun e => hne (by rw [e]))⟩
theorem own_set {w : World} {base : Nat} {e : TypeId} {size : Nat} {v : Value} {n : Nat} {xs : List Value} (h : w.ownsRow base e size v n xs) {p : Addr} (hp : p.block < base) (u : Value) : (w.setCell p u).ownsRow base e size v n xs := by
  refine h.kept (setCell_grown w p u) ?_
  cases hv : v.ownBlock with
  | none => exact .inl rfl
  | some b => right; intro e; injection e with e; have := (h.lt b hv).1; omega
theorem Byt.first {w : World} {B : Nat} {A : Option Addr} {l1 l2 : List UInt8} (h : Byt w B A (l1 ++ l2)) : Byt w B A l1 := by
  intro k hk
  obtain ⟨ad, hA, hb, hc⟩ := h.at_ (k := k) (by rw [List.length_append]; omega)
  exact ⟨ad, hA, hb, by rw [hc, List.getElem_append_left hk]⟩
theorem lineB_len (x : Lin) : (lineB x).length = x.1.length + (if x.2 then 1 else 0) := by unfold lineB; split <;> simp
theorem lineB_last (x : Lin) (hx : ∀ c ∈ x.1, c ≠ 10) : ((lineB x).getLast? == some 10) = x.2 := by
  obtain ⟨a, b⟩ := x
  cases b with
  | true => simp [lineB]
  | false =>
    show (a.getLast? == some 10) = false
    rw [beq_eq_false_iff_ne]
    intro h
    exact hx 10 (List.mem_of_getLast? h) rfl
theorem cutLine_any (A : Option Addr) (n c b2 o2 d : Nat) (x : Lin) (B : Nat) (w : World) (hx : ∀ c ∈ x.1, c ≠ 10) (hn : n = (lineB x).length) (hnc : n ≤ c) (hbig : n ≤ 9223372036854775807) (h : Byt w B A (lineB x)) (hc2 : w.cell? ⟨b2, o2, none⟩ = some (.int .u8 10)) :
    Calls Try.prog 18 #[.slice A n c, .slice (some ⟨b2, o2, none⟩) 1 d] w fun e w' => e = .returned (.tuple #[.slice A x.1.length c, .bool x.2]) ∧ w = w' := by
  refine (cutSuffix_any A n c b2 o2 d (lineB x) 10 B w hn hnc hbig h hc2).mono fun e w' ⟨he, hw⟩ => ⟨?_, hw⟩
  have h1 := lineB_last x hx
  have e1 : (if (lineB x).getLast? = some 10 then n - 1 else n) = x.1.length := by
    have h2 := lineB_len x
    by_cases hg : (lineB x).getLast? = some 10
    · rw [if_pos hg]; rw [hg] at h1; rw [← h1] at h2; simp at h2; omega
    · rw [if_neg hg]
      have h3 : ((lineB x).getLast? == some 10) = false := by rw [beq_eq_false_iff_ne]; exact hg
      rw [h3] at h1; rw [← h1] at h2; simp at h2; omega
  rw [he, h1, e1]

set_option maxHeartbeats 1000000 in
theorem cut_yes (A : Option Addr) (n c k : Nat) (l : List UInt8) (w : World) (hn : n = l.length) (hnc : n ≤ c) (hm : c ≤ maxLen) (hbig : n ≤ 140737488355328) (h : Byt w w.heap.size A l) (hk : k < n) :
    Calls Try.prog 15 #[.slice A n c, .int .i64 (k : Int)] w fun e w' => ∃ v, e = .returned (.tuple #[.agg #[v, .bool (hasNL (l.drop k))], .int .i64 ((k + adv (l.drop k) : Nat) : Int), .bool true]) ∧
      w'.ownsRow w.heap.size 5 1 v (lnOf (l.drop k)).length (bv (lnOf (l.drop k))) ∧ Below w.heap.size w w' := by
  have hB := Lib.hid (fun w' (hb : Below w.heap.size w w') => behind_any A n c k l _ w' hn hnc hm (h.below hb) hk)
  unfold maxLen at hm
  have hle := adv_le (l.drop k)
  rw [List.length_drop] at hle
  have hcut : Byt w w.heap.size (if c = k then A else A.map (·.add k)) (lineB (lnOf (l.drop k), hasNL (l.drop k))) := by
    have := h.cut (i := k) (j := k + adv (l.drop k)) (cap := c) (by omega) (by omega)
    rwa [List.drop_take, Nat.add_sub_cancel_left, line_take] at this
  obtain ⟨ad, hA, -, -⟩ := h.at_ (k := k) (by omega)
  subst hA
  rw [if_neg (by omega)] at hcut
  have hql : (lineB (lnOf (l.drop k), hasNL (l.drop k))).length = adv (l.drop k) := by
    rw [← line_take, List.length_take, List.length_drop]; omega
  have hkq : k + adv (l.drop k) ≤ n := by omega
  have hno := lnOf_no (l.drop k)
  have hlen : (lnOf (l.drop k)).length ≤ adv (l.drop k) := by rw [← hql, lineB_len]; exact Nat.le_add_right _ _
  generalize adv (l.drop k) = q at *
  generalize lnOf (l.drop k) = x1 at *
  generalize hasNL (l.drop k) = x2 at *
  have hC := Lib.hid (fun (w' : World) (b2 o2 : Nat) (hb : Below w.heap.size w w') hc2 => cutLine_any (some (ad.add k)) q (c - k) b2 o2 1 (x1, x2) _ w' hno hql.symm (by omega) (by omega) (hcut.below hb) hc2)
  have hx1 : Byt w w.heap.size (some (ad.add k)) x1 := by
    unfold lineB at hcut; split at hcut
    · exact hcut.first
    · exact hcut
  have hL := Lib.hid (fun (w' : World) (hb : Below w.heap.size w w') => clone_any (some (ad.add k)) x1.length (c - k) x1 _ w' rfl (by omega) (hx1.below hb))
  have hH := Lib.hid h
  clear hcut hno hql h hn hx1
  have hb1 : ∀ o1, Below w.heap.size w (w.alloc o1) := fun o1 => (Below.refl _ _).alloc (Nat.le_refl _) o1
  have hb2 : ∀ o1 o2, Below w.heap.size w ((w.alloc o1).alloc o2) := fun o1 o2 => (hb1 o1).alloc (by simp) o2
  have hc2 : ∀ o1, ((w.alloc o1).alloc (.cells #[.int .u8 10] 5)).cell? ⟨w.heap.size + 1, 0, none⟩ = some (.int .u8 10) := fun o1 => by
    have := new_one (w.alloc o1) (.int .u8 10) 5 0 _ rfl
    rwa [add_zero_off, show (w.alloc o1).heap.size = w.heap.size + 1 by simp] at this
  have hkc : c ≠ k := by omega
  go_enter Try.func15, Try.ntmps15
  go_wp2_with (first
    | (go_at_call 16; refine (hB.out _ (hb1 _)).mono ?_; rintro e w1 ⟨rfl, rfl⟩)
    | (go_at_call 18; refine (hC.out _ _ _ (hb2 _ _) (hc2 _)).mono ?_; rintro e w1 ⟨rfl, rfl⟩)
    | (go_at_call 19; refine (hL.out _ (hb2 _ _)).mono ?_; rintro e w1 ⟨v, rfl, ho, hb⟩; obtain ⟨A1, c1, rfl, -, -, -, -⟩ := own_byt ho; obtain ⟨hw1, hf1⟩ := below_cells hb))
  have hs : ∀ o1 o2, w.heap.size < ((w.alloc o1).alloc o2).heap.size := fun o1 o2 => by simp; omega
  have h0 : w1.cell? ⟨w.heap.size, 0, none⟩ = some (.slice none 0 0) := by rw [hw1 _ _ (hs _ _)]; go_simp
  have h1 : w1.cell? ⟨w.heap.size, 1, none⟩ = some (.bool false) := by rw [hw1 _ _ (hs _ _)]; go_simp
  exact bodyPost_ret (v := .tuple #[.agg #[.slice A1 x1.length c1, .bool x2], .int .i64 ((k : Int) + (q : Int)), .bool true]) (by simp [results, Try.results15, go_sem, h0, h1]) rfl
    ⟨_, rfl, ownsRow_base (own_set (own_set ho (hs _ _) _) (hs _ _) _) (Nat.le_of_lt (hs _ _)), (((hb2 _ _).trans (hb.mono (Nat.le_of_lt (hs _ _)))).setCell (Nat.le_refl _) _).setCell (Nat.le_refl _) _⟩
end Go.Proofs.Ytdmbjhgfiofbhaa
