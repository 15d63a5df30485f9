/- The text of a set, and that it is read as it. Nothing here speaks of a program. -/
import Derived.Test.YtiiaheaadbhomaaBrkA
import Derived.Test.YtiiaheaadbhomaaClsA
namespace Go.Proofs.Ytiiaheaadbhomaa

/-- An end's text. -/
def endT (c : UInt8) : List UInt8 :=
  if c = 10 then [92, 110]
  else if c = 93 ∨ c = 94 ∨ c = 45 ∨ c = 91 ∨ c = 92 then [91, 46, c, 46, 93]
  else [c]
def rowT (a b : UInt8) : List UInt8 := if a = b then endT a else endT a ++ 45 :: endT b
theorem endT_piece (c : UInt8) (t : List UInt8) : piece (endT c ++ t) = .one c (endT c).length := by
  unfold endT
  split
  · rename_i h
    subst h; rfl
  · rename_i h1
    split
    · rename_i h2
      rcases h2 with rfl | rfl | rfl | rfl | rfl <;> rfl
    · rename_i h2
      have h91 : ¬ c = 91 := fun e => h2 (by simp [e])
      have h92 : ¬ c = 92 := fun e => h2 (by simp [e])
      have a1 : ((91 : UInt8) == c) = false := by simpa using fun e => h91 e.symm
      have a2 : ((92 : UInt8) == c) = false := by simpa using fun e => h92 e.symm
      simp only [piece, endP, List.singleton_append, bg_cons, a1, a2, Bool.false_and, Bool.false_eq_true, if_false, List.length_singleton]
/-- No end begins with a - , a ] or a ^ . -/
theorem endT_head (c : UInt8) (t : List UInt8) : bg [45] (endT c ++ t) = false ∧ bg [93] (endT c ++ t) = false ∧ bg [94] (endT c ++ t) = false := by
  unfold endT
  split
  · exact ⟨rfl, rfl, rfl⟩
  · split
    · exact ⟨rfl, rfl, rfl⟩
    · rename_i h
      refine ⟨?_, ?_, ?_⟩ <;> simp only [List.singleton_append, bg_cons, bg_nil, Bool.and_true, beq_eq_false_iff_ne] <;> intro e <;> exact h (by simp [← e])
theorem endT_len (c : UInt8) : 1 ≤ (endT c).length ∧ (endT c).length ≤ 5 := by
  unfold endT
  split
  · simp
  · split <;> simp
theorem rowT_head (a b : UInt8) (t : List UInt8) : bg [45] (rowT a b ++ t) = false ∧ bg [93] (rowT a b ++ t) = false ∧ bg [94] (rowT a b ++ t) = false := by
  unfold rowT
  split
  · exact endT_head a t
  · rw [List.append_assoc]; exact endT_head a _
theorem bg45 {t : List UInt8} (h : bg [45] t = false) : joins t = false := by simp [joins, h]
/-- A row's text is an item. -/
theorem rowT_item {a b : UInt8} (hab : a.toNat ≤ b.toNat) {t : List UInt8} (ht : bg [45] t = false) : ∃ f, item (rowT a b ++ t) = .ok (f, (rowT a b).length) ∧ ∀ x, f x = (decide (a.toNat ≤ x) && decide (x ≤ b.toNat)) := by
  unfold rowT
  by_cases h : a = b
  · subst h
    rw [if_pos rfl]
    refine ⟨oneF a, ?_, ?_⟩
    · unfold item
      rw [endT_piece]
      simp only
      rw [List.drop_left, bg45 ht]
      rfl
    · intro x
      unfold oneF oneF.ofB
      rw [Bool.eq_iff_iff]
      simp only [Bool.and_eq_true, decide_eq_true_eq]
      omega
  · rw [if_neg h]
    refine ⟨rngF a b, ?_, fun x => rfl⟩
    unfold item
    rw [List.append_assoc, endT_piece]
    simp only
    rw [List.drop_left, List.cons_append]
    have hj : joins (45 :: (endT b ++ t)) = true := by
      have := (endT_head b t).2.1
      simp only [joins, bg_cons, bg_nil, this]
      rfl
    rw [hj, if_pos rfl]
    have hd : (endT a ++ 45 :: (endT b ++ t)).drop ((endT a).length + 1) = endT b ++ t := by
      rw [← List.drop_drop, List.drop_left]; rfl
    rw [hd, endT_piece]
    simp only
    rw [if_neg (by rw [UInt8.lt_iff_toNat_lt]; omega)]
    simp only [List.length_append, List.length_cons, Except.ok.injEq, Prod.mk.injEq, true_and]
    omega

/-- Where a row of neighbouring bytes that begins with c ends. -/
def runE (f : Nat → Bool) (c : Nat) : Nat := if c < 255 ∧ f (c + 1) = true then runE f (c + 1) else c
termination_by 256 - c
theorem runE_on {f : Nat → Bool} {c : Nat} (h : c < 255) (hf : f (c + 1) = true) : runE f c = runE f (c + 1) := by rw [runE, if_pos ⟨h, hf⟩]
theorem runE_off {f : Nat → Bool} {c : Nat} (h : ¬ (c < 255 ∧ f (c + 1) = true)) : runE f c = c := by rw [runE, if_neg h]
theorem runE_spec (f : Nat → Bool) (k : Nat) : ∀ c, c + k = 255 → f c = true → c ≤ runE f c ∧ runE f c ≤ 255 ∧ (∀ x, c ≤ x → x ≤ runE f c → f x = true) ∧ (runE f c < 255 → f (runE f c + 1) = false) := by
  induction k with
  | zero =>
    intro c hc hf
    rw [runE_off (by omega)]
    exact ⟨by omega, by omega, fun x h1 h2 => by rw [show x = c by omega]; exact hf, fun h => by omega⟩
  | succ k ih =>
    intro c hc hf
    by_cases h : f (c + 1) = true
    · rw [runE_on (by omega) h]
      obtain ⟨h1, h2, h3, h4⟩ := ih (c + 1) (by omega) h
      refine ⟨by omega, h2, fun x hx hx2 => ?_, h4⟩
      by_cases he : x = c
      · rw [he]; exact hf
      · exact h3 x (by omega) hx2
    · rw [runE_off (fun e => h e.2)]
      exact ⟨by omega, by omega, fun x h1 h2 => by rw [show x = c by omega]; exact hf, fun _ => by simpa using h⟩
/-- The texts of the rows from c on. -/
def rowsL (f : Nat → Bool) (c : Nat) : List (List UInt8) :=
  if c < 256 then
    if f c then rowT (UInt8.ofNat c) (UInt8.ofNat (runE f c)) :: rowsL f (max c (runE f c) + 1)
    else rowsL f (c + 1)
  else []
termination_by 256 - c
theorem rowsL_end {f : Nat → Bool} {c : Nat} (h : 256 ≤ c) : rowsL f c = [] := by rw [rowsL, if_neg (by omega)]
theorem rowsL_out {f : Nat → Bool} {c : Nat} (h : c < 256) (hf : f c = false) : rowsL f c = rowsL f (c + 1) := by rw [rowsL, if_pos h, if_neg (by simp [hf])]
theorem rowsL_in {f : Nat → Bool} {c : Nat} (h : c < 256) (hf : f c = true) : rowsL f c = rowT (UInt8.ofNat c) (UInt8.ofNat (runE f c)) :: rowsL f (runE f c + 1) := by
  have := (runE_spec f (255 - c) c (by omega) hf).1
  rw [rowsL, if_pos h, if_pos hf, Nat.max_eq_right this]
/-- No row's text begins with a - , and what stands behind them neither. -/
theorem rowsL_45 (f : Nat → Bool) (t : List UInt8) (k : Nat) : ∀ c, 256 - c = k → bg [45] ((rowsL f c).flatten ++ 93 :: t) = false := by
  induction k using Nat.strongRecOn with
  | ind k ih =>
    intro c hc
    by_cases h : c < 256
    · cases hf : f c with
      | false => rw [rowsL_out h hf]; exact ih (256 - (c + 1)) (by omega) _ rfl
      | true => rw [rowsL_in h hf, List.flatten_cons, List.append_assoc]; exact (rowT_head _ _ _).1
    · rw [rowsL_end (by omega)]; rfl
theorem ofNat_toNat {c : Nat} (h : c < 256) : (UInt8.ofNat c).toNat = c := by simp; omega
/-- The rows are read as they are. -/
theorem rowsL_read (f : Nat → Bool) (t : List UInt8) (k : Nat) : ∀ c, 256 - c = k → ∀ (first : Bool) (i : Nat) (acc : Nat → Bool), (first = true → rowsL f c ≠ []) →
    ∃ g, items first ((rowsL f c).flatten ++ 93 :: t) i acc = .ok (g, i + (rowsL f c).flatten.length + 1) ∧ ∀ x, x < 256 → g x = (acc x || (decide (c ≤ x) && f x)) := by
  induction k using Nat.strongRecOn with
  | ind k ih =>
    intro c hc first i acc hne
    by_cases h : c < 256
    · cases hf : f c with
      | false =>
        rw [rowsL_out h hf] at hne ⊢
        obtain ⟨g, h1, h2⟩ := ih (256 - (c + 1)) (by omega) _ rfl first i acc hne
        refine ⟨g, h1, fun x hx => ?_⟩
        rw [h2 x hx]
        by_cases he : x = c
        · subst he; simp [hf]
        · have : (c + 1 ≤ x) = (c ≤ x) := by apply propext; omega
          simp only [this]
      | true =>
        obtain ⟨e1, e2, e3, e4⟩ := runE_spec f (255 - c) c (by omega) hf
        rw [rowsL_in h hf, List.flatten_cons, List.append_assoc]
        have hh := (rowT_head (UInt8.ofNat c) (UInt8.ofNat (runE f c)) ((rowsL f (runE f c + 1)).flatten ++ 93 :: t)).2.1
        obtain ⟨g1, g2, g3⟩ := rowT_item (a := UInt8.ofNat c) (b := UInt8.ofNat (runE f c)) (by rw [ofNat_toNat h, ofNat_toNat (by omega)]; exact e1) (rowsL_45 f t _ (runE f c + 1) rfl)
        rw [items_ok i acc (by simp [hh]) g2, List.drop_left]
        obtain ⟨g, h1, h2⟩ := ih (256 - (runE f c + 1)) (by omega) _ rfl false (i + (rowT (UInt8.ofNat c) (UInt8.ofNat (runE f c))).length) (orF acc g1) (by simp)
        refine ⟨g, by rw [h1, List.length_append]; simp only [Except.ok.injEq, Prod.mk.injEq, true_and]; omega, fun x hx => ?_⟩
        rw [h2 x hx]
        unfold orF
        rw [g3, ofNat_toNat h, ofNat_toNat (by omega), Bool.or_assoc]
        congr 1
        by_cases hx1 : c ≤ x
        · by_cases hx2 : x ≤ runE f c
          · have := e3 x hx1 hx2
            simp [hx1, hx2, this]
          · have h5 : runE f c + 1 ≤ x := by omega
            simp [hx1, hx2, h5]
        · have h5 : ¬ runE f c + 1 ≤ x := by omega
          simp [hx1, h5]
    · rw [rowsL_end (by omega)] at hne ⊢
      have hfst : first = false := by
        cases first with
        | false => rfl
        | true => exact absurd rfl (hne rfl)
      subst hfst
      refine ⟨acc, by rw [items_end i acc (by rfl)]; rfl, fun x hx => ?_⟩
      have : ¬ c ≤ x := by omega
      simp [this]
theorem rowsL_some (f : Nat → Bool) (k : Nat) : ∀ c x, 256 - c = k → c ≤ x → x < 256 → f x = true → rowsL f c ≠ [] := by
  induction k using Nat.strongRecOn with
  | ind k ih =>
    intro c x hc h1 h2 hx
    cases hf : f c with
    | false =>
      rw [rowsL_out (by omega) hf]
      have : c ≠ x := fun e => by rw [e, hx] at hf; cases hf
      exact ih (256 - (c + 1)) (by omega) _ x rfl (by omega) h2 hx
    | true => rw [rowsL_in (by omega) hf]; simp
theorem rowsL_94 (f : Nat → Bool) (t : List UInt8) (k : Nat) : ∀ c, 256 - c = k → bg [94] ((rowsL f c).flatten ++ 93 :: t) = false := by
  induction k using Nat.strongRecOn with
  | ind k ih =>
    intro c hc
    by_cases h : c < 256
    · cases hf : f c with
      | false => rw [rowsL_out h hf]; exact ih (256 - (c + 1)) (by omega) _ rfl
      | true => rw [rowsL_in h hf, List.flatten_cons, List.append_assoc]; exact (rowT_head _ _ _).2.2
    · rw [rowsL_end (by omega)]; rfl
/-- The text of a set; empty: has it no byte? -/
def textR (empty : Bool) (f : Nat → Bool) : List UInt8 :=
  if empty then 91 :: 94 :: ((rowsL (negF f) 0).flatten ++ [93]) else 91 :: ((rowsL f 0).flatten ++ [93])
theorem textR_read (empty : Bool) (f : Nat → Bool) (he : empty = true ↔ ∀ c, c < 256 → f c = false) (t : List UInt8) :
    ∃ g, readB (textR empty f ++ t) 1 = .ok (g, (textR empty f).length) ∧ alike g f := by
  cases empty with
  | true =>
    have h0 := he.1 rfl
    obtain ⟨g, h1, h2⟩ := rowsL_read (negF f) t 256 0 rfl true 2 noneF (fun _ => rowsL_some _ 256 0 0 rfl (Nat.le_refl _) (by decide) (by simp [negF, h0 0 (by decide)]))
    refine ⟨negF g, ?_, fun c hc => ?_⟩
    · rw [readB_not (by rfl)]
      have e : (textR true f ++ t).drop 2 = (rowsL (negF f) 0).flatten ++ 93 :: t := by simp [textR]
      rw [e, h1]
      simp [textR]; omega
    · have := h2 c hc
      simp only [negF, this, noneF, h0 c hc]
      rfl
  | false =>
    have h0 : rowsL f 0 ≠ [] := by
      intro e
      have : ∀ c, c < 256 → f c = false := fun c hc => by
        cases hf : f c with
        | false => rfl
        | true => exact absurd e (rowsL_some f 256 0 c rfl (Nat.zero_le _) hc hf)
      have := he.2 this
      cases this
    obtain ⟨g, h1, h2⟩ := rowsL_read f t 256 0 rfl true 1 noneF (fun _ => h0)
    refine ⟨g, ?_, fun c hc => ?_⟩
    · have e : (textR false f ++ t).drop 1 = (rowsL f 0).flatten ++ 93 :: t := by simp [textR]
      rw [readB_plain (by rw [e]; exact rowsL_94 f t 256 0 rfl), e, h1]
      simp [textR]; omega
    · have := h2 c hc
      simp [this, noneF]
end Go.Proofs.Ytiiaheaadbhomaa
