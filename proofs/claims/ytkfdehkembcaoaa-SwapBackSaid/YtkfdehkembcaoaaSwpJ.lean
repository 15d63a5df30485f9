/- What is written of right parts is parsed to them, and has no newline but behind a \ : plainly. -/
import Derived.Test.YtkfdehkembcaoaaSwpI
import Derived.Test.YtkfdehkembcaoaaSwpP
set_option linter.unusedVariables false
set_option maxRecDepth 100000
namespace Go.Proofs.Ytkfdehkembcaoaa
open Go.RowKit

/-- The k-th part is as a replacement has it. -/
def goodAt (l : List Prt) (k : Nat) (h : k < l.length) : Prop :=
  ((l[k]'h).kind = 0 ∧ (l[k]'h).b ≠ [] ∧ (l[k]'h).grp = 0 ∧ (0 < k → (l[k - 1]'(by omega)).kind ≠ 0)) ∨ ((l[k]'h).kind = 1 ∧ 0 ≤ (l[k]'h).grp ∧ (l[k]'h).grp ≤ 9 ∧ (l[k]'h).b = [])
def RightL (l : List Prt) : Prop := ∀ k (h : k < l.length), goodAt l k h
theorem joinP_other {l : List Prt} {p : Prt} (h : p.kind ≠ 0) : joinP l p = l ++ [p] := by
  rcases List.eq_nil_or_concat l with rfl | ⟨i, q, rfl⟩
  · rfl
  · rw [List.concat_eq_append]; exact joinP_two fun e => h e.1
theorem byte_ext {c : UInt8} {n : Nat} (hn : n < 256) (h : c.toNat = n) : c = UInt8.ofNat n := UInt8.toNat_inj.1 (by rw [h, UInt8.toNat_ofNat', Nat.mod_eq_of_lt hn])
theorem fst_byte (c : UInt8) (r : List UInt8) : fstP 9 (wrC c ++ r) = .ok ⟨0, 0, [c]⟩ (wrC c).length := by
  unfold wrC
  by_cases h10 : c.toNat = 10
  · rw [if_pos h10, byte_ext (by decide) h10]; rfl
  by_cases h2 : c.toNat = 92 ∨ c.toNat = 38
  · rw [if_neg h10, if_pos h2]
    rcases h2 with h | h
    · rw [byte_ext (by decide) h]; rfl
    · rw [byte_ext (by decide) h]; rfl
  · rw [if_neg h10, if_neg h2]
    have h92 : c.toNat ≠ 92 := fun e => h2 (.inl e)
    have h38 : c.toNat ≠ 38 := fun e => h2 (.inr e)
    show (if c.toNat = 38 then _ else if c.toNat ≠ 92 then _ else _) = _
    rw [if_neg h38, if_pos h92]
    rfl
theorem fst_group (g : Nat) (h : g ≤ 9) (r : List UInt8) : fstP 9 (wrP ⟨1, (g : Int), []⟩ ++ r) = .ok ⟨1, (g : Int), []⟩ (wrP ⟨1, (g : Int), []⟩).length := by
  have : g = 0 ∨ g = 1 ∨ g = 2 ∨ g = 3 ∨ g = 4 ∨ g = 5 ∨ g = 6 ∨ g = 7 ∨ g = 8 ∨ g = 9 := by omega
  rcases this with rfl | rfl | rfl | rfl | rfl | rfl | rfl | rfl | rfl | rfl <;> rfl
theorem take_succ_ {α : Type} (l : List α) {k : Nat} (h : k < l.length) : l.take (k + 1) = l.take k ++ [l[k]'h] := by rw [List.take_add_one, List.getElem?_eq_getElem h]; rfl
theorem PrsAt.byte {T pre r : List UInt8} {l : List Prt} {c : UInt8} (hT : T = pre ++ (wrC c ++ r)) (h : PrsAt 9 T pre.length l) : PrsAt 9 T (pre ++ wrC c).length (joinP l ⟨0, 0, [c]⟩) := by
  have hd : T.drop pre.length = wrC c ++ r := by rw [hT, List.drop_left]
  have hc : 1 ≤ (wrC c).length := by
    unfold wrC
    split
    · decide
    split <;> simp
  have := h.next (by rw [hT, List.length_append, List.length_append]; omega) (by rw [hd]; exact fst_byte c r)
  rw [List.length_append]
  exact this
theorem PrsAt.text {T pre r : List UInt8} {l : List Prt} {b : List UInt8} (hT : T = pre ++ (wrT b ++ r)) (h : PrsAt 9 T pre.length l) (hl : l = [] ∨ ∃ i q, l = i ++ [q] ∧ q.kind ≠ 0) : ∀ j, 1 ≤ j → j ≤ b.length → PrsAt 9 T (pre ++ wrT (b.take j)).length (l ++ [⟨0, 0, b.take j⟩]) := by
  intro j
  induction j with
  | zero => intro h0; omega
  | succ j ih =>
    intro _ hj
    have hjb : j < b.length := hj
    have hs := take_succ_ b hjb
    have hw := wrT_take b hjb
    have hrest : wrT b = wrT (b.take j) ++ (wrC (b[j]'hjb) ++ wrT (b.drop (j + 1))) := by
      have e : b = b.take (j + 1) ++ b.drop (j + 1) := (List.take_append_drop _ _).symm
      have : wrT b = wrT (b.take (j + 1)) ++ wrT (b.drop (j + 1)) := by
        have e2 : ∀ x y : List UInt8, wrT (x ++ y) = wrT x ++ wrT y := fun x y => by simp [wrT]
        rw [← e2, ← e]
      rw [this, hw, List.append_assoc]
    have hT2 : T = (pre ++ wrT (b.take j)) ++ (wrC (b[j]'hjb) ++ (wrT (b.drop (j + 1)) ++ r)) := by rw [hT, hrest]; simp [List.append_assoc]
    cases j with
    | zero =>
      have h0 : wrT (b.take 0) = [] := rfl
      rw [h0, List.append_nil] at hT2
      have := h.byte hT2
      rw [hw, h0, List.nil_append, hs]
      show PrsAt 9 T _ (l ++ [⟨0, 0, [] ++ [b[0]'hjb]⟩])
      rw [List.nil_append]
      rcases hl with rfl | ⟨i, q, rfl, hq⟩
      · exact this
      · rw [joinP_two (fun e => hq e.2)] at this
        exact this
    | succ j =>
      have h1 := ih (by omega) (by omega)
      have := h1.byte hT2
      rw [joinP_one rfl rfl] at this
      rw [hw, ← List.append_assoc, hs]
      exact this
theorem parse_at {l : List Prt} (h : RightL l) : ∀ k, k ≤ l.length → PrsAt 9 (wrL l) (wrL (l.take k)).length (l.take k) := by
  intro k
  induction k with
  | zero => intro _; exact PrsAt.start 9 _
  | succ k ih =>
    intro hk
    have hkl : k < l.length := hk
    have h1 := ih (by omega)
    have hw := wrL_take l hkl
    have hrest : wrL l = wrL (l.take k) ++ (wrP (l[k]'hkl) ++ wrL (l.drop (k + 1))) := by
      have e : l = l.take (k + 1) ++ l.drop (k + 1) := (List.take_append_drop _ _).symm
      have e2 : ∀ x y : List Prt, wrL (x ++ y) = wrL x ++ wrL y := fun x y => by simp [wrL]
      have : wrL l = wrL (l.take (k + 1)) ++ wrL (l.drop (k + 1)) := by rw [← e2, ← e]
      rw [this, hw, List.append_assoc]
    rw [hw, take_succ_ l hkl]
    rcases h k hkl with ⟨g1, g2, g3, g4⟩ | ⟨g1, g2, g3, g4⟩
    · have hp : wrP (l[k]'hkl) = wrT (l[k]'hkl).b := by
        generalize l[k]'hkl = p at *
        obtain ⟨a, b, c⟩ := p
        exact wrP_text g1
      rw [hp] at hrest ⊢
      have hlast : l.take k = [] ∨ ∃ i q, l.take k = i ++ [q] ∧ q.kind ≠ 0 := by
        cases k with
        | zero => exact .inl rfl
        | succ k => exact .inr ⟨l.take k, l[k]'(by omega), take_succ_ l (by omega), g4 (Nat.succ_pos _)⟩
      have hlen : 1 ≤ (l[k]'hkl).b.length := by
        rcases Nat.eq_zero_or_pos (l[k]'hkl).b.length with e | e
        · exact absurd (List.length_eq_zero_iff.1 e) g2
        · exact e
      have := PrsAt.text hrest h1 hlast _ hlen (Nat.le_refl _)
      rw [List.take_length] at this
      rw [show (⟨0, 0, (l[k]'hkl).b⟩ : Prt) = l[k]'hkl by generalize l[k]'hkl = p at *; obtain ⟨a, b, c⟩ := p; simp only at g1 g3; rw [g1, g3]] at this
      exact this
    · obtain ⟨m, hm⟩ := Int.eq_ofNat_of_zero_le g2
      have hp : l[k]'hkl = ⟨1, (m : Int), []⟩ := by
        generalize l[k]'hkl = p at *
        obtain ⟨a, b, c⟩ := p
        simp only at g1 hm g4
        rw [g1, hm, g4]
      rw [hp] at hrest ⊢
      have hm9 : m ≤ 9 := by omega
      have hd : (wrL l).drop (wrL (l.take k)).length = wrP ⟨1, (m : Int), []⟩ ++ wrL (l.drop (k + 1)) := by rw [hrest, List.drop_left]
      have hpos := fstP_pos (fst_group m hm9 (wrL (l.drop (k + 1))))
      have := h1.next (by rw [hrest, List.length_append, List.length_append]; omega) (by rw [hd]; exact fst_group m hm9 _)
      rw [joinP_other (by show (1 : Int) ≠ 0; decide)] at this
      rw [List.length_append]
      exact this
theorem parse_back {l : List Prt} (h : RightL l) : prsP 9 (wrL l) = .fine l := by
  have := parse_at h l.length (Nat.le_refl _)
  rw [List.take_length] at this
  exact this.done rfl
/-- No newline but behind a \ . -/
inductive Tok : List UInt8 → Prop
  | nil : Tok []
  | one {c : UInt8} {r : List UInt8} (h92 : c.toNat ≠ 92) (h10 : c.toNat ≠ 10) (hr : Tok r) : Tok (c :: r)
  | two {c d : UInt8} {r : List UInt8} (h : c.toNat = 92) (hr : Tok r) : Tok (c :: d :: r)
theorem Tok.app {a b : List UInt8} (ha : Tok a) (hb : Tok b) : Tok (a ++ b) := by
  induction ha with
  | nil => exact hb
  | one h1 h2 _ ih => exact .one h1 h2 ih
  | two h _ ih => exact .two h ih
theorem tok_C (c : UInt8) : Tok (wrC c) := by
  unfold wrC
  split
  · exact .two rfl .nil
  split
  · exact .two rfl .nil
  · rename_i h1 h2
    exact .one (fun e => h2 (.inl e)) h1 .nil
theorem tok_T (b : List UInt8) : Tok (wrT b) := by
  induction b with
  | nil => exact .nil
  | cons c r ih => unfold wrT at ih ⊢; rw [List.flatMap_cons]; exact (tok_C c).app ih
theorem tok_P (p : Prt) : Tok (wrP p) := by
  unfold wrP
  split
  · exact tok_T _
  split
  · split
    · exact .one (by decide) (by decide) .nil
    · exact .two rfl .nil
  · exact .nil
theorem tok_L (l : List Prt) : Tok (wrL l) := by
  induction l with
  | nil => exact .nil
  | cons p r ih => unfold wrL at ih ⊢; rw [List.flatMap_cons]; exact (tok_P p).app ih
end Go.Proofs.Ytkfdehkembcaoaa
