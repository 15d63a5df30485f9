/- How a replacement is parsed, plainly. -/
import Derived.Test.YtkfdehkembcaoaaSwpA
set_option linter.unusedVariables false
set_option maxRecDepth 100000
namespace Go.Proofs.Ytkfdehkembcaoaa
open Go.RowKit

/-- What a \ and a byte write. -/
def escP (d : UInt8) (g : Int) : Option Prt :=
  if 48 ≤ d.toNat ∧ d.toNat ≤ 57 ∧ g < (d.toNat : Int) - 48 then none
  else if 49 ≤ d.toNat ∧ d.toNat ≤ 57 then some ⟨1, (d.toNat : Int) - 48, []⟩
  else if d.toNat = 110 then some ⟨0, 0, [10]⟩
  else some ⟨0, 0, [d]⟩
/-- The first part of bytes, and how many it takes; or what is wrong. -/
inductive Fst13
  | ok (p : Prt) (n : Nat)
  | bad (e : Int)
def fstP (g : Int) : List UInt8 → Fst13
  | [] => .bad 0
  | c :: r => if c.toNat = 38 then .ok ⟨1, 0, []⟩ 1 else if c.toNat ≠ 92 then .ok ⟨0, 0, [c]⟩ 1 else
    match r with
    | [] => .bad 10
    | d :: _ => match escP d g with
      | none => .bad 16
      | some p => .ok p 2
theorem escP_text {d : UInt8} {g : Int} {p : Prt} (h : escP d g = some p) : (p.kind = 0 ∧ p.grp = 0 ∧ p.b.length = 1) ∨ (p.kind = 1 ∧ p.b = []) := by
  unfold escP at h
  split at h
  · cases h
  split at h
  · cases h; exact .inr ⟨rfl, rfl⟩
  split at h
  · cases h; exact .inl ⟨rfl, rfl, rfl⟩
  · cases h; exact .inl ⟨rfl, rfl, rfl⟩
theorem fstP_pos {g : Int} {b : List UInt8} {p : Prt} {n : Nat} (h : fstP g b = .ok p n) : 1 ≤ n ∧ n ≤ b.length ∧ p.b.length ≤ 1 := by
  unfold fstP at h
  split at h
  · cases h
  split at h
  · cases h; exact ⟨Nat.le_refl _, by simp, Nat.zero_le _⟩
  split at h
  · cases h; exact ⟨Nat.le_refl _, by simp, Nat.le_refl _⟩
  split at h
  · cases h
  split at h
  · cases h
  · rename_i hp
    cases h
    refine ⟨by decide, by simp, ?_⟩
    rcases escP_text hp with ⟨_, _, h⟩ | ⟨_, h⟩
    · exact Nat.le_of_eq h
    · rw [h]; exact Nat.zero_le _
/-- A part put behind parts: a text behind a text is one with it. -/
def joinP (l : List Prt) (p : Prt) : List Prt :=
  match l.getLast? with
  | none => l ++ [p]
  | some q => if p.kind = 0 ∧ q.kind = 0 then l.dropLast ++ [⟨q.kind, q.grp, q.b ++ p.b⟩] else l ++ [p]
theorem joinP_nil (p : Prt) : joinP [] p = [p] := rfl
theorem joinP_one {i : List Prt} {q p : Prt} (hp : p.kind = 0) (hq : q.kind = 0) : joinP (i ++ [q]) p = i ++ [⟨q.kind, q.grp, q.b ++ p.b⟩] := by
  unfold joinP
  rw [List.getLast?_concat]
  show (if p.kind = 0 ∧ q.kind = 0 then (i ++ [q]).dropLast ++ [⟨q.kind, q.grp, q.b ++ p.b⟩] else i ++ [q] ++ [p]) = _
  rw [if_pos ⟨hp, hq⟩, List.dropLast_concat]
theorem joinP_two {i : List Prt} {q p : Prt} (h : ¬ (p.kind = 0 ∧ q.kind = 0)) : joinP (i ++ [q]) p = i ++ [q] ++ [p] := by
  unfold joinP
  rw [List.getLast?_concat]
  show (if p.kind = 0 ∧ q.kind = 0 then (i ++ [q]).dropLast ++ [⟨q.kind, q.grp, q.b ++ p.b⟩] else i ++ [q] ++ [p]) = _
  rw [if_neg h]
theorem joinP_len (l : List Prt) (p : Prt) : (joinP l p).length ≤ l.length + 1 := by
  unfold joinP
  split
  · simp
  split
  · rw [List.length_append, List.length_dropLast]; simp
  · simp
/-- The bytes in parts. -/
def prtB (l : List Prt) : Nat := (l.map fun p => p.b.length).sum
theorem prtB_app (a b : List Prt) : prtB (a ++ b) = prtB a + prtB b := by simp [prtB]
theorem joinP_bytes (l : List Prt) (p : Prt) : prtB (joinP l p) = prtB l + p.b.length := by
  rcases List.eq_nil_or_concat l with rfl | ⟨i, q, rfl⟩
  · simp [joinP, prtB]
  · rw [List.concat_eq_append]
    by_cases h : p.kind = 0 ∧ q.kind = 0
    · rw [joinP_one h.1 h.2, prtB_app, prtB_app]
      simp [prtB]; omega
    · rw [joinP_two h, prtB_app]
      simp [prtB]
theorem prtB_mem {l : List Prt} {p : Prt} (h : p ∈ l) : p.b.length ≤ prtB l := by
  induction l with
  | nil => cases h
  | cons a r ih =>
    have e : prtB (a :: r) = a.b.length + prtB r := by simp [prtB]
    rcases List.mem_cons.1 h with rfl | h
    · omega
    · have := ih h; omega
/-- What is parsed: all parts, or a place and what is wrong there. -/
inductive Prs13
  | fine (l : List Prt)
  | wrong (i : Nat) (e : Int)
def prsL (g : Int) : Nat → List UInt8 → Nat → List Prt → Prs13
  | 0, _, _, l => .fine l
  | f + 1, r, i, l => if r = [] then .fine l else match fstP g r with
    | .ok p n => prsL g f (r.drop n) (i + n) (joinP l p)
    | .bad e => .wrong i e
def prsP (g : Int) (b : List UInt8) : Prs13 := prsL g (b.length + 1) b 0 []
/-- Where a parse stands: at i with the parts l. -/
def PrsAt (g : Int) (b : List UInt8) (i : Nat) (l : List Prt) : Prop := i ≤ b.length ∧ l.length ≤ i ∧ prtB l ≤ i ∧ ∃ f, b.length - i < f ∧ prsL g f (b.drop i) i l = prsP g b
theorem PrsAt.start (g : Int) (b : List UInt8) : PrsAt g b 0 [] := ⟨Nat.zero_le _, Nat.zero_le _, Nat.le_refl _, b.length + 1, by omega, rfl⟩
theorem PrsAt.next {g : Int} {b : List UInt8} {i n : Nat} {l : List Prt} {p : Prt} (h : PrsAt g b i l) (hi : i < b.length) (hf : fstP g (b.drop i) = .ok p n) : PrsAt g b (i + n) (joinP l p) := by
  obtain ⟨h1, h2, h3, f, h4, h5⟩ := h
  obtain ⟨hn1, hn2, hn3⟩ := fstP_pos hf
  rw [List.length_drop] at hn2
  have hl := joinP_len l p
  have hb := joinP_bytes l p
  refine ⟨by omega, by omega, by omega, ?_⟩
  cases f with
  | zero => omega
  | succ f =>
    refine ⟨f, by omega, ?_⟩
    rw [← h5]
    show _ = (if b.drop i = [] then _ else _)
    rw [if_neg (by intro e; have := congrArg List.length e; rw [List.length_drop] at this; simp at this; omega), hf, ← List.drop_drop]
theorem PrsAt.done {g : Int} {b : List UInt8} {i : Nat} {l : List Prt} (h : PrsAt g b i l) (hi : i = b.length) : prsP g b = .fine l := by
  obtain ⟨h1, h2, h3, f, h4, h5⟩ := h
  rw [← h5]
  cases f with
  | zero => rfl
  | succ f =>
    show (if b.drop i = [] then _ else _) = _
    rw [if_pos (by rw [hi, List.drop_length])]
theorem PrsAt.bad {g : Int} {b : List UInt8} {i : Nat} {l : List Prt} {e : Int} (h : PrsAt g b i l) (hi : i < b.length) (hf : fstP g (b.drop i) = .bad e) : prsP g b = .wrong i e := by
  obtain ⟨h1, h2, h3, f, h4, h5⟩ := h
  rw [← h5]
  cases f with
  | zero => omega
  | succ f =>
    show (if b.drop i = [] then _ else _) = _
    rw [if_neg (by intro e; have := congrArg List.length e; rw [List.length_drop] at this; simp at this; omega), hf]
theorem prs_example : prsP 1 [91, 38, 92, 49, 93] = .fine [⟨0, 0, [91]⟩, ⟨1, 0, []⟩, ⟨1, 1, []⟩, ⟨0, 0, [93]⟩] := by rfl
end Go.Proofs.Ytkfdehkembcaoaa
