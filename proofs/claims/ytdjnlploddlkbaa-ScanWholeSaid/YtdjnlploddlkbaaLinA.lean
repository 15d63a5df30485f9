/- Lines as lists: the pieces of a text by its newlines. Nothing here speaks of a program. -/
import Derived.Test.YtdjnlploddlkbaaWords
import Derived.Lib.Bytealg
set_option maxRecDepth 100000
namespace Go.Proofs.Ytdjnlploddlkbaa

abbrev Lin := List UInt8 × Bool
/-- The first line's bytes. -/
def lnOf (d : List UInt8) : List UInt8 := d.takeWhile (fun c => !(c == 10))
def hasNL (d : List UInt8) : Bool := d.contains 10
/-- How far the first line and its newline reach. -/
def adv (d : List UInt8) : Nat := if hasNL d then (lnOf d).length + 1 else d.length
def splitS : List UInt8 → List Lin
  | [] => []
  | c :: r => if c = 10 then ([], true) :: splitS r else match splitS r with | [] => [([c], false)] | (x, b) :: t => (c :: x, b) :: t
def lineB (x : Lin) : List UInt8 := if x.2 then x.1 ++ [10] else x.1
def joinS (l : List Lin) : List UInt8 := l.flatMap lineB

theorem lnOf_cons (c : UInt8) (r : List UInt8) : lnOf (c :: r) = if c = 10 then [] else c :: lnOf r := by
  unfold lnOf; by_cases h : c = 10 <;> simp [h]
theorem hasNL_cons (c : UInt8) (r : List UInt8) : hasNL (c :: r) = (decide (c = 10) || hasNL r) := by
  unfold hasNL; by_cases h : c = 10
  · simp [h]
  · have h' : ¬ (10 : UInt8) = c := fun e => h e.symm
    simp [h, h']
theorem adv_cons (c : UInt8) (r : List UInt8) : adv (c :: r) = if c = 10 then 1 else adv r + 1 := by
  unfold adv; rw [hasNL_cons, lnOf_cons]
  by_cases h : c = 10
  · simp [h]
  · simp [h]; split <;> simp
theorem splitS_cons : ∀ (d : List UInt8), d ≠ [] → splitS d = (lnOf d, hasNL d) :: splitS (d.drop (adv d)) := by
  intro d
  induction d with
  | nil => intro h; exact absurd rfl h
  | cons c r ih =>
    intro _
    rw [lnOf_cons, hasNL_cons, adv_cons]
    by_cases h : c = 10
    · simp [splitS, h]
    · cases r with
      | nil => simp [splitS, h, lnOf, hasNL, adv]
      | cons c2 r2 => rw [splitS, if_neg h, ih (by simp)]; simp [h]
theorem adv_pos {d : List UInt8} (h : d ≠ []) : 0 < adv d := by
  cases d with
  | nil => exact absurd rfl h
  | cons c r => rw [adv_cons]; split <;> omega
theorem adv_le : ∀ (d : List UInt8), adv d ≤ d.length := by
  intro d
  induction d with
  | nil => simp [adv, hasNL]
  | cons c r ih => rw [adv_cons]; split <;> simp <;> omega
theorem line_take : ∀ (d : List UInt8), d.take (adv d) = lineB (lnOf d, hasNL d) := by
  intro d
  induction d with
  | nil => simp [lineB, hasNL, lnOf]
  | cons c r ih =>
    rw [adv_cons, lnOf_cons, hasNL_cons]
    by_cases h : c = 10
    · simp [h, lineB]
    · rw [if_neg h, List.take_succ_cons, ih]; simp [h, lineB]; split <;> rfl
theorem joinS_cons (x : Lin) (l : List Lin) : joinS (x :: l) = lineB x ++ joinS l := by simp [joinS]
theorem joinS_append (a b : List Lin) : joinS (a ++ b) = joinS a ++ joinS b := by simp [joinS]
theorem joinS_splitS : ∀ (n : Nat) (d : List UInt8), d.length ≤ n → joinS (splitS d) = d := by
  intro n
  induction n with
  | zero => intro d h; obtain rfl : d = [] := List.eq_nil_of_length_eq_zero (by omega); rfl
  | succ n ih =>
    intro d h
    by_cases h0 : d = []
    · subst h0; rfl
    · rw [splitS_cons d h0, joinS_cons, ih _ (by have := adv_pos h0; rw [List.length_drop]; omega), ← line_take, List.take_append_drop]
theorem join_split (d : List UInt8) : joinS (splitS d) = d := joinS_splitS d.length d (Nat.le_refl _)
theorem lnOf_no (d : List UInt8) : ∀ c ∈ lnOf d, c ≠ 10 := by
  induction d with
  | nil => intro c h; cases h
  | cons x r ih =>
    intro c h
    rw [lnOf_cons] at h
    by_cases hx : x = 10
    · rw [if_pos hx] at h; cases h
    · rw [if_neg hx] at h
      rcases List.mem_cons.1 h with rfl | h
      · exact hx
      · exact ih c h
theorem splitS_len : ∀ (n : Nat) (d : List UInt8), d.length ≤ n → (splitS d).length ≤ d.length := by
  intro n
  induction n with
  | zero => intro d h; obtain rfl : d = [] := List.eq_nil_of_length_eq_zero (by omega); simp [splitS]
  | succ n ih =>
    intro d h
    by_cases h0 : d = []
    · subst h0; simp [splitS]
    · have := ih (d.drop (adv d)) (by have := adv_pos h0; rw [List.length_drop]; omega)
      have h1 := adv_pos h0; have h2 := adv_le d
      rw [splitS_cons d h0, List.length_cons]; rw [List.length_drop] at this; omega
theorem splitS_le (d : List UInt8) : (splitS d).length ≤ d.length := splitS_len _ d (Nat.le_refl _)
/-- How many lines there are: the newlines, and one more if something stands behind the last. -/
theorem splitS_count (d : List UInt8) : (splitS d).length = d.count 10 + (if d.getLast? = none ∨ d.getLast? = some 10 then 0 else 1) := by
  induction d with
  | nil => simp [splitS]
  | cons c r ih =>
    cases r with
    | nil =>
      by_cases h : c = 10
      · subst h; rfl
      · simp [splitS, h]
    | cons c2 r2 =>
      rw [List.getLast?_cons_cons, List.count_cons]
      by_cases h : c = 10
      · rw [splitS, if_pos h, List.length_cons, ih]; subst h; simp; omega
      · rw [splitS, if_neg h]
        rw [splitS_cons (c2 :: r2) (by simp)] at ih ⊢
        rw [List.length_cons] at ih ⊢
        rw [ih]; simp [h]
theorem splitS_line (x : List UInt8) (hx : ∀ c ∈ x, c ≠ 10) (d : List UInt8) : splitS (x ++ 10 :: d) = (x, true) :: splitS d := by
  induction x with
  | nil => simp [splitS]
  | cons c r ih =>
    rw [List.cons_append, splitS, if_neg (hx c (by simp)), ih (fun c h => hx c (by simp [h]))]
theorem splitS_last (x : List UInt8) (h0 : x ≠ []) (hx : ∀ c ∈ x, c ≠ 10) : splitS x = [(x, false)] := by
  induction x with
  | nil => exact absurd rfl h0
  | cons c r ih =>
    rw [splitS, if_neg (hx c (by simp))]
    cases r with
    | nil => rfl
    | cons c2 r2 => rw [ih (by simp) (fun c h => hx c (by simp [h]))]
/-- Lines without newlines within, of which all but the last have one, and the last has one or bytes. -/
def wholeS : List Lin → Bool
  | [] => true
  | x :: r => x.1.all (fun c => !(c == 10)) && (x.2 || (r.isEmpty && !x.1.isEmpty)) && wholeS r
theorem split_join : ∀ (l : List Lin), wholeS l = true → splitS (joinS l) = l := by
  intro l
  induction l with
  | nil => intro _; rfl
  | cons x r ih =>
    intro h
    rw [wholeS, Bool.and_eq_true, Bool.and_eq_true] at h
    have hx : ∀ c ∈ x.1, c ≠ 10 := fun c hc => by have := List.all_eq_true.1 h.1.1 c hc; simpa using this
    rw [joinS_cons]
    obtain ⟨x1, x2⟩ := x
    cases x2 with
    | true =>
      simp only [lineB, if_true, List.append_assoc, List.cons_append, List.nil_append]
      rw [splitS_line _ hx, ih h.2]
    | false =>
      simp only [Bool.false_or, Bool.and_eq_true, List.isEmpty_iff] at h
      obtain ⟨⟨_, rfl, h0⟩, _⟩ := h
      simp [lineB, joinS]
      exact splitS_last _ (by simpa using h0) hx
/-- The bytes of the line's pieces. -/
theorem indexByte_adv (d : List UInt8) : Lib.indexByte d 10 = if hasNL d then ((lnOf d).length : Int) else -1 := by
  induction d with
  | nil => rfl
  | cons c r ih =>
    rw [Lib.indexByte, hasNL_cons, lnOf_cons]
    by_cases h : c = 10
    · simp [h]
    · rw [if_neg (by simpa using h), ih]
      simp only [h, decide_false, Bool.false_or, if_false, List.length_cons]
      by_cases h1 : hasNL r = true
      · have h2 : (((lnOf r).length : Int) == -1) = false := by rw [beq_eq_false_iff_ne]; omega
        simp [h1, h2]
      · simp [h1]
end Go.Proofs.Ytdjnlploddlkbaa
