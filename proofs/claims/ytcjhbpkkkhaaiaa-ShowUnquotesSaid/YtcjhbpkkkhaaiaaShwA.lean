/- Layer 4's lists: a byte's mark, the list of a text, its quote, and what a quote is read to. -/
import Derived.Test.YtcjhbpkkkhaaiaaWords
namespace Go.Proofs.Ytcjhbpkkkhaaiaa

theorem all_u8 (P : UInt8 → Bool) (h : (List.range 256).all (fun i => P (UInt8.ofNat i)) = true) (c : UInt8) : P c = true := by
  have := List.all_eq_true.1 h c.toNat (List.mem_range.2 c.toNat_lt)
  simpa using this

/-- The letters of the bytes 7 to 13. -/
def lettersL : List UInt8 := [97, 98, 116, 110, 118, 102, 114]
/-- A byte's mark. -/
def markL (c : UInt8) : List UInt8 :=
  if c == 92 then [92, 92]
  else if decide (7 ≤ c.toNat) && decide (c.toNat ≤ 13) then [92, lettersL.getD (c.toNat - 7) 0]
  else if decide (32 ≤ c.toNat) && decide (c.toNat ≤ 126) then [c]
  else [92, UInt8.ofNat (48 + c.toNat / 64), UInt8.ofNat (48 + c.toNat / 8 % 8), UInt8.ofNat (48 + c.toNat % 8)]
theorem mark_seen (c : UInt8) : ∀ x ∈ markL c, 32 ≤ x.toNat ∧ x.toNat ≤ 126 := by
  have := all_u8 (fun c => (markL c).all fun x => decide (32 ≤ x.toNat) && decide (x.toNat ≤ 126)) (by decide +kernel) c
  intro x hx
  simpa using List.all_eq_true.1 this x hx
theorem mark_len (c : UInt8) : 1 ≤ (markL c).length ∧ (markL c).length ≤ 4 := by
  have := all_u8 (fun c => decide (1 ≤ (markL c).length) && decide ((markL c).length ≤ 4)) (by decide +kernel) c
  simpa using this

/-- The list of a text from a line that has w already. -/
def foldS (fold : Int) : Nat → List UInt8 → List UInt8
  | _, [] => [36]
  | w, c :: r =>
    if 2 ≤ fold ∧ 0 < w ∧ fold - 1 < ((w + (markL c).length : Nat) : Int) then [92, 10] ++ (markL c ++ foldS fold (markL c).length r)
    else markL c ++ foldS fold (w + (markL c).length) r
theorem foldS_len (fold : Int) : ∀ (l : List UInt8) (w : Nat), (foldS fold w l).length ≤ 6 * l.length + 1
  | [], _ => by simp [foldS]
  | c :: r, w => by
    have h1 := mark_len c
    have h2 := foldS_len fold r (markL c).length
    have h3 := foldS_len fold r (w + (markL c).length)
    unfold foldS
    split <;> simp <;> omega
theorem foldS_zero : ∀ (l : List UInt8) (w : Nat), foldS 0 w l = l.flatMap markL ++ [36]
  | [], _ => rfl
  | c :: r, w => by
    unfold foldS
    rw [if_neg (by omega), foldS_zero r]
    simp

/-- What is left when the folds are struck: none where a newline stands that is no fold or a line is too long. -/
def chk (fold : Nat) : List UInt8 → List UInt8 → Nat → Option (List UInt8 × Nat)
  | [], flat, w => some (flat, w)
  | c :: r, flat, w => if c = 10 then (if flat.getLast? = some 92 ∧ w ≤ fold then chk fold r flat.dropLast 0 else none) else chk fold r (flat ++ [c]) (w + 1)
theorem chk_app (fold : Nat) : ∀ (m r flat : List UInt8) (w : Nat), (∀ x ∈ m, 32 ≤ x.toNat ∧ x.toNat ≤ 126) → chk fold (m ++ r) flat w = chk fold r (flat ++ m) (w + m.length)
  | [], r, flat, w, _ => by simp
  | c :: m, r, flat, w, h => by
    have hc := h c (by simp)
    have : c ≠ 10 := by rintro rfl; simp at hc
    rw [List.cons_append, chk, if_neg this, chk_app fold m r _ _ (fun x hx => h x (by simp [hx]))]
    simp [Nat.add_assoc, Nat.add_comm 1]
theorem chk_fold (fold : Nat) (hf : 5 ≤ fold) : ∀ (l flat : List UInt8) (w : Nat), w + 1 ≤ fold → ∃ k, k ≤ fold ∧ chk fold (foldS fold w l) flat w = some (flat ++ (l.flatMap markL ++ [36]), k)
  | [], flat, w, h => ⟨w + 1, h, by simp [foldS, chk]⟩
  | c :: r, flat, w, h => by
    have h1 := mark_len c
    unfold foldS
    split
    · rename_i hc
      obtain ⟨k, hk, he⟩ := chk_fold fold hf r (flat ++ markL c) (markL c).length (by omega)
      refine ⟨k, hk, ?_⟩
      show chk fold (92 :: 10 :: (markL c ++ foldS fold (markL c).length r)) flat w = _
      rw [chk, if_neg (by decide), chk, if_pos rfl, if_pos ⟨by simp, by omega⟩, chk_app _ _ _ _ _ (mark_seen c)]
      simp only [List.dropLast_concat, Nat.zero_add, he]
      simp
    · rename_i hc
      obtain ⟨k, hk, he⟩ := chk_fold fold hf r (flat ++ markL c) (w + (markL c).length) (by omega)
      refine ⟨k, hk, ?_⟩
      rw [chk_app _ _ _ _ _ (mark_seen c), he]
      simp

/-- A byte within a quote. -/
def encL (c : UInt8) : List UInt8 := if c == 34 then [92, 34] else markL c
/-- The quote of a text. -/
def quoteS (l : List UInt8) : List UInt8 := 34 :: (l.flatMap encL ++ [34])
theorem enc_seen (c : UInt8) : ∀ x ∈ encL c, 32 ≤ x.toNat ∧ x.toNat ≤ 126 := by
  have := all_u8 (fun c => (encL c).all fun x => decide (32 ≤ x.toNat) && decide (x.toNat ≤ 126)) (by decide +kernel) c
  intro x hx
  simpa using List.all_eq_true.1 this x hx
theorem enc_len (c : UInt8) : 1 ≤ (encL c).length ∧ (encL c).length ≤ 4 := by
  have := all_u8 (fun c => decide (1 ≤ (encL c).length) && decide ((encL c).length ≤ 4)) (by decide +kernel) c
  simpa using this
theorem encs_len : ∀ l : List UInt8, (l.flatMap encL).length ≤ 4 * l.length
  | [] => by simp
  | c :: r => by
    have := enc_len c
    have := encs_len r
    rw [List.flatMap_cons, List.length_append, List.length_cons]; omega
theorem quote_len (l : List UInt8) : (quoteS l).length ≤ 4 * l.length + 2 := by
  have := encs_len l
  unfold quoteS
  rw [List.length_cons, List.length_append, List.length_singleton]; omega
theorem quote_seen (l : List UInt8) : ∀ x ∈ quoteS l, 32 ≤ x.toNat ∧ x.toNat ≤ 126 := by
  intro x hx
  simp only [quoteS, List.mem_cons, List.mem_append, List.mem_flatMap, List.not_mem_nil, or_false] at hx
  rcases hx with rfl | ⟨c, _, hc⟩ | rfl
  · decide
  · exact enc_seen c x hc
  · decide

/-- What one byte behind a \ means. -/
def shortB (x : UInt8) : Option UInt8 :=
  if x == 92 || x == 34 then some x
  else match lettersL.idxOf? x with
    | some i => some (UInt8.ofNat (7 + i))
    | none => none
/-- Three digits of base 8. -/
def octG : Nat → Nat → List UInt8 → Except Int UInt8
  | 0, n, _ => if 255 < n then .error 10 else .ok (UInt8.ofNat n)
  | _ + 1, _, [] => .error 2
  | k + 1, n, c :: r => if 48 ≤ c.toNat ∧ c.toNat ≤ 55 then octG k (8 * n + (c.toNat - 48)) r else .error 10
/-- The byte that a text begins with, and how many bytes behind the first that takes. -/
def unmarkS : List UInt8 → Except Int (UInt8 × Nat)
  | [] => .error 2
  | c :: r =>
    if c ≠ 92 then .ok (c, 0)
    else match r.head?.bind shortB with
      | some b => .ok (b, 1)
      | none => match octG 3 0 r with
        | .ok b => .ok (b, 3)
        | .error e => .error e
/-- What is read from the place j on, b read already. -/
def unqS (s : List UInt8) (j : Nat) (b : List UInt8) : Except Int (List UInt8 × Nat) :=
  if j < s.length then
    if s[j]? = some 34 then .ok (b, j + 1)
    else match unmarkS (s.drop j) with
      | .error e => .error e
      | .ok (c, n) => unqS s (j + (n + 1)) (b ++ [c])
  else .error 2
  termination_by s.length - j
/-- What the place of a text says. -/
def unquoteS (s : List UInt8) (a : Int) : Except Int (List UInt8 × Nat) :=
  if a < 0 ∨ (s.length : Int) < a then .error 1
  else if s[a.toNat]? = some 34 then unqS s (a.toNat + 1) []
  else .error 9

theorem unmark_mark (c : UInt8) (r : List UInt8) : unmarkS (encL c ++ r) = .ok (c, (encL c).length - 1) ∧ (encL c ++ r).head? ≠ some 34 := by
  have h := all_u8 (fun c => decide ((encL c).head? ≠ some 34) && match encL c with
    | [] => false
    | [x] => x == c && x != 92
    | [x, y] => x == 92 && shortB y == some c
    | [x, y, z, u] => x == 92 && shortB y == none && decide (48 ≤ y.toNat) && decide (y.toNat ≤ 55) && decide (48 ≤ z.toNat) && decide (z.toNat ≤ 55) && decide (48 ≤ u.toNat) && decide (u.toNat ≤ 55) && decide (8 * (8 * (8 * 0 + (y.toNat - 48)) + (z.toNat - 48)) + (u.toNat - 48) = c.toNat)
    | _ => false) (by decide +kernel) c
  match hl : encL c with
  | [] => simp [hl] at h
  | [x] => simp [hl] at h; obtain ⟨h1, rfl, h3⟩ := h; simp [unmarkS, h1, h3]
  | [x, y] => simp [hl] at h; simp [unmarkS, h]
  | [x, y, z] => simp [hl] at h
  | [x, y, z, u] =>
    simp [hl] at h
    have hc := c.toNat_lt
    simp [unmarkS, octG, h]
    rw [if_neg (by omega)]
  | _ :: _ :: _ :: _ :: _ :: _ => simp [hl] at h

theorem unq_quote (s rest : List UInt8) : ∀ (l b : List UInt8) (j : Nat), s.drop j = l.flatMap encL ++ 34 :: rest → unqS s j b = .ok (b ++ l, j + (l.flatMap encL).length + 1)
  | [], b, j, h => by
    have h0 : s[j]? = some 34 := by rw [← List.head?_drop, h]; rfl
    have hj : j < s.length := (List.getElem?_eq_some_iff.1 h0).1
    rw [unqS, if_pos hj, if_pos h0]; simp
  | c :: l, b, j, h => by
    rw [List.flatMap_cons, List.append_assoc] at h
    obtain ⟨h1, h2⟩ := unmark_mark c (l.flatMap encL ++ 34 :: rest)
    rw [← h] at h1 h2
    have hl := enc_len c
    have hj : j < s.length := by
      have := congrArg List.length h
      simp at this; omega
    rw [List.head?_drop] at h2
    rw [unqS, if_pos hj, if_neg h2, h1]
    show unqS s (j + ((encL c).length - 1 + 1)) (b ++ [c]) = _
    rw [Nat.sub_add_cancel hl.1, unq_quote s rest l (b ++ [c]) (j + (encL c).length) (by rw [← List.drop_drop, h, List.drop_left])]
    simp; omega

theorem unquote_quote (front l rest : List UInt8) : unquoteS (front ++ (quoteS l ++ rest)) front.length = .ok (l, front.length + (quoteS l).length) := by
  unfold unquoteS
  rw [if_neg (by simp; omega), Int.toNat_natCast, if_pos (by simp [quoteS]), unq_quote _ rest l [] (front.length + 1) (by rw [← List.drop_drop, List.drop_left]; simp [quoteS])]
  simp [quoteS]; omega
end Go.Proofs.Ytcjhbpkkkhaaiaa
