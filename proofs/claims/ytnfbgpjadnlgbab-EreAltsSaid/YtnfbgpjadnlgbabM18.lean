/- Bracket expressions, told on lists of bytes: pieces, items, what a text says; what is read hangs on no byte behind it. -/
import Derived.Test.YtnfbgpjadnlgbabM17
import Derived.Lib.Index
set_option maxRecDepth 100000
namespace Go.Proofs.Ytnfbgpjadnlgbab

/-- Does l begin with p? -/
def bg (p l : List UInt8) : Bool := p.isPrefixOf l
/-- The first place of the bytes sg ] . -/
def betw (sg : UInt8) : List UInt8 → Option Nat
  | [] => none
  | x :: r => if bg [sg, 93] (x :: r) then some 0 else (betw sg r).map (· + 1)
/-- What l begins with: a class (its name), an end, or what is wrong; and how many bytes it takes. -/
inductive Pc
  | bad (e : Nat)
  | cls (nm : List UInt8) (n : Nat)
  | one (c : UInt8) (n : Nat)
def Pc.n : Pc → Nat
  | .bad _ => 0
  | .cls _ n => n
  | .one _ n => n
def known (nm : List UInt8) : Bool := (clsOf nm 0).isSome
def loneP (sg : UInt8) (l : List UInt8) : Pc :=
  match betw sg (l.drop 2) with
  | none => .bad 11
  | some i => if i = 1 then .one ((l.drop 2).headD 0) 5 else .bad 12
def clsP (l : List UInt8) : Pc :=
  match betw 58 (l.drop 2) with
  | none => .bad 11
  | some i => if known ((l.drop 2).take i) then .cls ((l.drop 2).take i) (i + 4) else .bad 12
def endP (l : List UInt8) : Pc :=
  if bg [91, 46] l then loneP 46 l
  else if bg [91, 61] l then loneP 61 l
  else if bg [92, 110] l then .one 10 2
  else match l with
    | [] => .bad 11
    | c :: _ => .one c 1
def piece (l : List UInt8) : Pc := if bg [91, 58] l then clsP l else endP l
/-- A - that is not ahead of a ] . -/
def joins (l : List UInt8) : Bool := bg [45] l && !bg [45, 93] l
def clsF (nm : List UInt8) : Nat → Bool := fun x => (clsOf nm (x : Int)).getD false
def oneF (c : UInt8) : Nat → Bool := ofB c.toNat
  where ofB (k : Nat) : Nat → Bool := fun x => decide (k = x)
def rngF (a b : UInt8) : Nat → Bool := fun x => decide (a.toNat ≤ x) && decide (x ≤ b.toNat)
/-- The set of an item, and how many bytes it takes. -/
def item (l : List UInt8) : Except Nat ((Nat → Bool) × Nat) :=
  match piece l with
  | .bad e => .error e
  | .cls nm n => if joins (l.drop n) then .error 3 else .ok (clsF nm, n)
  | .one c n => if joins (l.drop n) then
      match piece (l.drop (n + 1)) with
      | .bad e => .error e
      | .cls _ _ => .error 3
      | .one d m => if d < c then .error 3 else .ok (rngF c d, n + 1 + m)
    else .ok (oneF c, n)

theorem bg_nil (l : List UInt8) : bg [] l = true := rfl
theorem bg_none (x : UInt8) (p : List UInt8) : bg (x :: p) [] = false := rfl
theorem bg_cons (x y : UInt8) (p l : List UInt8) : bg (x :: p) (y :: l) = (x == y && bg p l) := rfl
theorem bg_take {p l : List UInt8} {n : Nat} (h : p.length ≤ n) : bg p (l.take n) = bg p l := by
  induction p generalizing l n with
  | nil => rfl
  | cons x p ih =>
    cases l with
    | nil => simp
    | cons y l =>
      cases n with
      | zero => simp at h
      | succ n =>
        rw [List.take_succ_cons, bg_cons, bg_cons, ih (by simpa using h)]
theorem bg_agree {p l l' : List UInt8} {n : Nat} (ha : l.take n = l'.take n) (h : p.length ≤ n) : bg p l = bg p l' := by
  rw [← bg_take (l := l) h, ha, bg_take h]
theorem bg_len {p l : List UInt8} (h : bg p l = true) : p.length ≤ l.length := (List.isPrefixOf_iff_prefix.1 h).length_le
theorem drop_agree {l l' : List UInt8} {n : Nat} (ha : l.take n = l'.take n) (k : Nat) : (l.drop k).take (n - k) = (l'.drop k).take (n - k) := by
  rw [← List.drop_take, ← List.drop_take, ha]
theorem take_agree {l l' : List UInt8} {n k : Nat} (ha : l.take n = l'.take n) (h : k ≤ n) : l.take k = l'.take k := by
  have := congrArg (List.take k) ha
  rwa [List.take_take, List.take_take, Nat.min_eq_left h] at this

theorem betw_len {sg : UInt8} {l : List UInt8} {i : Nat} (h : betw sg l = some i) : i + 2 ≤ l.length := by
  induction l generalizing i with
  | nil => simp [betw] at h
  | cons x r ih =>
    unfold betw at h
    split at h
    · rename_i hb
      have := bg_len hb
      simp at h this
      simp; omega
    · cases hr : betw sg r with
      | none => rw [hr] at h; simp at h
      | some j =>
        rw [hr] at h
        simp at h
        have := ih hr
        simp; omega
theorem betw_agree {sg : UInt8} {l l' : List UInt8} {i n : Nat} (h : betw sg l = some i) (hn : i + 2 ≤ n) (ha : l.take n = l'.take n) : betw sg l' = some i := by
  induction l generalizing i n l' with
  | nil => simp [betw] at h
  | cons x r ih =>
    cases n with
    | zero => omega
    | succ n =>
      cases l' with
      | nil => simp at ha
      | cons x' r' =>
        have hb := bg_agree (p := [sg, 93]) ha (by simp; omega)
        unfold betw at h ⊢
        rw [← hb]
        split
        · rename_i h1
          rw [if_pos h1] at h
          exact h
        · rename_i h1
          rw [if_neg h1] at h
          cases hr : betw sg r with
          | none => rw [hr] at h; simp at h
          | some j =>
            rw [hr] at h
            simp at h
            simp only [List.take_succ_cons, List.cons.injEq] at ha
            rw [ih hr (by omega) ha.2]
            simp [h]
theorem index_betw (sg : UInt8) (l : List UInt8) : Lib.index l [sg, 93] = match betw sg l with | none => -1 | some i => (i : Int) := by
  induction l with
  | nil => rfl
  | cons x r ih =>
    unfold Lib.index betw
    by_cases h : bg [sg, 93] (x :: r) = true
    · rw [if_pos (show List.isPrefixOf [sg, 93] (x :: r) = true from h), if_pos h]; rfl
    · rw [if_neg (show ¬ List.isPrefixOf [sg, 93] (x :: r) = true from h), if_neg h, ih]
      cases betw sg r with
      | none => rfl
      | some i =>
        have : ((i : Int) == -1) = false := by simp
        simp [this]

theorem head_agree {l l' : List UInt8} {n : Nat} (ha : l.take (n + 1) = l'.take (n + 1)) : l.headD 0 = l'.headD 0 := by
  cases l <;> cases l' <;> simp_all
theorem loneP_agree {sg : UInt8} {l l' : List UInt8} {N : Nat} {c : UInt8} {n : Nat} (h : loneP sg l = .one c n) (hn : n ≤ N) (ha : l.take N = l'.take N) : loneP sg l' = .one c n := by
  unfold loneP at h ⊢
  cases hb : betw sg (l.drop 2) with
  | none => rw [hb] at h; simp at h
  | some i =>
    rw [hb] at h
    simp only at h
    split at h
    · rename_i hi
      subst hi
      simp only [Pc.one.injEq] at h
      have hN : 5 ≤ N := by omega
      have ha2 := drop_agree ha 2
      rw [betw_agree hb (n := N - 2) (by omega) ha2]
      obtain ⟨m, hm⟩ : ∃ m, N - 2 = m + 1 := ⟨N - 3, by omega⟩
      rw [hm] at ha2
      simp only [if_true, Pc.one.injEq]
      rw [← head_agree ha2]
      exact h
    · simp at h
theorem clsP_agree {l l' : List UInt8} {N : Nat} {nm : List UInt8} {n : Nat} (h : clsP l = .cls nm n) (hn : n ≤ N) (ha : l.take N = l'.take N) : clsP l' = .cls nm n := by
  unfold clsP at h ⊢
  cases hb : betw 58 (l.drop 2) with
  | none => rw [hb] at h; simp at h
  | some i =>
    rw [hb] at h
    simp only at h
    split at h
    · rename_i hk
      simp only [Pc.cls.injEq] at h
      have ha2 := drop_agree ha 2
      rw [betw_agree hb (n := N - 2) (by omega) ha2]
      have ht := take_agree ha2 (k := i) (by omega)
      simp only
      rw [← ht, if_pos hk, h.1, h.2]
    · simp at h
theorem loneP_size {sg : UInt8} {l : List UInt8} {c : UInt8} {n : Nat} (h : loneP sg l = .one c n) : n = 5 ∧ n ≤ l.length := by
  unfold loneP at h
  cases hb : betw sg (l.drop 2) with
  | none => rw [hb] at h; simp at h
  | some i =>
    rw [hb] at h
    have := betw_len hb
    rw [List.length_drop] at this
    simp only at h
    split at h
    · simp only [Pc.one.injEq] at h; omega
    · simp at h
theorem loneP_cls {sg : UInt8} {l : List UInt8} {nm : List UInt8} {n : Nat} : loneP sg l ≠ .cls nm n := by
  unfold loneP
  split
  · simp
  · split <;> simp
theorem endP_cls {l : List UInt8} {nm : List UInt8} {n : Nat} : endP l ≠ .cls nm n := by
  unfold endP
  split
  · exact loneP_cls
  · split
    · exact loneP_cls
    · split
      · simp
      · split <;> simp
theorem clsP_size {l : List UInt8} {nm : List UInt8} {n : Nat} (h : clsP l = .cls nm n) : 4 ≤ n ∧ n ≤ l.length := by
  unfold clsP at h
  cases hb : betw 58 (l.drop 2) with
  | none => rw [hb] at h; simp at h
  | some i =>
    rw [hb] at h
    have := betw_len hb
    rw [List.length_drop] at this
    simp only at h
    split at h
    · simp only [Pc.cls.injEq] at h; omega
    · simp at h
theorem clsP_one {l : List UInt8} {c : UInt8} {n : Nat} : clsP l ≠ .one c n := by
  unfold clsP
  split
  · simp
  · split <;> simp
theorem endP_size {l : List UInt8} {c : UInt8} {n : Nat} (h : endP l = .one c n) : 1 ≤ n ∧ n ≤ l.length := by
  unfold endP at h
  split at h
  · have := loneP_size h; omega
  · split at h
    · have := loneP_size h; omega
    · split at h
      · rename_i hb
        have := bg_len hb
        simp at this
        simp only [Pc.one.injEq] at h; omega
      · split at h
        · simp at h
        · simp only [Pc.one.injEq] at h
          simp; omega
theorem piece_one_size {l : List UInt8} {c : UInt8} {n : Nat} (h : piece l = .one c n) : 1 ≤ n ∧ n ≤ l.length := by
  unfold piece at h
  split at h
  · exact absurd h clsP_one
  · exact endP_size h
theorem piece_cls_size {l : List UInt8} {nm : List UInt8} {n : Nat} (h : piece l = .cls nm n) : 4 ≤ n ∧ n ≤ l.length := by
  unfold piece at h
  split at h
  · exact clsP_size h
  · exact absurd h endP_cls
theorem piece_one_agree {l l' : List UInt8} {N : Nat} {c : UInt8} {n : Nat} (h : piece l = .one c n) (hn : n < N) (ha : l.take N = l'.take N) : piece l' = .one c n := by
  have hs := piece_one_size h
  have hN : 2 ≤ N := by omega
  unfold piece at h ⊢
  rw [← bg_agree ha (p := [91, 58]) hN]
  split at h
  · exact absurd h clsP_one
  · rename_i h0
    rw [if_neg h0]
    unfold endP at h ⊢
    rw [← bg_agree ha (p := [91, 46]) hN, ← bg_agree ha (p := [91, 61]) hN, ← bg_agree ha (p := [92, 110]) hN]
    split at h
    · rename_i h1
      rw [if_pos h1]
      exact loneP_agree h (by omega) ha
    · rename_i h1
      rw [if_neg h1]
      split at h
      · rename_i h2
        rw [if_pos h2]
        exact loneP_agree h (by omega) ha
      · rename_i h2
        rw [if_neg h2]
        split at h
        · rename_i h3
          rw [if_pos h3]
          exact h
        · rename_i h3
          rw [if_neg h3]
          obtain ⟨m, rfl⟩ : ∃ m, N = m + 1 := ⟨N - 1, by omega⟩
          cases l with
          | nil => simp at h
          | cons x r =>
            cases l' with
            | nil => simp at ha
            | cons x' r' =>
              simp only [List.take_succ_cons, List.cons.injEq] at ha
              simpa [← ha.1] using h
theorem piece_cls_agree {l l' : List UInt8} {N : Nat} {nm : List UInt8} {n : Nat} (h : piece l = .cls nm n) (hn : n ≤ N) (ha : l.take N = l'.take N) : piece l' = .cls nm n := by
  have hs := piece_cls_size h
  have hN : 2 ≤ N := by omega
  unfold piece at h ⊢
  rw [← bg_agree ha (p := [91, 58]) hN]
  split at h
  · rename_i h0
    rw [if_pos h0]
    exact clsP_agree h hn ha
  · exact absurd h endP_cls
/-- A - of which only one byte more is known. -/
theorem joins_agree {l l' : List UInt8} {N : Nat} (h1 : 1 ≤ N) (h2 : bg [45] l = true → 2 ≤ N) (ha : l.take N = l'.take N) : joins l = joins l' := by
  unfold joins
  rw [← bg_agree ha (p := [45]) h1]
  cases hb : bg [45] l
  · rfl
  · rw [← bg_agree ha (p := [45, 93]) (h2 hb)]

theorem item_size {l : List UInt8} {f : Nat → Bool} {n : Nat} (h : item l = .ok (f, n)) : 1 ≤ n ∧ n ≤ l.length := by
  unfold item at h
  split at h
  · simp at h
  · rename_i nm k hp
    have := piece_cls_size hp
    split at h
    · simp at h
    · simp only [Except.ok.injEq, Prod.mk.injEq] at h; omega
  · rename_i c k hp
    have hk := piece_one_size hp
    split at h
    · split at h
      · simp at h
      · simp at h
      · rename_i d m hq
        have := piece_one_size hq
        rw [List.length_drop] at this
        split at h
        · simp at h
        · simp only [Except.ok.injEq, Prod.mk.injEq] at h; omega
    · simp only [Except.ok.injEq, Prod.mk.injEq] at h; omega
theorem item_agree {l l' : List UInt8} {N : Nat} {f : Nat → Bool} {n : Nat} (h : item l = .ok (f, n)) (hn : n < N) (h2 : bg [45] (l.drop n) = true → n + 2 ≤ N) (ha : l.take N = l'.take N) : item l' = .ok (f, n) := by
  unfold item at h ⊢
  cases hp : piece l with
  | bad e => rw [hp] at h; simp at h
  | cls nm k =>
    rw [hp] at h
    simp only at h
    cases hj : joins (l.drop k) with
    | true => rw [hj] at h; simp at h
    | false =>
      rw [hj] at h
      simp only [Bool.false_eq_true, if_false, Except.ok.injEq, Prod.mk.injEq] at h
      obtain ⟨rfl, rfl⟩ := h
      rw [piece_cls_agree hp (by omega) ha]
      simp only
      rw [← joins_agree (N := N - k) (by omega) (fun e => by have := h2 e; omega) (drop_agree ha k), hj]
      rfl
  | one c k =>
    have hk := piece_one_size hp
    rw [hp] at h
    simp only at h
    cases hj : joins (l.drop k) with
    | true =>
      rw [hj] at h
      simp only [if_true] at h
      cases hq : piece (l.drop (k + 1)) with
      | bad e => rw [hq] at h; simp at h
      | cls nm m => rw [hq] at h; simp at h
      | one d m =>
        have hm := piece_one_size hq
        rw [hq] at h
        simp only at h
        split at h
        · simp at h
        · rename_i hd
          simp only [Except.ok.injEq, Prod.mk.injEq] at h
          obtain ⟨rfl, rfl⟩ := h
          rw [piece_one_agree hp (by omega) ha]
          simp only
          rw [← joins_agree (N := N - k) (by omega) (fun _ => by omega) (drop_agree ha k), hj]
          simp only [if_true]
          rw [piece_one_agree hq (N := N - (k + 1)) (by omega) (drop_agree ha (k + 1))]
          simp only
          rw [if_neg hd]
    | false =>
      rw [hj] at h
      simp only [Bool.false_eq_true, if_false, Except.ok.injEq, Prod.mk.injEq] at h
      obtain ⟨rfl, rfl⟩ := h
      rw [piece_one_agree hp (by omega) ha]
      simp only
      rw [← joins_agree (N := N - k) (by omega) (fun e => by have := h2 e; omega) (drop_agree ha k), hj]
      rfl

/-- Two sets put together. -/
def orF (f g : Nat → Bool) : Nat → Bool := fun c => f c || g c
/-- All items from l on, l at the place i, with what was read: the set and the place behind the ] . -/
def items (first : Bool) (l : List UInt8) (i : Nat) (acc : Nat → Bool) : Except Nat ((Nat → Bool) × Nat) :=
  if !first && bg [93] l then .ok (acc, i + 1)
  else match _h : item l with
    | .error e => .error e
    | .ok (f, n) => items false (l.drop n) (i + n) (orF acc f)
termination_by l.length
decreasing_by
  have := item_size _h
  rw [List.length_drop]; omega
theorem items_end {l : List UInt8} (i : Nat) (acc : Nat → Bool) (h : bg [93] l = true) : items false l i acc = .ok (acc, i + 1) := by
  rw [items, if_pos (by simpa using h)]
theorem items_err {first : Bool} {l : List UInt8} (i : Nat) (acc : Nat → Bool) {e : Nat} (h : (!first && bg [93] l) = false) (hi : item l = .error e) : items first l i acc = .error e := by
  rw [items, if_neg (by simp [h])]
  split
  · rename_i e' he; rw [hi] at he; cases he; rfl
  · rename_i f n he; rw [hi] at he; cases he
theorem items_ok {first : Bool} {l : List UInt8} (i : Nat) (acc : Nat → Bool) {f : Nat → Bool} {n : Nat} (h : (!first && bg [93] l) = false) (hi : item l = .ok (f, n)) : items first l i acc = items false (l.drop n) (i + n) (orF acc f) := by
  rw [items, if_neg (by simp [h])]
  split
  · rename_i e' he; rw [hi] at he; cases he
  · rename_i f' n' he; rw [hi] at he; cases he; rfl
/-- By the length of what is left. -/
theorem items_ind {P : Bool → List UInt8 → Prop} (hE : ∀ l, bg [93] l = true → P false l) (hR : ∀ first l e, (!first && bg [93] l) = false → item l = .error e → P first l)
    (hO : ∀ first l f n, (!first && bg [93] l) = false → item l = .ok (f, n) → P false (l.drop n) → P first l) : ∀ first l, P first l := by
  intro first l
  generalize hk : l.length = k
  induction k using Nat.strongRecOn generalizing first l with
  | ind k ih =>
    cases h : (!first && bg [93] l) with
    | true =>
      simp only [Bool.and_eq_true, Bool.not_eq_true'] at h
      obtain ⟨rfl, h⟩ := h
      exact hE l h
    | false =>
      cases hi : item l with
      | error e => exact hR first l e h hi
      | ok p =>
        obtain ⟨f, n⟩ := p
        have := item_size hi
        exact hO first l f n h hi (ih _ (by rw [List.length_drop]; omega) false (l.drop n) rfl)
/-- What comes out at another place, with more that was read. -/
theorem items_move (first : Bool) (l : List UInt8) : ∀ (i k : Nat) (acc : Nat → Bool), items first l (i + k) acc = match items first l i acc with | .error e => .error e | .ok (f, j) => .ok (f, j + k) := by
  refine items_ind (P := fun first l => ∀ (i k : Nat) (acc : Nat → Bool), items first l (i + k) acc = match items first l i acc with | .error e => .error e | .ok (f, j) => .ok (f, j + k)) ?_ ?_ ?_ first l
  · intro l h i k acc
    rw [items_end _ _ h, items_end _ _ h]
    simp only [Except.ok.injEq, Prod.mk.injEq, true_and]; omega
  · intro first l e h hi i k acc
    rw [items_err _ _ h hi, items_err _ _ h hi]
  · intro first l f n h hi ih i k acc
    rw [items_ok _ _ h hi, items_ok _ _ h hi, show i + k + n = i + n + k by omega, ih]
/-- Where it ends. -/
theorem items_size (first : Bool) (l : List UInt8) : ∀ (i : Nat) (acc f : Nat → Bool) (j : Nat), items first l i acc = .ok (f, j) → i + 1 ≤ j ∧ j ≤ i + l.length := by
  refine items_ind (P := fun first l => ∀ (i : Nat) (acc f : Nat → Bool) (j : Nat), items first l i acc = .ok (f, j) → i + 1 ≤ j ∧ j ≤ i + l.length) ?_ ?_ ?_ first l
  · intro l h i acc f j he
    rw [items_end _ _ h] at he
    have := bg_len h
    simp at this
    simp only [Except.ok.injEq, Prod.mk.injEq] at he; omega
  · intro first l e h hi i acc f j he
    rw [items_err _ _ h hi] at he; cases he
  · intro first l g n h hi ih i acc f j he
    rw [items_ok _ _ h hi] at he
    have h1 := ih _ _ _ _ he
    have h2 := item_size hi
    rw [List.length_drop] at h1
    omega
/-- What was read is read with anything else behind it. -/
theorem items_agree (first : Bool) (l : List UInt8) : ∀ (i : Nat) (acc f : Nat → Bool) (j : Nat) (l' : List UInt8), items first l i acc = .ok (f, j) → l.take (j - i) = l'.take (j - i) → items first l' i acc = .ok (f, j) := by
  refine items_ind (P := fun first l => ∀ (i : Nat) (acc f : Nat → Bool) (j : Nat) (l' : List UInt8), items first l i acc = .ok (f, j) → l.take (j - i) = l'.take (j - i) → items first l' i acc = .ok (f, j)) ?_ ?_ ?_ first l
  · intro l h i acc f j l' he ha
    have hs := items_size _ _ _ _ _ _ he
    rw [items_end _ _ h] at he
    rw [items_end _ _ (by rw [← bg_agree ha (p := [93]) (by simp; omega)]; exact h), he]
  · intro first l e h hi i acc f j l' he ha
    rw [items_err _ _ h hi] at he; cases he
  · intro first l g n h hi ih i acc f j l' he ha
    have hs := items_size _ _ _ _ _ _ he
    rw [items_ok _ _ h hi] at he
    have h1 := items_size _ _ _ _ _ _ he
    have h2 := item_size hi
    have hq : (!first && bg [93] l') = false := by rw [← bg_agree ha (p := [93]) (by simp; omega)]; exact h
    have hi' : item l' = .ok (g, n) := by
      refine item_agree hi (N := j - i) (by omega) (fun h45 => ?_) ha
      have hne : bg [93] (l.drop n) = false := by
        cases hd : l.drop n with
        | nil => rfl
        | cons x r =>
          rw [hd, bg_cons] at h45
          simp [bg_nil] at h45
          subst h45; rfl
      cases hn : item (l.drop n) with
      | error e => rw [items_err _ _ (by simp [hne]) hn] at he; cases he
      | ok p =>
        obtain ⟨f2, n2⟩ := p
        rw [items_ok _ _ (by simp [hne]) hn] at he
        have h3 := items_size _ _ _ _ _ _ he
        have h4 := item_size hn
        omega
    rw [items_ok _ _ hq hi']
    refine ih _ _ _ _ _ he ?_
    have := drop_agree ha n
    rwa [show j - i - n = j - (i + n) by omega] at this
/-- No front of what was read is read. -/
theorem items_front {first : Bool} {l : List UInt8} {i : Nat} {acc f : Nat → Bool} {j : Nat} (h : items first l i acc = .ok (f, j)) {k : Nat} (hk : i + k < j) : ∃ e, items first (l.take k) i acc = .error e := by
  cases h2 : items first (l.take k) i acc with
  | error e => exact ⟨e, rfl⟩
  | ok p =>
    obtain ⟨f', j'⟩ := p
    have hs := items_size _ _ _ _ _ _ h2
    have hl := List.length_take_le k l
    have h3 := items_agree _ _ _ _ _ _ l h2 (by rw [List.take_take, Nat.min_eq_left (by omega)])
    rw [h] at h3
    simp only [Except.ok.injEq, Prod.mk.injEq] at h3
    omega
def pieceE (l : List UInt8) : Prop := ∀ e, piece l = .bad e → e = 11 ∨ e = 12
theorem loneP_err {sg : UInt8} {l : List UInt8} {e : Nat} (h : loneP sg l = .bad e) : e = 11 ∨ e = 12 := by
  unfold loneP at h
  split at h
  · simp at h; omega
  · split at h
    · simp at h
    · simp at h; omega
theorem clsP_err {l : List UInt8} {e : Nat} (h : clsP l = .bad e) : e = 11 ∨ e = 12 := by
  unfold clsP at h
  split at h
  · simp at h; omega
  · split at h
    · simp at h
    · simp at h; omega
theorem endP_err {l : List UInt8} {e : Nat} (h : endP l = .bad e) : e = 11 ∨ e = 12 := by
  unfold endP at h
  split at h
  · exact loneP_err h
  · split at h
    · exact loneP_err h
    · split at h
      · simp at h
      · split at h
        · simp at h; omega
        · simp at h
theorem piece_err {l : List UInt8} {e : Nat} (h : piece l = .bad e) : e = 11 ∨ e = 12 := by
  unfold piece at h
  split at h
  · exact clsP_err h
  · exact endP_err h
theorem item_err {l : List UInt8} {e : Nat} (h : item l = .error e) : e = 3 ∨ e = 11 ∨ e = 12 := by
  unfold item at h
  split at h
  · rename_i e' hp
    have := piece_err hp
    simp at h; omega
  · split at h
    · simp at h; omega
    · simp at h
  · split at h
    · split at h
      · rename_i e' hp
        have := piece_err hp
        simp at h; omega
      · simp at h; omega
      · split at h
        · simp at h; omega
        · simp at h
    · simp at h
theorem items_wrong (first : Bool) (l : List UInt8) : ∀ (i : Nat) (acc : Nat → Bool) (e : Nat), items first l i acc = .error e → e = 3 ∨ e = 11 ∨ e = 12 := by
  refine items_ind (P := fun first l => ∀ (i : Nat) (acc : Nat → Bool) (e : Nat), items first l i acc = .error e → e = 3 ∨ e = 11 ∨ e = 12) ?_ ?_ ?_ first l
  · intro l h i acc e he
    rw [items_end _ _ h] at he; cases he
  · intro first l e' h hi i acc e he
    rw [items_err _ _ h hi] at he
    have := item_err hi
    simp at he; omega
  · intro first l g n h hi ih i acc e he
    rw [items_ok _ _ h hi] at he
    exact ih _ _ _ he

/-- No byte. -/
def noneF : Nat → Bool := fun _ => false
def negF (f : Nat → Bool) : Nat → Bool := fun c => !f c
/-- What stands behind a [ at the place k: the set, the place behind its ], or what is wrong. -/
def readB (b : List UInt8) (k : Nat) : Except Nat ((Nat → Bool) × Nat) :=
  if bg [94] (b.drop k) then
    match items true (b.drop (k + 1)) (k + 1) noneF with
    | .error e => .error e
    | .ok (f, j) => .ok (negF f, j)
  else items true (b.drop k) k noneF
theorem readB_not {b : List UInt8} {k : Nat} (h : bg [94] (b.drop k) = true) : readB b k = match items true (b.drop (k + 1)) (k + 1) noneF with
    | .error e => .error e
    | .ok (f, j) => .ok (negF f, j) := by unfold readB; rw [if_pos h]
theorem readB_plain {b : List UInt8} {k : Nat} (h : bg [94] (b.drop k) = false) : readB b k = items true (b.drop k) k noneF := by unfold readB; rw [if_neg (by simp [h])]
/-- As it is told: the set, the place, what is wrong. -/
def told (r : Except Nat ((Nat → Bool) × Nat)) : (Nat → Bool) × Nat × Nat :=
  match r with
  | .error e => (noneF, 0, e)
  | .ok (f, j) => (f, j, 0)
def parseR (b : List UInt8) (at_ : Int) : (Nat → Bool) × Nat × Nat :=
  if at_ < 0 ∨ (b.length : Int) < at_ then (noneF, 0, 1) else told (readB b at_.toNat)
theorem parseR_in {b : List UInt8} {k : Nat} (h : k ≤ b.length) : parseR b (k : Int) = told (readB b k) := by
  unfold parseR
  rw [if_neg (by omega), Int.toNat_natCast]
end Go.Proofs.Ytnfbgpjadnlgbab
