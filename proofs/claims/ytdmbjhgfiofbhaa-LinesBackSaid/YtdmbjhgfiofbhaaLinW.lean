/- Lines in memory: a slice of lines that is read, a slice of lines that is owned. -/
import Derived.Test.YtdmbjhgfiofbhaaLinA
import Derived.Test.YtdmbjhgfiofbhaaApp
namespace Go.Proofs.Ytdmbjhgfiofbhaa
open Go.RowKit

/-- The first cell of a line: the slice of its bytes, all of them below block B. -/
def LinB (w : World) (B : Nat) (v : Value) (l : List UInt8) : Prop :=
  ∃ (A : Option Addr) (n cap : Nat), v = .slice A n cap ∧ n = l.length ∧ n ≤ cap ∧ cap ≤ maxLen ∧ Byt w B A l
/-- In the world w the slice that begins at A holds the lines ls, two cells each, all below block B. -/
def Lins (w : World) (B : Nat) (A : Option Addr) (ls : List Lin) : Prop :=
  ∀ (k : Nat) (h : k < ls.length), ∃ ad v, A = some ad ∧ ad.block < B ∧ w.cell? (ad.add (k * 2)) = some v ∧ w.cell? (ad.add (k * 2 + 1)) = some (.bool (ls[k]'h).2) ∧ LinB w B v (ls[k]'h).1
theorem add_field (a : Addr) (i : Nat) : (⟨(a.add i).block, (a.add i).off + 1, none⟩ : Addr) = a.add (i + 1) := by
  unfold Addr.add; split <;> simp <;> omega
section
variable {w w' : World} {B B' : Nat} {A : Option Addr} {ls : List Lin} {v : Value} {l : List UInt8}
theorem LinB.keep (h : LinB w B v l) (hk : ∀ p : Addr, p.block < B → w'.cell? p = w.cell? p) : LinB w' B v l :=
  let ⟨A, n, cap, h1, h2, h3, h4, h5⟩ := h; ⟨A, n, cap, h1, h2, h3, h4, h5.keep hk⟩
theorem LinB.below (h : LinB w B v l) (hb : Below B w w') : LinB w' B v l := h.keep fun _ hp => hb.cell hp
theorem LinB.more (h : LinB w B v l) (hB : B ≤ B') : LinB w B' v l :=
  let ⟨A, n, cap, h1, h2, h3, h4, h5⟩ := h; ⟨A, n, cap, h1, h2, h3, h4, h5.more hB⟩
theorem Lins.at_ (h : Lins w B A ls) {k : Nat} (hk : k < ls.length) : ∃ ad A' n cap, A = some ad ∧ ad.block < B ∧ w.cell? (ad.add (k * 2)) = some (.slice A' n cap) ∧ w.cell? ⟨(ad.add (k * 2)).block, (ad.add (k * 2)).off + 1, none⟩ = some (.bool (ls[k]'hk).2) ∧
    n = (ls[k]'hk).1.length ∧ n ≤ cap ∧ cap ≤ maxLen ∧ Byt w B A' (ls[k]'hk).1 := by
  obtain ⟨ad, v, h1, h2, h3, h4, A', n, cap, rfl, h5, h6, h7, h8⟩ := h k hk
  exact ⟨ad, A', n, cap, h1, h2, h3, by rw [add_field]; exact h4, h5, h6, h7, h8⟩
theorem Lins.keep (h : Lins w B A ls) (hk : ∀ p : Addr, p.block < B → w'.cell? p = w.cell? p) : Lins w' B A ls := by
  intro k hlt
  obtain ⟨ad, v, hA, hb, hc, hd, hl⟩ := h k hlt
  exact ⟨ad, v, hA, hb, (hk _ (by rw [block_add]; exact hb)).trans hc, (hk _ (by rw [block_add]; exact hb)).trans hd, hl.keep hk⟩
theorem Lins.below (h : Lins w B A ls) (hb : Below B w w') : Lins w' B A ls := h.keep fun _ hp => hb.cell hp
theorem Lins.more (h : Lins w B A ls) (hB : B ≤ B') : Lins w B' A ls := fun k hk =>
  let ⟨ad, v, hA, hb, hc, hd, hl⟩ := h k hk; ⟨ad, v, hA, Nat.lt_of_lt_of_le hb hB, hc, hd, hl.more hB⟩
theorem Lins.none_ (w : World) (B : Nat) (A : Option Addr) : Lins w B A [] := fun _ h => absurd h (by simp)
end

/-- A line's bytes, in a row of its own between the blocks lo and hi. -/
def OwnB (w : World) (lo hi : Nat) (v : Value) (l : List UInt8) : Prop :=
  w.ownsRow lo 5 1 v l.length (bv l) ∧ ∀ k, v.ownBlock = some k → k < hi
section
variable {w w' : World} {lo hi : Nat} {v : Value} {l : List UInt8}
theorem OwnB.kept (h : OwnB w lo hi v l) {row : Option Nat} (hg : w.grownBy w' row) (hne : v.ownBlock = none ∨ v.ownBlock ≠ row) : OwnB w' lo hi v l := ⟨h.1.kept hg hne, h.2⟩
theorem OwnB.more (h : OwnB w lo hi v l) {hi' : Nat} (hh : hi ≤ hi') : OwnB w lo hi' v l := ⟨h.1, fun k hk => Nat.lt_of_lt_of_le (h.2 k hk) hh⟩
theorem ownsRow_base {b b' : Nat} {e : TypeId} {size n : Nat} {xs : List Value} (h : w.ownsRow b e size v n xs) (hb : b' ≤ b) : w.ownsRow b' e size v n xs := by
  refine ⟨h.1, ?_⟩
  rcases h.2 with hn | ⟨g, cap, cur, hv, hg, rest⟩
  · exact .inl hn
  · exact .inr ⟨g, cap, cur, hv, Nat.le_trans hb hg, rest⟩
theorem OwnB.less (h : OwnB w lo hi v l) {lo' : Nat} (hh : lo' ≤ lo) : OwnB w lo' hi v l := ⟨ownsRow_base h.1 hh, h.2⟩
/-- Rows of other element types lie in other blocks. -/
theorem ownsRow_ne {b1 b2 : Nat} {e1 e2 : TypeId} {s1 s2 n1 n2 : Nat} {v1 v2 : Value} {x1 x2 : List Value} (h1 : w.ownsRow b1 e1 s1 v1 n1 x1) (h2 : w.ownsRow b2 e2 s2 v2 n2 x2) (hne : e1 ≠ e2) : v1.ownBlock = none ∨ v1.ownBlock ≠ v2.ownBlock := by
  rcases h1.2 with ⟨rfl, _⟩ | ⟨g, cap, cur, rfl, _, hg, _⟩
  · exact .inl rfl
  · right
    rcases h2.2 with ⟨rfl, _⟩ | ⟨g2, cap2, cur2, rfl, _, hg2, _⟩
    · simp [Value.ownBlock]
    · intro e
      simp only [Value.ownBlock, Option.some.injEq] at e
      subst e
      rw [hg] at hg2
      injection hg2 with h
      injection h with _ h _
      exact hne h
theorem OwnB.linB (h : OwnB w lo hi v l) : LinB w w.heap.size v l := by
  obtain ⟨A, cap, rfl, _, h2, h3, h4⟩ := own_byt h.1
  exact ⟨A, _, cap, rfl, rfl, h2, h3, h4⟩
end

/-- The cells of lines whose bytes lie at the values vs. -/
def linCells (vs : List Value) (ls : List Lin) : List Value := (vs.zip ls).flatMap fun p => [p.1, .bool p.2.2]
/-- The value v owns a row of lines; each line's bytes own a row of theirs between the blocks lo and hi. -/
def OwnLins (w : World) (lo hi : Nat) (v : Value) (ls : List Lin) : Prop :=
  ∃ vs : List Value, vs.length = ls.length ∧ w.ownsRow lo 27 2 v ls.length (linCells vs ls) ∧ ∀ (k : Nat) (x : Value) (y : Lin), vs[k]? = some x → ls[k]? = some y → OwnB w lo hi x y.1
theorem linCells_length (vs : List Value) (ls : List Lin) (h : vs.length = ls.length) : (linCells vs ls).length = ls.length * 2 := by
  induction ls generalizing vs with
  | nil => cases vs <;> simp [linCells]
  | cons x r ih =>
    cases vs with
    | nil => simp at h
    | cons u t =>
      have := ih t (by simpa using h)
      simp only [linCells, List.zip_cons_cons, List.flatMap_cons, List.length_append, List.length_cons, List.length_nil] at this ⊢
      omega
theorem linCells_snoc (vs : List Value) (ls : List Lin) (h : vs.length = ls.length) (u : Value) (x : Lin) : linCells (vs ++ [u]) (ls ++ [x]) = linCells vs ls ++ [u, .bool x.2] := by
  simp [linCells, List.zip_append h]
theorem linCells_at (vs : List Value) (ls : List Lin) (h : vs.length = ls.length) (k : Nat) (hk : k < ls.length) : (linCells vs ls)[k * 2]? = vs[k]? ∧ (linCells vs ls)[k * 2 + 1]? = some (.bool (ls[k]'hk).2) := by
  induction ls generalizing vs k with
  | nil => simp at hk
  | cons x r ih =>
    cases vs with
    | nil => simp at h
    | cons u t =>
      cases k with
      | zero => simp [linCells]
      | succ k =>
        have := ih t (by simpa using h) k (by simpa using hk)
        have e : linCells (u :: t) (x :: r) = u :: .bool x.2 :: linCells t r := by simp [linCells]
        rw [e, show (k + 1) * 2 = k * 2 + 1 + 1 by omega]
        simpa using this
theorem OwnLins.lins {w : World} {lo hi : Nat} {v : Value} {ls : List Lin} (h : OwnLins w lo hi v ls) :
    ∃ A cap, v = .slice A ls.length cap ∧ ls.length ≤ cap ∧ cap ≤ maxLen ∧ Lins w w.heap.size A ls := by
  obtain ⟨vs, hl, hown, hB⟩ := h
  obtain ⟨_, ⟨rfl, h0⟩ | ⟨g, cap, cur, rfl, _, hh, hnc, hcm, hsz, htake⟩⟩ := id hown
  · have : ls = [] := List.eq_nil_of_length_eq_zero h0
    subst this
    exact ⟨none, 0, rfl, Nat.le_refl _, by simp [maxLen], Lins.none_ _ _ _⟩
  · refine ⟨some ⟨g, 0, none⟩, cap, rfl, hnc, hcm, ?_⟩
    intro k hk
    have hlt := (hown.lt g rfl).2
    obtain ⟨h1, h2⟩ := linCells_at vs ls hl k hk
    have hv : vs[k]? = some (vs[k]'(by omega)) := List.getElem?_eq_getElem (by omega)
    obtain ⟨A, c, e, e1, e2, e3, e4⟩ := own_byt (hB k _ _ hv (List.getElem?_eq_getElem hk)).1
    refine ⟨_, vs[k]'(by omega), rfl, hlt, ?_, ?_, A, _, c, e, rfl, e2, e3, e4⟩
    · rw [add_zero_off, hown.cellAt _ (by omega), h1, hv]
    · rw [add_zero_off, hown.cellAt _ (by omega), h2]
theorem OwnLins.nil_ (w : World) (lo hi : Nat) : OwnLins w lo hi (.slice none 0 0) [] := ⟨[], rfl, World.ownsRow_nil _ _ _ _, by simp⟩
/-- What turns no old block but one of another type's row leaves the lines as they were. -/
theorem OwnLins.kept {w w' : World} {lo hi : Nat} {v : Value} {ls : List Lin} (h : OwnLins w lo hi v ls) {row : Option Nat} (hg : w.grownBy w' row) (hv : v.ownBlock = none ∨ v.ownBlock ≠ row) (hr : ∀ k, row = some k → hi ≤ k) : OwnLins w' lo hi v ls := by
  obtain ⟨vs, hl, hown, hB⟩ := h
  refine ⟨vs, hl, hown.kept hg hv, fun k x y hx hy => (hB k x y hx hy).kept hg ?_⟩
  cases hb : x.ownBlock with
  | none => exact .inl rfl
  | some b =>
    right
    intro e
    have h1 := (hB k x y hx hy).2 b hb
    have h2 := hr b e.symm
    omega
theorem OwnLins.more {w : World} {lo hi hi' : Nat} {v : Value} {ls : List Lin} (h : OwnLins w lo hi v ls) (hh : hi ≤ hi') : OwnLins w lo hi' v ls :=
  let ⟨vs, hl, hown, hB⟩ := h; ⟨vs, hl, hown, fun k x y hx hy => (hB k x y hx hy).more hh⟩
theorem OwnLins.of_below {w w' : World} {lo : Nat} {v : Value} {ls : List Lin} (h : OwnLins w lo w.heap.size v ls) (hb : Below w.heap.size w w') : OwnLins w' lo w'.heap.size v ls := by
  have hg := grown_of_below hb
  exact (h.kept hg (by cases v.ownBlock <;> simp) (fun k hk => by cases hk)).more hb.size
/-- A line more, appended. -/
theorem OwnLins.snoc {w w' : World} {lo hi : Nat} {v v' u : Value} {ls : List Lin} {x : Lin} (hu : OwnB w lo hi u x.1) (vs : List Value) (hl : vs.length = ls.length)
    (hB : ∀ (k : Nat) (x : Value) (y : Lin), vs[k]? = some x → ls[k]? = some y → OwnB w lo hi x y.1) (hown : w.ownsRow lo 27 2 v ls.length (linCells vs ls))
    (hg : w.grownBy w' v.ownBlock) (h' : w'.ownsRow lo 27 2 v' (ls.length + 1) (linCells vs ls ++ [u, .bool x.2])) : OwnLins w' lo hi v' (ls ++ [x]) := by
  have hne : 5 ≠ 27 := by decide
  refine ⟨vs ++ [u], by simp [hl], ?_, ?_⟩
  · rw [linCells_snoc vs ls hl, List.length_append]; exact h'
  · intro k a b ha hb
    rcases Nat.lt_or_ge k ls.length with hk | hk
    · rw [List.getElem?_append_left (by omega)] at ha hb
      exact (hB k a b ha hb).kept hg (ownsRow_ne (hB k a b ha hb).1 hown hne)
    · have hk' : k = ls.length := by
        have := (List.getElem?_eq_some_iff.1 hb).1
        simp at this; omega
      subst hk'
      rw [List.getElem?_append_right (by omega)] at ha hb
      simp only [hl, Nat.sub_self, List.getElem?_cons_zero, Option.some.injEq] at ha hb
      subst ha; subst hb
      exact hu.kept hg (ownsRow_ne hu.1 hown hne)
end Go.Proofs.Ytdmbjhgfiofbhaa
