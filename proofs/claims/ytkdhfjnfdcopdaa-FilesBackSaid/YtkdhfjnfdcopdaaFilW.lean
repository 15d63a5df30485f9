/- Files in memory: a slice of files that is read; a table that is owned, whose blocks satisfy a predicate. -/
import Derived.Test.YtkdhfjnfdcopdaaFilA
import Derived.Test.YtkdhfjnfdcopdaaApp
namespace Go.Proofs.Ytkdhfjnfdcopdaa
open Go.RowKit

theorem off_add (a : Addr) (i : Nat) : (⟨(a.add i).block, (a.add i).off + 1, none⟩ : Addr) = a.add (i + 1) := by
  unfold Addr.add; split <;> simp <;> omega
theorem own_base {w : World} {b b' : Nat} {e : TypeId} {size n : Nat} {v : Value} {xs : List Value} (h : w.ownsRow b e size v n xs) (hb : b' ≤ b) : w.ownsRow b' e size v n xs := by
  refine ⟨h.1, ?_⟩
  rcases h.2 with hn | ⟨g, cap, cur, hv, hg, rest⟩
  · exact .inl hn
  · exact .inr ⟨g, cap, cur, hv, Nat.le_trans hb hg, rest⟩

/-! ### Bytes, in blocks of a kind -/
/-- In the world w the slice that begins at A holds the bytes l, all of them in blocks of the kind Q. -/
def BytQ (w : World) (Q : Nat → Prop) (A : Option Addr) (l : List UInt8) : Prop :=
  ∀ (k : Nat) (h : k < l.length), ∃ ad, A = some ad ∧ Q ad.block ∧ w.cell? (ad.add k) = some (.int .u8 ((l[k]'h).toNat : Int))
def FilB (w : World) (Q : Nat → Prop) (v : Value) (l : List UInt8) : Prop :=
  ∃ (A : Option Addr) (n cap : Nat), v = .slice A n cap ∧ n = l.length ∧ n ≤ cap ∧ cap ≤ maxLen ∧ BytQ w Q A l
/-- In the world w the slice that begins at A holds the files fs, two cells each, all of them in blocks of the kind Q. -/
def Fils (w : World) (Q : Nat → Prop) (A : Option Addr) (fs : List Fil) : Prop :=
  ∀ (k : Nat) (h : k < fs.length), ∃ ad v, A = some ad ∧ Q ad.block ∧ w.cell? (ad.add (k * 2)) = some (.string (fs[k]'h).1) ∧ w.cell? (ad.add (k * 2 + 1)) = some v ∧ FilB w Q v (fs[k]'h).2
/-- A slice of slices of bytes. -/
def Bss (w : World) (Q : Nat → Prop) (A : Option Addr) (ls : List (List UInt8)) : Prop :=
  ∀ (k : Nat) (h : k < ls.length), ∃ ad v, A = some ad ∧ Q ad.block ∧ w.cell? (ad.add k) = some v ∧ FilB w Q v (ls[k]'h)
section
variable {w w' : World} {Q Q' : Nat → Prop} {A : Option Addr} {fs : List Fil} {ls : List (List UInt8)} {v : Value} {l : List UInt8}
theorem BytQ.byt (h : BytQ w Q A l) : Byt w w.heap.size A l := fun k hk =>
  let ⟨ad, hA, _, hc⟩ := h k hk
  ⟨ad, hA, by have := World.block_lt_of_cell? w _ hc; rwa [block_add] at this, hc⟩
theorem BytQ.bytB {B : Nat} (h : BytQ w (· < B) A l) : Byt w B A l := h
theorem Byt.q {B : Nat} (h : Byt w B A l) (hQ : ∀ k, k < B → Q k) : BytQ w Q A l := fun k hk =>
  let ⟨ad, hA, hb, hc⟩ := h k hk
  ⟨ad, hA, hQ _ hb, hc⟩
theorem BytQ.keep (h : BytQ w Q A l) (hk : ∀ p : Addr, Q p.block → p.block < w.heap.size → w'.cell? p = w.cell? p) (hq : ∀ k, Q k → k < w.heap.size → Q' k) : BytQ w' Q' A l := fun k hlt =>
  let ⟨ad, hA, hb, hc⟩ := h k hlt
  have hlt := World.block_lt_of_cell? w _ hc
  ⟨ad, hA, hq _ hb (by rwa [block_add] at hlt), (hk _ (by rw [block_add]; exact hb) hlt).trans hc⟩
theorem FilB.keep (h : FilB w Q v l) (hk : ∀ p : Addr, Q p.block → p.block < w.heap.size → w'.cell? p = w.cell? p) (hq : ∀ k, Q k → k < w.heap.size → Q' k) : FilB w' Q' v l :=
  let ⟨A, n, cap, h1, h2, h3, h4, h5⟩ := h; ⟨A, n, cap, h1, h2, h3, h4, h5.keep hk hq⟩
theorem Fils.keep (h : Fils w Q A fs) (hk : ∀ p : Addr, Q p.block → p.block < w.heap.size → w'.cell? p = w.cell? p) (hq : ∀ k, Q k → k < w.heap.size → Q' k) : Fils w' Q' A fs := fun k hlt =>
  let ⟨ad, v, hA, hb, hc, hd, hB⟩ := h k hlt
  have h1 := World.block_lt_of_cell? w _ hc
  have h2 := World.block_lt_of_cell? w _ hd
  ⟨ad, v, hA, hq _ hb (by rwa [block_add] at h1), (hk _ (by rw [block_add]; exact hb) h1).trans hc, (hk _ (by rw [block_add]; exact hb) h2).trans hd, hB.keep hk hq⟩
theorem Bss.keep (h : Bss w Q A ls) (hk : ∀ p : Addr, Q p.block → p.block < w.heap.size → w'.cell? p = w.cell? p) (hq : ∀ k, Q k → k < w.heap.size → Q' k) : Bss w' Q' A ls := fun k hlt =>
  let ⟨ad, v, hA, hb, hc, hB⟩ := h k hlt
  have h1 := World.block_lt_of_cell? w _ hc
  ⟨ad, v, hA, hq _ hb (by rwa [block_add] at h1), (hk _ (by rw [block_add]; exact hb) h1).trans hc, hB.keep hk hq⟩
theorem Fils.below (h : Fils w Q A fs) (hb : Below w.heap.size w w') : Fils w' Q A fs := h.keep (fun _ _ hp => hb.cell hp) (fun _ hq _ => hq)
theorem Bss.below (h : Bss w Q A ls) (hb : Below w.heap.size w w') : Bss w' Q A ls := h.keep (fun _ _ hp => hb.cell hp) (fun _ hq _ => hq)
theorem Fils.mono (h : Fils w Q A fs) (hq : ∀ k, Q k → k < w.heap.size → Q' k) : Fils w Q' A fs := h.keep (fun _ _ _ => rfl) hq
theorem Bss.mono (h : Bss w Q A ls) (hq : ∀ k, Q k → k < w.heap.size → Q' k) : Bss w Q' A ls := h.keep (fun _ _ _ => rfl) hq
theorem Fils.belowB {B : Nat} (h : Fils w (· < B) A fs) (hb : Below B w w') : Fils w' (· < B) A fs := h.keep (fun _ hp _ => hb.cell hp) (fun _ hq _ => hq)
theorem Bss.belowB {B : Nat} (h : Bss w (· < B) A ls) (hb : Below B w w') : Bss w' (· < B) A ls := h.keep (fun _ hp _ => hb.cell hp) (fun _ hq _ => hq)
theorem Fils.none_ (w : World) (Q : Nat → Prop) (A : Option Addr) : Fils w Q A [] := fun _ h => absurd h (by simp)
theorem Fils.at_ (h : Fils w Q A fs) {k : Nat} (hk : k < fs.length) : ∃ ad A' n cap, A = some ad ∧ ad.block < w.heap.size ∧ w.cell? (ad.add (k * 2)) = some (.string (fs[k]'hk).1) ∧ w.cell? ⟨(ad.add (k * 2)).block, (ad.add (k * 2)).off + 1, none⟩ = some (.slice A' n cap) ∧
    n = (fs[k]'hk).2.length ∧ n ≤ cap ∧ cap ≤ maxLen ∧ BytQ w Q A' (fs[k]'hk).2 := by
  obtain ⟨ad, v, h1, h2, h3, h4, A', n, cap, rfl, h5, h6, h7, h8⟩ := h k hk
  have hlt := World.block_lt_of_cell? w _ h3
  rw [block_add] at hlt
  exact ⟨ad, A', n, cap, h1, hlt, h3, by rw [off_add]; exact h4, h5, h6, h7, h8⟩
theorem Bss.at_ (h : Bss w Q A ls) {k : Nat} (hk : k < ls.length) : ∃ ad A' n cap, A = some ad ∧ ad.block < w.heap.size ∧ w.cell? (ad.add k) = some (.slice A' n cap) ∧
    n = (ls[k]'hk).length ∧ n ≤ cap ∧ cap ≤ maxLen ∧ BytQ w Q A' (ls[k]'hk) := by
  obtain ⟨ad, v, h1, h2, h3, A', n, cap, rfl, h5, h6, h7, h8⟩ := h k hk
  have hlt := World.block_lt_of_cell? w _ h3
  rw [block_add] at hlt
  exact ⟨ad, A', n, cap, h1, hlt, h3, h5, h6, h7, h8⟩
end

/-! ### What is owned -/
/-- The bytes l, in a row of their own in a block of the kind F. -/
def OwnF (w : World) (F : Nat → Prop) (v : Value) (l : List UInt8) : Prop :=
  w.ownsRow 0 5 1 v l.length (bv l) ∧ ∀ k, v.ownBlock = some k → F k
/-- What turned no block of the kind F. -/
structure Fr (F : Nat → Prop) (w w' : World) : Prop where
  os : w'.os = w.os
  tape : w'.tape = w.tape
  output : w'.output = w.output
  size : w.heap.size ≤ w'.heap.size
  block : ∀ k, k < w.heap.size → ¬ F k → w'.heap[k]? = w.heap[k]?
section
variable {w w1 w' : World} {F F' : Nat → Prop} {v : Value} {l : List UInt8}
theorem Fr.refl (F : Nat → Prop) (w : World) : Fr F w w := ⟨rfl, rfl, rfl, Nat.le_refl _, fun _ _ _ => rfl⟩
theorem Fr.trans (h : Fr F w w1) (k : Fr F w1 w') : Fr F w w' :=
  ⟨k.os.trans h.os, k.tape.trans h.tape, k.output.trans h.output, Nat.le_trans h.size k.size, fun i hi hn => (k.block i (Nat.lt_of_lt_of_le hi h.size) hn).trans (h.block i hi hn)⟩
theorem Fr.below {B : Nat} (h : Fr F w w') (hF : ∀ k, k < w.heap.size → F k → B ≤ k) (hB : B ≤ w.heap.size) : Below B w w' :=
  ⟨h.os, h.tape, h.output, h.size, fun k hk => h.block k (Nat.lt_of_lt_of_le hk hB) fun hf => by have := hF k (Nat.lt_of_lt_of_le hk hB) hf; omega⟩
theorem Fr.of_below (h : Below w.heap.size w w') : Fr F w w' := ⟨h.os, h.tape, h.output, h.size, fun k hk _ => h.block k hk⟩
theorem Fr.mono (h : Fr F w w') (hF : ∀ k, k < w.heap.size → F k → F' k) : Fr F' w w' := ⟨h.os, h.tape, h.output, h.size, fun k hk hn => h.block k hk fun hf => hn (hF k hk hf)⟩
theorem Fr.cell (h : Fr F w w') {p : Addr} (hp : p.block < w.heap.size) (hn : ¬ F p.block) : w'.cell? p = w.cell? p := World.cell?_of_block (w := w) (h.block p.block hp hn)
theorem Fr.grown {row : Option Nat} (hg : w.grownBy w' row) (hF : ∀ k, row = some k → F k) : Fr F w w' :=
  ⟨hg.os, hg.tape, hg.output, hg.size, fun k hk hn => hg.block k hk fun e => hn (hF k e.symm)⟩
theorem Fr.setCell (p : Addr) (u : Value) (hF : F p.block) : Fr F w (w.setCell p u) := by
  have hb : Below 0 w (w.setCell p u) := (Below.refl 0 w).setCell (Nat.zero_le _) u
  exact ⟨hb.os, hb.tape, hb.output, hb.size, fun k _ hn => Below.heap_setCell w p u k fun e => hn (e ▸ hF)⟩
theorem OwnF.kept (h : OwnF w F v l) (hk : ∀ k, v.ownBlock = some k → w'.heap[k]? = w.heap[k]?) (hF : ∀ k, v.ownBlock = some k → F k → F' k) : OwnF w' F' v l := by
  refine ⟨⟨h.1.1, ?_⟩, fun k hv => hF k hv (h.2 k hv)⟩
  rcases h.1.2 with hn | ⟨g, cap, cur, rfl, hb, hg, rest⟩
  · exact .inl hn
  · exact .inr ⟨g, cap, cur, rfl, hb, (hk g rfl).trans hg, rest⟩
theorem OwnF.lt (h : OwnF w F v l) {k : Nat} (hk : v.ownBlock = some k) : k < w.heap.size := (h.1.lt k hk).2
theorem OwnF.filB (h : OwnF w F v l) : FilB w F v l := by
  obtain ⟨hl, ⟨rfl, h0⟩ | ⟨g, cap, cur, rfl, _, hh, hnc, hcm, hsz, htake⟩⟩ := id h.1
  · have : l = [] := List.eq_nil_of_length_eq_zero h0
    subst this
    exact ⟨none, 0, 0, rfl, rfl, Nat.le_refl _, by simp [maxLen], fun _ h => absurd h (by simp)⟩
  · refine ⟨some ⟨g, 0, none⟩, l.length, cap, rfl, rfl, hnc, hcm, ?_⟩
    intro k hk
    refine ⟨_, rfl, h.2 g rfl, ?_⟩
    rw [add_zero_off, h.1.cellAt k (by omega)]
    simp [bv, hk]
/-- Rows of other element types lie in other blocks. -/
theorem own_ne {b1 b2 : Nat} {e1 e2 : TypeId} {s1 s2 n1 n2 : Nat} {v1 v2 : Value} {x1 x2 : List Value} (h1 : w.ownsRow b1 e1 s1 v1 n1 x1) (h2 : w.ownsRow b2 e2 s2 v2 n2 x2) (hne : e1 ≠ e2) {k : Nat} (e : v1.ownBlock = some k) : v2.ownBlock ≠ some k := by
  intro e'
  rcases h1.2 with ⟨rfl, _⟩ | ⟨g, cap, cur, rfl, _, hg, _⟩
  · cases e
  · rcases h2.2 with ⟨rfl, _⟩ | ⟨g2, cap2, cur2, rfl, _, hg2, _⟩
    · cases e'
    · injection e with e
      injection e' with e'
      have e1 : g = k := e
      have e2 : g2 = k := e'
      subst e1
      subst e2
      rw [hg] at hg2
      injection hg2 with h
      injection h with _ h _
      exact hne h
theorem own_ne_obj {b1 : Nat} {e1 e2 : TypeId} {s1 n1 : Nat} {v1 : Value} {x1 : List Value} {cs : Array Value} {fr : Nat × Nat} {T : Nat} (h1 : w.ownsRow b1 e1 s1 v1 n1 x1) (h2 : w.heap[T]? = some (.cells cs e2 fr)) (hne : e1 ≠ e2) : v1.ownBlock ≠ some T := by
  intro e
  rcases h1.2 with ⟨rfl, _⟩ | ⟨g, cap, cur, rfl, _, hg, _⟩
  · cases e
  · injection e with e
    have e1 : g = T := e
    subst e1
    rw [hg] at h2
    injection h2 with h
    injection h with _ h _
    exact hne h
end

/-- The cells of files whose bytes lie at the values vs. -/
def filCells (vs : List Value) (fs : List Fil) : List Value := (vs.zip fs).flatMap fun p => [.string p.2.1, p.1]
theorem filCells_length (vs : List Value) (fs : List Fil) (h : vs.length = fs.length) : (filCells vs fs).length = fs.length * 2 := by
  induction fs generalizing vs with
  | nil => cases vs <;> simp [filCells]
  | cons x r ih =>
    cases vs with
    | nil => simp at h
    | cons u t =>
      have := ih t (by simpa using h)
      simp only [filCells, List.zip_cons_cons, List.flatMap_cons, List.length_append, List.length_cons, List.length_nil] at this ⊢
      omega
theorem filCells_snoc (vs : List Value) (fs : List Fil) (h : vs.length = fs.length) (u : Value) (x : Fil) : filCells (vs ++ [u]) (fs ++ [x]) = filCells vs fs ++ [.string x.1, u] := by
  simp [filCells, List.zip_append h]
theorem filCells_at (vs : List Value) (fs : List Fil) (h : vs.length = fs.length) (k : Nat) (hk : k < fs.length) : (filCells vs fs)[k * 2]? = some (.string (fs[k]'hk).1) ∧ (filCells vs fs)[k * 2 + 1]? = vs[k]? := by
  induction fs generalizing vs k with
  | nil => simp at hk
  | cons x r ih =>
    cases vs with
    | nil => simp at h
    | cons u t =>
      cases k with
      | zero => simp [filCells]
      | succ k =>
        have := ih t (by simpa using h) k (by simpa using hk)
        have e : filCells (u :: t) (x :: r) = .string x.1 :: u :: filCells t r := by simp [filCells]
        rw [e, show (k + 1) * 2 = k * 2 + 1 + 1 by omega]
        simpa using this
theorem filCells_set (vs : List Value) (fs : List Fil) (h : vs.length = fs.length) (k : Nat) (hk : k < fs.length) (u : Value) (l : List UInt8) : filCells (vs.set k u) (fs.set k ((fs[k]'hk).1, l)) = (filCells vs fs).set (k * 2 + 1) u := by
  induction fs generalizing vs k with
  | nil => simp at hk
  | cons x r ih =>
    cases vs with
    | nil => simp at h
    | cons y t =>
      cases k with
      | zero => simp [filCells]
      | succ k =>
        have := ih t (by simpa using h) k (by simpa using hk)
        have e : ∀ (u : Value) (x : Fil) t r, filCells (u :: t) (x :: r) = .string x.1 :: u :: filCells t r := fun u x t r => by simp [filCells]
        rw [List.set_cons_succ, List.set_cons_succ, e, e, show (k + 1) * 2 + 1 = (k * 2 + 1) + 1 + 1 by omega, List.set_cons_succ, List.set_cons_succ]
        congr 2

/-- The files fs lie at the values vs in the row of v; all blocks are of the kind F, and no two files share one. -/
structure Row (w : World) (F : Nat → Prop) (v : Value) (vs : List Value) (fs : List Fil) : Prop where
  len : vs.length = fs.length
  own : w.ownsRow 0 52 2 v fs.length (filCells vs fs)
  kind : ∀ k, v.ownBlock = some k → F k
  each : ∀ (k : Nat) (x : Value) (y : Fil), vs[k]? = some x → fs[k]? = some y → OwnF w F x y.2
  apart : ∀ (i j : Nat) (x y : Value) (b : Nat), vs[i]? = some x → vs[j]? = some y → x.ownBlock = some b → y.ownBlock = some b → i = j
/-- The table at block T. -/
structure TabAt (w : World) (F : Nat → Prop) (T : Nat) (v : Value) (vs : List Value) (fs : List Fil) : Prop where
  kind : F T
  cell : w.heap[T]? = some (.cells #[v] 60 (0, 0))
  row : Row w F v vs fs
def Tab (w : World) (F : Nat → Prop) (T : Nat) (fs : List Fil) : Prop := ∃ v vs, TabAt w F T v vs fs
section
variable {w w' : World} {F F' : Nat → Prop} {T : Nat} {v : Value} {vs : List Value} {fs : List Fil}
theorem Row.kept (h : Row w F v vs fs) (hk : ∀ k, k < w.heap.size → F k → w'.heap[k]? = w.heap[k]?) (hF : ∀ k, k < w.heap.size → F k → F' k) : Row w' F' v vs fs := by
  refine ⟨h.len, ⟨h.own.1, ?_⟩, fun k e => hF k (h.own.lt k e).2 (h.kind k e), fun k x y hx hy => (h.each k x y hx hy).kept (fun b e => hk b ((h.each k x y hx hy).lt e) ((h.each k x y hx hy).2 b e)) (fun b e f => hF b ((h.each k x y hx hy).lt e) f), h.apart⟩
  rcases h.own.2 with hn | ⟨g, cap, cur, rfl, hb, hg, rest⟩
  · exact .inl hn
  · exact .inr ⟨g, cap, cur, rfl, hb, (hk g (h.own.lt g rfl).2 (h.kind g rfl)).trans hg, rest⟩
theorem TabAt.lt (h : TabAt w F T v vs fs) : T < w.heap.size := (Array.getElem?_eq_some_iff.1 h.cell).1
theorem TabAt.kept (h : TabAt w F T v vs fs) (hk : ∀ k, k < w.heap.size → F k → w'.heap[k]? = w.heap[k]?) (hF : ∀ k, k < w.heap.size → F k → F' k) : TabAt w' F' T v vs fs :=
  ⟨hF T h.lt h.kind, (hk T h.lt h.kind).trans h.cell, h.row.kept hk hF⟩
theorem Tab.kept (h : Tab w F T fs) (hk : ∀ k, k < w.heap.size → F k → w'.heap[k]? = w.heap[k]?) (hF : ∀ k, k < w.heap.size → F k → F' k) : Tab w' F' T fs :=
  let ⟨v, vs, h⟩ := h; ⟨v, vs, h.kept hk hF⟩
theorem Row.below (h : Row w F v vs fs) (hb : Below w.heap.size w w') : Row w' F v vs fs := h.kept (fun k hk _ => hb.block k hk) (fun _ _ f => f)
theorem TabAt.below (h : TabAt w F T v vs fs) (hb : Below w.heap.size w w') : TabAt w' F T v vs fs := h.kept (fun k hk _ => hb.block k hk) (fun _ _ f => f)
theorem Tab.below (h : Tab w F T fs) (hb : Below w.heap.size w w') : Tab w' F T fs := h.kept (fun k hk _ => hb.block k hk) (fun _ _ f => f)
theorem Row.fils (h : Row w F v vs fs) : ∃ A cap, v = .slice A fs.length cap ∧ fs.length ≤ cap ∧ cap ≤ maxLen ∧ Fils w F A fs := by
  obtain ⟨hl, hown, hkind, hB, -⟩ := h
  obtain ⟨_, ⟨rfl, h0⟩ | ⟨g, cap, cur, rfl, _, hh, hnc, hcm, hsz, htake⟩⟩ := id hown
  · have : fs = [] := List.eq_nil_of_length_eq_zero h0
    subst this
    exact ⟨none, 0, rfl, Nat.le_refl _, by simp [maxLen], Fils.none_ _ _ _⟩
  · refine ⟨some ⟨g, 0, none⟩, cap, rfl, hnc, hcm, ?_⟩
    intro k hk
    obtain ⟨h1, h2⟩ := filCells_at vs fs hl k hk
    have hv : vs[k]? = some (vs[k]'(by omega)) := List.getElem?_eq_getElem (by omega)
    refine ⟨_, vs[k]'(by omega), rfl, hkind g rfl, ?_, ?_, (hB k _ _ hv (List.getElem?_eq_getElem hk)).filB⟩
    · rw [add_zero_off, hown.cellAt _ (by omega), h1]
    · rw [add_zero_off, hown.cellAt _ (by omega), h2, hv]
theorem TabAt.slot (h : TabAt w F T v vs fs) : w.cell? ⟨T, 0, none⟩ = some v := by rw [cell_of_row w T 0 #[v] _ _ h.cell]; rfl
theorem Row.nil_ (w : World) (F : Nat → Prop) : Row w F (.slice none 0 0) [] [] := ⟨rfl, World.ownsRow_nil _ _ _ _, fun _ h => (by cases h), fun k x y h => by simp at h, fun i j x y b h => by simp at h⟩
end
end Go.Proofs.Ytkdhfjnfdcopdaa
