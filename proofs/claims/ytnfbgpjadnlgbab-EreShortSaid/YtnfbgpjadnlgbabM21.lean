/- Basic regular expressions, told as a machine on a text: its places, what it puts, where it ends. -/
import Derived.Test.YtnfbgpjadnlgbabM17
import Derived.Test.YtnfbgpjadnlgbabM18
import Derived.Test.YtnfbgpjadnlgbabM19
import Derived.Test.YtnfbgpjadnlgbabM20
set_option linter.unusedVariables false
set_option maxRecDepth 100000
namespace Go.Proofs.Ytnfbgpjadnlgbab
open Go.RowKit

/-- Where it stands: at a branch's beginning, ahead of a piece, behind an atom. -/
inductive Ct
  | B
  | L
  | P (x : Int)
structure Cf where
  ct : Ct
  i : Nat
  ns : List Nod
  g : Nat
  cl : Nat → Bool
  ps : List Int
  lv : List (Nat × List Int)
inductive Rs
  | go (c : Cf)
  | bad (i e : Nat)
  | fin (ns : List Nod) (g : Nat)
/-- A node more, if there is room; else what is wrong, at i. -/
def putS (ns : List Nod) (i : Nat) (n : Nod) (k : Int → List Nod → Rs) : Rs := if ns.length < 1000 then k (ns.length : Int) (ns ++ [n]) else .bad i 8
/-- Pieces put together. -/
def catGo : Int → List Nod → List Int → Option (Int × List Nod)
  | x, ns, [] => some (x, ns)
  | x, ns, p :: r => if ns.length < 1000 then catGo (ns.length : Int) (ns ++ [twoN 2 x p]) r else none
def catS (ns : List Nod) : List Int → Option (Int × List Nod)
  | [] => if ns.length < 1000 then some ((ns.length : Int), ns ++ [emptyN]) else none
  | x :: r => catGo x ns r
theorem catGo_nil (x : Int) (ns : List Nod) : catGo x ns [] = some (x, ns) := rfl
theorem catGo_cons (x : Int) (ns : List Nod) (p : Int) (r : List Int) : catGo x ns (p :: r) = if ns.length < 1000 then catGo (ns.length : Int) (ns ++ [twoN 2 x p]) r else none := rfl
theorem catS_nil (ns : List Nod) : catS ns [] = if ns.length < 1000 then some ((ns.length : Int), ns ++ [emptyN]) else none := rfl
theorem catS_cons (ns : List Nod) (x : Int) (r : List Int) : catS ns (x :: r) = catGo x ns r := rfl
def allS : Nat → Bool := fun c => !(ofL [] c)
/-- The numbers of the interval that b begins with, and how many bytes it takes. -/
def ivB (b : List UInt8) : Option (Int × Int × Nat) :=
  if (numS b 2 255).2.2 ≠ 0 then none else
  if bg [44, 92, 125] (b.drop (numS b 2 255).2.1.toNat) then some ((numS b 2 255).1, -1, (numS b 2 255).2.1.toNat + 3) else
  if bg [44] (b.drop (numS b 2 255).2.1.toNat) then
    if (numS b ((numS b 2 255).2.1 + 1) 255).2.2 ≠ 0 ∨ (numS b ((numS b 2 255).2.1 + 1) 255).1 < (numS b 2 255).1 then none else
    if bg [92, 125] (b.drop (numS b ((numS b 2 255).2.1 + 1) 255).2.1.toNat) then some ((numS b 2 255).1, (numS b ((numS b 2 255).2.1 + 1) 255).1, (numS b ((numS b 2 255).2.1 + 1) 255).2.1.toNat + 2) else none
  else if bg [92, 125] (b.drop (numS b 2 255).2.1.toNat) then some ((numS b 2 255).1, (numS b 2 255).1, (numS b 2 255).2.1.toNat + 2) else none
/-- The numbers of an interval at i, and the place behind it. -/
def ivl (t : List UInt8) (i : Nat) : Option (Int × Int × Nat) := (ivB (t.drop i)).map fun x => (x.1, x.2.1, i + x.2.2)
/-- What an atom is. -/
inductive Am
  | bad (e : Nat)
  | opn
  | bak (q : Nat)
  | nod (j : Nat) (n : Nod)
def isAl (c : UInt8) : Bool := cAlnum (c.toNat : Int)
def escA (i : Nat) : List UInt8 → Am
  | [] => .bad 10
  | c :: _ => if c = 40 then .opn else if c = 41 then .bad 14 else if c = 123 then .bad 13 else if c = 110 then .nod (i + 2) (setN (ofL [10]))
    else if 49 ≤ c ∧ c ≤ 57 then .bak (c.toNat - 48) else if isAl c then .bad 10 else .nod (i + 2) (setN (ofL [c]))
def brkA (t : List UInt8) (i : Nat) : Am := match readB t (i + 1) with
  | .error e => .bad e
  | .ok (f, j) => .nod j (setN f)
def atomR (t : List UInt8) (i : Nat) : List UInt8 → Am
  | [] => .bad 0
  | c :: r => if c = 92 then escA i r else if c = 91 then brkA t i else if c = 46 then .nod (i + 1) (setN allS)
    else if c = 36 ∧ (r = [] ∨ bg [92, 41] r = true) then .nod (i + 1) eolN else .nod (i + 1) (setN (ofL [c]))
def atomA (t : List UInt8) (i : Nat) : Am := atomR t i (t.drop i)
def setQ (cl : Nat → Bool) (q : Nat) : Nat → Bool := fun x => if x = q then true else cl x

def stepB (t : List UInt8) (c : Cf) : Rs :=
  if bg [94] (t.drop c.i) then putS c.ns (c.i + 1) bolN fun x ns => .go ⟨.L, c.i + 1, ns, c.g, c.cl, [x], c.lv⟩
  else .go ⟨.L, c.i, c.ns, c.g, c.cl, [], c.lv⟩
def stepP (t : List UInt8) (c : Cf) (x : Int) : Rs :=
  if bg [42] (t.drop c.i) then putS c.ns (c.i + 1) (repN x 0 (-1)) fun y ns => .go ⟨.P y, c.i + 1, ns, c.g, c.cl, c.ps, c.lv⟩
  else if bg [92, 123] (t.drop c.i) then match ivl t c.i with
    | none => .bad c.i 13
    | some (lo, hi, j) => putS c.ns j (repN x lo hi) fun y ns => .go ⟨.P y, j, ns, c.g, c.cl, c.ps, c.lv⟩
  else .go ⟨.L, c.i, c.ns, c.g, c.cl, c.ps ++ [x], c.lv⟩
def stepA (c : Cf) : Am → Rs
  | .bad e => .bad c.i e
  | .opn => if c.g < 9 then .go ⟨.B, c.i + 2, c.ns, c.g + 1, c.cl, [], (c.g + 1, c.ps) :: c.lv⟩ else .bad c.i 17
  | .bak q => if c.cl q then putS c.ns (c.i + 2) (backN (q : Int)) fun x ns => .go ⟨.P x, c.i + 2, ns, c.g, c.cl, c.ps, c.lv⟩ else .bad c.i 16
  | .nod j n => putS c.ns j n fun x ns => .go ⟨.P x, j, ns, c.g, c.cl, c.ps, c.lv⟩
def stepL (t : List UInt8) (c : Cf) : Rs :=
  match c.lv with
  | [] => if t.length ≤ c.i then (match catS c.ns c.ps with | none => .bad c.i 8 | some (_, ns) => .fin ns c.g) else stepA c (atomA t c.i)
  | (q, ps) :: lv => if t.length ≤ c.i then .bad c.i 14 else
    if bg [92, 41] (t.drop c.i) then (match catS c.ns c.ps with
      | none => .bad c.i 8
      | some (x, ns) => putS ns (c.i + 2) (groupN (q : Int) x) fun y ns => .go ⟨.P y, c.i + 2, ns, c.g, setQ c.cl q, ps, lv⟩)
    else stepA c (atomA t c.i)
def step (t : List UInt8) (c : Cf) : Rs := match c.ct with
  | .B => stepB t c
  | .L => stepL t c
  | .P x => stepP t c x
inductive Steps (t : List UInt8) : Cf → Cf → Prop
  | refl (c : Cf) : Steps t c c
  | head {c c1 c2 : Cf} (h : step t c = .go c1) (k : Steps t c1 c2) : Steps t c c2
theorem Steps.trans {t : List UInt8} {a b c : Cf} (h : Steps t a b) (k : Steps t b c) : Steps t a c := by
  induction h with
  | refl => exact k
  | head h1 _ ih => exact .head h1 (ih k)
theorem Steps.one {t : List UInt8} {a b : Cf} (h : step t a = .go b) : Steps t a b := .head h (.refl b)
theorem Steps.snoc {t : List UInt8} {a b c : Cf} (h : Steps t a b) (k : step t b = .go c) : Steps t a c := h.trans (.one k)
/-- It ends so. -/
def Ends (t : List UInt8) (c : Cf) (r : Rs) : Prop := ∃ c', Steps t c c' ∧ step t c' = r ∧ ∀ c2, r ≠ .go c2
theorem Ends.det {t : List UInt8} {c : Cf} {r s : Rs} (h : Ends t c r) (k : Ends t c s) : r = s := by
  obtain ⟨c1, h1, h2, h3⟩ := h
  obtain ⟨c2, k1, k2, k3⟩ := k
  induction h1 with
  | refl =>
    cases k1 with
    | refl => rw [← h2, ← k2]
    | head q _ => rw [q] at h2; exact absurd h2.symm (h3 _)
  | head q _ ih =>
    cases k1 with
    | refl => rw [q] at k2; exact absurd k2.symm (k3 _)
    | head q' k1 => rw [q] at q'; injection q' with q'; subst q'; exact ih h2 k1
theorem Steps.ends {t : List UInt8} {a b : Cf} {r : Rs} (h : Steps t a b) (k : Ends t b r) : Ends t a r := by
  obtain ⟨c, k1, k2⟩ := k
  exact ⟨c, h.trans k1, k2⟩
theorem Ends.bad {t : List UInt8} {c : Cf} {i e : Nat} (h : step t c = .bad i e) : Ends t c (.bad i e) := ⟨c, .refl c, h, fun _ => by simp⟩
theorem Ends.fin {t : List UInt8} {c : Cf} {ns : List Nod} {g : Nat} (h : step t c = .fin ns g) : Ends t c (.fin ns g) := ⟨c, .refl c, h, fun _ => by simp⟩
def cf0 : Cf := ⟨.B, 0, [], 0, fun _ => false, [], []⟩

/-! ### What fits -/
theorem fits_rep {x lo hi t g : Int} (hx : okP t x = true) (ht : timesN lo hi = true) : fitsN (repN x lo hi) t g = true := by
  unfold fitsN
  rw [show partsN (repN x lo hi) = [x] from rfl, show wantedN (repN x lo hi) = repN x lo hi from rfl, sameN_self]
  simp [repN, hx, ht]
theorem fits_group {x q t g : Int} (hx : okP t x = true) (h1 : 1 ≤ q) (h2 : q ≤ g) : fitsN (groupN q x) t g = true := by
  unfold fitsN
  rw [show partsN (groupN q x) = [x] from rfl, show wantedN (groupN q x) = groupN q x from rfl, sameN_self]
  simp [groupN, hx, h1, h2]
theorem fits_back {q t g : Int} (h1 : 1 ≤ q) (h2 : q ≤ g) : fitsN (backN q) t g = true := by
  unfold fitsN
  rw [show partsN (backN q) = [] from rfl, show wantedN (backN q) = backN q from rfl, sameN_self]
  simp [backN, h1, h2]
theorem okP_more {t t' p : Int} (h : okP t p = true) (ht : t ≤ t') : okP t' p = true := by
  simp only [okP, Bool.and_eq_true, decide_eq_true_eq] at h ⊢; omega
theorem okP_last (n : Nat) : okP ((n + 1 : Nat) : Int) (n : Int) = true := okP_yes (by omega) (by omega)
theorem fitsN_more {n : Nod} {t g g' : Int} (h : fitsN n t g = true) (hg : g ≤ g') : fitsN n t g' = true := by
  unfold fitsN at h ⊢
  simp only [Bool.and_eq_true, Bool.or_eq_true, decide_eq_true_eq] at h ⊢
  obtain ⟨h1, h2, h3, h4⟩ := h
  refine ⟨h1, h2, h3.imp id (fun h => ⟨h.1, by omega⟩), h4⟩

/-- The pieces put together, by the builder's words. -/
theorem chain_cat (g : Nat) : ∀ (r : List Int) (x : Int) (ns : List Nod), okP (ns.length : Int) x = true → (∀ p ∈ r, okP (ns.length : Int) p = true) →
    (∀ y ns', catGo x ns r = some (y, ns') → chainGo g 2 x ns r = (y, ns')) ∧ (catGo x ns r = none → (chainGo g 2 x ns r).1 = -1)
  | [], x, ns, _, _ => by
    rw [catGo_nil]
    refine ⟨fun y ns' h => ?_, fun h => by cases h⟩
    rw [chainGo]
    exact Option.some.inj h
  | p :: r, x, ns, hx, hp => by
    have hf : fitsN (twoN 2 x p) (ns.length : Int) (g : Int) = true := by rw [fits_two 2 (.inl rfl), hx, hp p (by simp)]; rfl
    rw [catGo_cons, chainGo]
    by_cases hl : ns.length < 1000
    · rw [if_pos hl, if_pos (canPut_of hl hf)]
      exact chain_cat g r _ _ (by rw [List.length_append]; exact okP_last _) fun q hq => okP_more (hp q (by simp [hq])) (by rw [List.length_append]; simp; omega)
    · rw [if_neg hl, if_neg (by rw [canPut_full (by omega)]; decide)]
      exact ⟨fun y ns' h => (by cases h), fun _ => rfl⟩
theorem catR_some {ns : List Nod} {g : Nat} {ps : List Int} {y : Int} {ns' : List Nod} (hp : ∀ p ∈ ps, okP (ns.length : Int) p = true) (h : catS ns ps = some (y, ns')) : catR ns g ps = (y, ns') := by
  cases ps with
  | nil =>
    rw [catS_nil] at h
    split at h
    · rename_i hl
      simp only [Option.some.injEq, Prod.mk.injEq] at h
      have hc : canPut ns g emptyN = true := canPut_of hl (fits_plain 0 (.inl rfl) _ _)
      unfold catR
      rw [if_pos rfl, putI_yes hc, putL_yes hc, h.1, h.2]
    · cases h
  | cons x r =>
    have hx := hp x (by simp)
    unfold catR chainN
    rw [if_neg (by simp)]
    simp only [hx, if_true]
    exact (chain_cat g r x ns hx fun p hq => hp p (by simp [hq])).1 y ns' h
theorem catR_none {ns : List Nod} {g : Nat} {ps : List Int} (hp : ∀ p ∈ ps, okP (ns.length : Int) p = true) (h : catS ns ps = none) : (catR ns g ps).1 = -1 := by
  cases ps with
  | nil =>
    rw [catS_nil] at h
    split at h
    · cases h
    · rename_i hl
      unfold catR
      rw [if_pos rfl, putI_no (canPut_full (by omega))]
  | cons x r =>
    have hx := hp x (by simp)
    unfold catR chainN
    rw [if_neg (by simp)]
    simp only [hx, if_true]
    exact (chain_cat g r x ns hx fun p hq => hp p (by simp [hq])).2 h
theorem catGo_up : ∀ (r : List Int) (x : Int) (ns : List Nod) (y : Int) (ns' : List Nod), catGo x ns r = some (y, ns') → okP (ns.length : Int) x = true → ns.length ≤ ns'.length ∧ okP (ns'.length : Int) y = true ∧ (ns.length ≤ 1000 → ns'.length ≤ 1000)
  | [], x, ns, y, ns', h, hx => by
    rw [catGo_nil] at h
    simp only [Option.some.injEq, Prod.mk.injEq] at h
    obtain ⟨rfl, rfl⟩ := h
    exact ⟨Nat.le_refl _, hx, id⟩
  | p :: r, x, ns, y, ns', h, hx => by
    rw [catGo_cons] at h
    split at h
    · rename_i hl
      have := catGo_up r _ _ y ns' h (by rw [List.length_append]; exact okP_last _)
      rw [List.length_append, List.length_singleton] at this
      exact ⟨by omega, this.2.1, fun _ => this.2.2 (by omega)⟩
    · cases h
theorem catS_up {ns : List Nod} {ps : List Int} {y : Int} {ns' : List Nod} (hp : ∀ p ∈ ps, okP (ns.length : Int) p = true) (h : catS ns ps = some (y, ns')) : ns.length ≤ ns'.length ∧ okP (ns'.length : Int) y = true ∧ (ns.length ≤ 1000 → ns'.length ≤ 1000) := by
  cases ps with
  | nil =>
    rw [catS_nil] at h
    split at h
    · simp only [Option.some.injEq, Prod.mk.injEq] at h
      obtain ⟨rfl, rfl⟩ := h
      rw [List.length_append, List.length_singleton]
      exact ⟨by omega, okP_last _, fun _ => by omega⟩
    · cases h
  | cons x r => exact catGo_up r x ns y ns' h (hp x (by simp))
end Go.Proofs.Ytnfbgpjadnlgbab
