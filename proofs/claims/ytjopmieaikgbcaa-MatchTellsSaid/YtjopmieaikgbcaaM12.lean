/- Ten spans as values: the twenty numbers; one span set; two of them compared. append onto a row of the call's own, and where what comes out lies; nothing here speaks of a program. -/
import Derived.Test.YtjopmieaikgbcaaM10
import Derived.Test.YtjopmieaikgbcaaM04
set_option linter.unusedVariables false
set_option maxRecDepth 100000
namespace Go.Proofs.Ytjopmieaikgbcaa
open Go.RowKit

def spnL (x : Int × Int) : List Value := [.int .i64 x.1, .int .i64 x.2]
def spnV (x : Int × Int) : Value := .agg #[.int .i64 x.1, .int .i64 x.2]
def hitL (s : Spn) : List Value := [.int .i64 (s 0).1, .int .i64 (s 0).2, .int .i64 (s 1).1, .int .i64 (s 1).2, .int .i64 (s 2).1, .int .i64 (s 2).2, .int .i64 (s 3).1, .int .i64 (s 3).2, .int .i64 (s 4).1, .int .i64 (s 4).2, .int .i64 (s 5).1, .int .i64 (s 5).2, .int .i64 (s 6).1, .int .i64 (s 6).2, .int .i64 (s 7).1, .int .i64 (s 7).2, .int .i64 (s 8).1, .int .i64 (s 8).2, .int .i64 (s 9).1, .int .i64 (s 9).2]
def hitC (s : Spn) : Array Value := (hitL s).toArray
def hitV (s : Spn) : Value := .agg (hitC s)
/-- All zeros, and no match. -/
def sp00 : Spn := fun _ => (0, 0)
def spNo : Spn := fun _ => (-1, -1)
theorem hitL_len (s : Spn) : (hitL s).length = 20 := rfl
theorem hitC_size (s : Spn) : (hitC s).size = 20 := rfl
theorem hit_one (s : Spn) : ∀ v ∈ hitL s, v.oneCell' = true := by simp [hitL, Value.oneCell']
theorem hitL_from (s : Spn) {g : Nat} (h : g < 10) : (hitL s)[2 * g]? = some (.int .i64 (s g).1) := by
  have : g = 0 ∨ g = 1 ∨ g = 2 ∨ g = 3 ∨ g = 4 ∨ g = 5 ∨ g = 6 ∨ g = 7 ∨ g = 8 ∨ g = 9 := by omega
  rcases this with rfl | rfl | rfl | rfl | rfl | rfl | rfl | rfl | rfl | rfl <;> rfl
theorem hitL_to (s : Spn) {g : Nat} (h : g < 10) : (hitL s)[2 * g + 1]? = some (.int .i64 (s g).2) := by
  have : g = 0 ∨ g = 1 ∨ g = 2 ∨ g = 3 ∨ g = 4 ∨ g = 5 ∨ g = 6 ∨ g = 7 ∨ g = 8 ∨ g = 9 := by omega
  rcases this with rfl | rfl | rfl | rfl | rfl | rfl | rfl | rfl | rfl | rfl <;> rfl
theorem hitL_set (s : Spn) {g : Nat} (h : g < 10) (x : Int × Int) : hitL (setSp s g x) = ((hitL s).set (2 * g) (.int .i64 x.1)).set (2 * g + 1) (.int .i64 x.2) := by
  have : g = 0 ∨ g = 1 ∨ g = 2 ∨ g = 3 ∨ g = 4 ∨ g = 5 ∨ g = 6 ∨ g = 7 ∨ g = 8 ∨ g = 9 := by omega
  rcases this with rfl | rfl | rfl | rfl | rfl | rfl | rfl | rfl | rfl | rfl <;> rfl
theorem hitL_same {a b : Spn} : hitL a = hitL b ↔ same10 a b := by
  constructor
  · intro h g hg
    have h1 := hitL_from a hg
    have h2 := hitL_to a hg
    rw [h, hitL_from b hg] at h1
    rw [h, hitL_to b hg] at h2
    have e1 := Option.some.inj h1
    have e2 := Option.some.inj h2
    injection e1 with _ e1
    injection e2 with _ e2
    exact Prod.ext e1.symm e2.symm
  · intro h
    unfold hitL
    rw [h 0 (by omega), h 1 (by omega), h 2 (by omega), h 3 (by omega), h 4 (by omega), h 5 (by omega), h 6 (by omega), h 7 (by omega), h 8 (by omega), h 9 (by omega)]
theorem hitV_same {a b : Spn} : hitV a = hitV b ↔ same10 a b := by
  rw [← hitL_same]
  constructor
  · intro h
    injection h with h
    exact congrArg Array.toList h
  · intro h; unfold hitV hitC; rw [h]
/-- What is answered: the best hit, or all zeros. -/
def ansS : Option Spn → Spn
  | none => sp00
  | some m => m
/-- A hit of all zeros is none that a law's example could be. -/
theorem spans_zero {a g e : Int} {m : Spn} (h : Spans a g e m) : m 0 = (a, (m 0).2) := Prod.ext h.1 rfl
/-- Numbers that the machine's own kind of number holds. -/
def InS (s : Spn) : Prop := ∀ g, g < 10 → (-(2 : Int) ^ 63 ≤ (s g).1 ∧ (s g).1 < 2 ^ 63) ∧ -(2 : Int) ^ 63 ≤ (s g).2 ∧ (s g).2 < 2 ^ 63
theorem InS.set {s : Spn} (h : InS s) {g : Nat} {x : Int × Int} (hx : (-(2 : Int) ^ 63 ≤ x.1 ∧ x.1 < 2 ^ 63) ∧ -(2 : Int) ^ 63 ≤ x.2 ∧ x.2 < 2 ^ 63) : InS (setSp s g x) := fun k hk => by
  unfold setSp
  by_cases e : k = g
  · rw [if_pos e]; exact hx
  · rw [if_neg e]; exact h k hk
theorem spNo_in : InS spNo := fun k _ => by unfold spNo; decide
theorem sp00_in : InS sp00 := fun k _ => by unfold sp00; decide
theorem lies_in {a g : Int} (ha : 0 ≤ a) {p : Pt} (h : Lies a g p) (hp : (p.i : Int) < 2 ^ 63) : InS p.sp := fun k _ => by
  rcases h k with h | ⟨_, h1, h2, h3⟩
  · rw [h]; decide
  · exact ⟨⟨by omega, by omega⟩, by omega, by omega⟩
end Go.Proofs.Ytjopmieaikgbcaa

set_option maxRecDepth 100000
namespace Go.Proofs.Ytjopmieaikgbcaa
open Go.RowKit

/-- The slice that begins at A holds the cells news. -/
def Src (w : World) (A : Option Addr) (news : List Value) : Prop := ∀ j u, news[j]? = some u → ∃ ad, A = some ad ∧ w.cell? (ad.add j) = some u
theorem Src.nil {w : World} {news : List Value} (h : Src w none news) : news = [] := by
  cases news with
  | nil => rfl
  | cons x r => obtain ⟨ad, h, _⟩ := h 0 x rfl; cases h
theorem Vals.src {w : World} {B : Nat} {A : Option Addr} {xs : List Value} (h : Vals w B A xs) : Src w A xs := fun j u hj => by
  obtain ⟨hlt, rfl⟩ := List.getElem?_eq_some_iff.1 hj
  obtain ⟨ad, h1, _, h2⟩ := h j hlt
  exact ⟨ad, h1, h2⟩
theorem src_new (w : World) (xs : List Value) (t : TypeId) : Src (w.alloc (.cells xs.toArray t)) (some ⟨w.heap.size, 0, none⟩) xs := fun j u hj => ⟨_, rfl, new_cells w xs t j u hj⟩

section
variable {P : Program} {w : World}
theorem run_append_none (base : Nat) (t ty e : TypeId) (i : TypeInfo) (size : Nat) (ht : P.underlying t = some (.slice e)) (hi : P.info? e = some i)
    (v : Value) (n : Nat) (xs : List Value) (hown : w.ownsRow base e size v n xs) (c : Nat) : (Builtin.append_ #[t, t] ty #[v, .slice none 0 c]).run P w = .ok v w := by
  obtain ⟨_, ⟨rfl, rfl⟩ | ⟨g, cap, cur, rfl, _, _, hnc, _⟩⟩ := hown
  · simp [Builtin.append_, run_underlying ht, sizeOf, typeInfo, hi, Builtin.lenOf, Builtin.firstCells]
  · simp [Builtin.append_, run_underlying ht, sizeOf, typeInfo, hi, Builtin.lenOf, Builtin.firstCells, hnc, storeCells]
/-- An append: what comes out owns all; it lies where the row lay, or in a new block. -/
theorem run_append_at (base : Nat) (t ty e : TypeId) (i : TypeInfo) (z : Value) (size bytes : Nat) (ht : P.underlying t = some (.slice e)) (hi : P.info? e = some i) (hz : i.zero = some z)
    (hi1 : i.size = size) (hib : i.bytes = bytes) (hz1 : z.cells.size = size) (hsz : 0 < size) (v : Value) (n : Nat) (xs : List Value) (hown : w.ownsRow base e size v n xs)
    (A : Option Addr) (m c : Nat) (news : List Value) (hl : news.length = m * size) (hv : Src w A news) (h1 : ∀ u ∈ news, u.oneCell' = true)
    (hlen : n + m ≤ maxLen) (hbytes : (n + m) * bytes ≤ 140737488355328) (hbase : base ≤ w.heap.size) :
    ∃ v' w', (Builtin.append_ #[t, t] ty #[v, .slice A m c]).run P w = .ok v' w' ∧ w'.ownsRow base e size v' (n + m) (xs ++ news) ∧ w.grownBy w' v.ownBlock ∧
      (∀ k, v'.ownBlock = some k → v.ownBlock = some k ∨ w.heap.size ≤ k) := by
  cases A with
  | none =>
    obtain rfl := hv.nil
    have hm : m = 0 := by
      rcases Nat.eq_zero_or_pos m with h | h
      · exact h
      · have := Nat.mul_pos h hsz; rw [← hl] at this; simp at this
    subst hm
    exact ⟨v, w, run_append_none base t ty e i size ht hi v n xs hown c, by simpa using hown, World.grownBy.refl w _, fun _ h => .inl h⟩
  | some a =>
    have hnews : ∀ j u, news[j]? = some u → w.cell? (a.add j) = some u := fun j u hj => by
      obtain ⟨ad, h, hc⟩ := hv j u hj
      injection h with h
      subst h
      exact hc
    obtain ⟨v', w', hrun, h2, h3, h4⟩ := run_append_own (P := P) w base t ty e i z size bytes ht hi hz hi1 hib hz1 hsz v n xs hown a m c news hl hnews h1 hlen hbytes hbase
    refine ⟨v', w', hrun, h2, h3, fun k hk => ?_⟩
    subst hi1
    subst hib
    have h63 : n + m ≤ 9223372036854775807 := by simp only [maxLen] at hlen; omega
    rcases hown.2 with ⟨rfl, rfl⟩ | ⟨g, cap, cur, rfl, hbg, hg, hnc, hcm, hcs, htake⟩
    · by_cases hm : m = 0
      · rw [h4.2 ⟨rfl, hm⟩] at hk; cases hk
      · have hr := Go.run_append_nil (P := P) w t ty e i z ht hi hz a m c news hl hnews (by omega) (by omega) (by have hb := hbytes; simp only [Nat.zero_add] at hb; omega)
        rw [hr] at hrun
        injection hrun with hrun _
        rw [← hrun] at hk
        injection hk with hk
        exact .inr (Nat.le_of_eq hk)
    · by_cases hroom : n + m ≤ cap
      · have hfit : n * i.size + news.length ≤ cur.size := by rw [hl, hcs, ← Nat.add_mul]; exact Nat.mul_le_mul_right _ hroom
        have hr := run_append_room (P := P) w t ty e i ht hi g n cap cur hg a m c news hl hnews h1 hroom hfit
        rw [hr] at hrun
        injection hrun with hrun _
        rw [← hrun] at hk
        exact .inl hk
      · have hr := run_append_grow (P := P) w t ty e i z ht hi hz ⟨g, 0, none⟩ n cap xs hown.1 (hown.cells (g := g) rfl) a m c news hl hnews (by omega) (by omega) (growslice_fits (by omega) hbytes)
        rw [hr] at hrun
        injection hrun with hrun _
        rw [← hrun] at hk
        injection hk with hk
        exact .inr (Nat.le_of_eq hk)
theorem wpList_append_at {ops : Array Oper} {rest : List Oper} {o : Oper} {a : Act} {Q : Exit → Act → World → Prop} (hg : o.guard = none) (s x : Operand) (t : TypeId)
    (ho : o.op = .call { callee := .builtin .append, args := #[s, x], argTypes := #[t, t] })
    (base : Nat) (e : TypeId) (i : TypeInfo) (z : Value) (size bytes : Nat) (ht : P.underlying t = some (.slice e)) (hi : P.info? e = some i) (hz : i.zero = some z)
    (hi1 : i.size = size) (hib : i.bytes = bytes) (hz1 : z.cells.size = size) (hsz : 0 < size) (v : Value) (n : Nat) (xs : List Value) (hs : a.eval s = v) (hown : w.ownsRow base e size v n xs)
    (A : Option Addr) (m c : Nat) (news : List Value) (hx : a.eval x = .slice A m c) (hl : news.length = m * size) (hv : Src w A news) (h1 : ∀ u ∈ news, u.oneCell' = true)
    (hlen : n + m ≤ maxLen) (hbytes : (n + m) * bytes ≤ 140737488355328) (hbase : base ≤ w.heap.size)
    (h : ∀ v' w', w'.ownsRow base e size v' (n + m) (xs ++ news) → w.grownBy w' v.ownBlock → (∀ k, v'.ownBlock = some k → v.ownBlock = some k ∨ w.heap.size ≤ k) → wpList P ops Q rest (a.put o.dst v') w') : wpList P ops Q (o :: rest) a w := by
  refine wpList_plain hg fun K hK => ?_
  obtain ⟨v', w', hrun, h2, h3, h4⟩ := run_append_at (P := P) (w := w) base t o.type e i z size bytes ht hi hz hi1 hib hz1 hsz v n xs hown A m c news hl hv h1 hlen hbytes hbase
  unfold Oper.wp execOp
  simp only [ho, resolve, invoke, builtin, Sem.run_bind, Sem.run_pure, Result.andThen_ok, List.map_toArray, List.map_cons, List.map_nil, hs, hx, hrun]
  exact hK _ _ (h v' w' h2 h3 h4)
end
end Go.Proofs.Ytjopmieaikgbcaa
