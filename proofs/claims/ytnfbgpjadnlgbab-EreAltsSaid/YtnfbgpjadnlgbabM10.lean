/- append onto a row of the call's own, and where what comes out lies; nothing here speaks of a program. A builder in memory; contracts: has, Open. -/
import Derived.Test.YtnfbgpjadnlgbabM08
import Derived.Test.YtnfbgpjadnlgbabM09
import Derived.Test.YtnfbgpjadnlgbabM06
set_option maxRecDepth 100000
namespace Go.Proofs.Ytnfbgpjadnlgbab
open Go.RowKit

/-- The slice that begins at A holds the cells news. -/
def Src (w : World) (A : Option Addr) (news : List Value) : Prop := ∀ j u, news[j]? = some u → ∃ ad, A = some ad ∧ w.cell? (ad.add j) = some u
theorem Src.nil {w : World} {news : List Value} (h : Src w none news) : news = [] := by
  cases news with
  | nil => rfl
  | cons x r => obtain ⟨ad, h, _⟩ := h 0 x rfl; cases h
theorem Vals.src {w : World} {B : Nat} {A : Option Addr} {xs : List Value} (h : Vals w B A xs) : Src w A xs := fun j u hj => by
  obtain ⟨hlt, rfl⟩ := List.getElem?_eq_some_iff.1 hj
  obtain ⟨ad, h1, _, h2⟩ := h j hlt
  exact ⟨ad, h1, h2⟩
theorem src_new (w : World) (xs : List Value) (t : TypeId) : Src (w.alloc (.cells xs.toArray t)) (some ⟨w.heap.size, 0, none⟩) xs := fun j u hj => ⟨_, rfl, new_cells w xs t j u hj⟩

section
variable {P : Program} {w : World}
theorem run_append_none (base : Nat) (t ty e : TypeId) (i : TypeInfo) (size : Nat) (ht : P.underlying t = some (.slice e)) (hi : P.info? e = some i)
    (v : Value) (n : Nat) (xs : List Value) (hown : w.ownsRow base e size v n xs) (c : Nat) : (Builtin.append_ #[t, t] ty #[v, .slice none 0 c]).run P w = .ok v w := by
  obtain ⟨_, ⟨rfl, rfl⟩ | ⟨g, cap, cur, rfl, _, _, hnc, _⟩⟩ := hown
  · simp [Builtin.append_, run_underlying ht, sizeOf, typeInfo, hi, Builtin.lenOf, Builtin.firstCells]
  · simp [Builtin.append_, run_underlying ht, sizeOf, typeInfo, hi, Builtin.lenOf, Builtin.firstCells, hnc, storeCells]
/-- An append: what comes out owns all; it lies where the row lay, or in a new block. -/
theorem run_append_at (base : Nat) (t ty e : TypeId) (i : TypeInfo) (z : Value) (size bytes : Nat) (ht : P.underlying t = some (.slice e)) (hi : P.info? e = some i) (hz : i.zero = some z)
    (hi1 : i.size = size) (hib : i.bytes = bytes) (hz1 : z.cells.size = size) (hsz : 0 < size) (v : Value) (n : Nat) (xs : List Value) (hown : w.ownsRow base e size v n xs)
    (A : Option Addr) (m c : Nat) (news : List Value) (hl : news.length = m * size) (hv : Src w A news) (h1 : ∀ u ∈ news, u.oneCell' = true)
    (hlen : n + m ≤ maxLen) (hbytes : (n + m) * bytes ≤ 140737488355328) (hbase : base ≤ w.heap.size) :
    ∃ v' w', (Builtin.append_ #[t, t] ty #[v, .slice A m c]).run P w = .ok v' w' ∧ w'.ownsRow base e size v' (n + m) (xs ++ news) ∧ w.grownBy w' v.ownBlock ∧
      (∀ k, v'.ownBlock = some k → v.ownBlock = some k ∨ w.heap.size ≤ k) := by
  cases A with
  | none =>
    obtain rfl := hv.nil
    have hm : m = 0 := by
      rcases Nat.eq_zero_or_pos m with h | h
      · exact h
      · have := Nat.mul_pos h hsz; rw [← hl] at this; simp at this
    subst hm
    exact ⟨v, w, run_append_none base t ty e i size ht hi v n xs hown c, by simpa using hown, World.grownBy.refl w _, fun _ h => .inl h⟩
  | some a =>
    have hnews : ∀ j u, news[j]? = some u → w.cell? (a.add j) = some u := fun j u hj => by
      obtain ⟨ad, h, hc⟩ := hv j u hj
      injection h with h
      subst h
      exact hc
    obtain ⟨v', w', hrun, h2, h3, h4⟩ := run_append_own (P := P) w base t ty e i z size bytes ht hi hz hi1 hib hz1 hsz v n xs hown a m c news hl hnews h1 hlen hbytes hbase
    refine ⟨v', w', hrun, h2, h3, fun k hk => ?_⟩
    subst hi1
    subst hib
    have h63 : n + m ≤ 9223372036854775807 := by simp only [maxLen] at hlen; omega
    rcases hown.2 with ⟨rfl, rfl⟩ | ⟨g, cap, cur, rfl, hbg, hg, hnc, hcm, hcs, htake⟩
    · by_cases hm : m = 0
      · rw [h4.2 ⟨rfl, hm⟩] at hk; cases hk
      · have hr := Go.run_append_nil (P := P) w t ty e i z ht hi hz a m c news hl hnews (by omega) (by omega) (by have hb := hbytes; simp only [Nat.zero_add] at hb; omega)
        rw [hr] at hrun
        injection hrun with hrun _
        rw [← hrun] at hk
        injection hk with hk
        exact .inr (Nat.le_of_eq hk)
    · by_cases hroom : n + m ≤ cap
      · have hfit : n * i.size + news.length ≤ cur.size := by rw [hl, hcs, ← Nat.add_mul]; exact Nat.mul_le_mul_right _ hroom
        have hr := run_append_room (P := P) w t ty e i ht hi g n cap cur hg a m c news hl hnews h1 hroom hfit
        rw [hr] at hrun
        injection hrun with hrun _
        rw [← hrun] at hk
        exact .inl hk
      · have hr := run_append_grow (P := P) w t ty e i z ht hi hz ⟨g, 0, none⟩ n cap xs hown.1 (hown.cells (g := g) rfl) a m c news hl hnews (by omega) (by omega) (growslice_fits (by omega) hbytes)
        rw [hr] at hrun
        injection hrun with hrun _
        rw [← hrun] at hk
        injection hk with hk
        exact .inr (Nat.le_of_eq hk)
theorem wpList_append_at {ops : Array Oper} {rest : List Oper} {o : Oper} {a : Act} {Q : Exit → Act → World → Prop} (hg : o.guard = none) (s x : Operand) (t : TypeId)
    (ho : o.op = .call { callee := .builtin .append, args := #[s, x], argTypes := #[t, t] })
    (base : Nat) (e : TypeId) (i : TypeInfo) (z : Value) (size bytes : Nat) (ht : P.underlying t = some (.slice e)) (hi : P.info? e = some i) (hz : i.zero = some z)
    (hi1 : i.size = size) (hib : i.bytes = bytes) (hz1 : z.cells.size = size) (hsz : 0 < size) (v : Value) (n : Nat) (xs : List Value) (hs : a.eval s = v) (hown : w.ownsRow base e size v n xs)
    (A : Option Addr) (m c : Nat) (news : List Value) (hx : a.eval x = .slice A m c) (hl : news.length = m * size) (hv : Src w A news) (h1 : ∀ u ∈ news, u.oneCell' = true)
    (hlen : n + m ≤ maxLen) (hbytes : (n + m) * bytes ≤ 140737488355328) (hbase : base ≤ w.heap.size)
    (h : ∀ v' w', w'.ownsRow base e size v' (n + m) (xs ++ news) → w.grownBy w' v.ownBlock → (∀ k, v'.ownBlock = some k → v.ownBlock = some k ∨ w.heap.size ≤ k) → wpList P ops Q rest (a.put o.dst v') w') : wpList P ops Q (o :: rest) a w := by
  refine wpList_plain hg fun K hK => ?_
  obtain ⟨v', w', hrun, h2, h3, h4⟩ := run_append_at (P := P) (w := w) base t o.type e i z size bytes ht hi hz hi1 hib hz1 hsz v n xs hown A m c news hl hv h1 hlen hbytes hbase
  unfold Oper.wp execOp
  simp only [ho, resolve, invoke, builtin, Sem.run_bind, Sem.run_pure, Result.andThen_ok, List.map_toArray, List.map_cons, List.map_nil, hs, hx, hrun]
  exact hK _ _ (h v' w' h2 h3 h4)
end
end Go.Proofs.Ytnfbgpjadnlgbab

set_option linter.unusedVariables false
set_option maxRecDepth 100000
namespace Go.Proofs.Ytnfbgpjadnlgbab
open Go.RowKit

/-- A builder lies in block T from cell o on (v: the row of its nodes, whose block lies at B or behind), and has these nodes and so many groups. -/
structure Bldr (w : World) (B T o : Nat) (v : Value) (ns : List Nod) (g : Nat) : Prop where
  obj : ∃ t cs, Held w T t cs ∧ 34 ≠ t ∧ cs[o]? = some v ∧ cs[o + 1]? = some (.int .i64 (g : Int))
  own : w.ownsRow B 34 10 v ns.length (nodsL ns)
  len : ns.length ≤ 1000
  grp : g ≤ 9
  base : B ≤ w.heap.size
/-- What a call of a builder's turns: its two cells, its row's block, new blocks. -/
structure Chg (w w' : World) (T o : Nat) (v v' : Value) : Prop where
  os : w'.os = w.os
  tape : w'.tape = w.tape
  output : w'.output = w.output
  size : w.heap.size ≤ w'.heap.size
  far : ∀ k, k < w.heap.size → k ≠ T → some k ≠ v.ownBlock → w'.heap[k]? = w.heap[k]?
  near : ∀ t cs, Held w T t cs → ∃ cs', Held w' T t cs' ∧ cs'.size = cs.size ∧ ∀ i, i ≠ o → i ≠ o + 1 → cs'[i]? = cs[i]?
  row : ∀ k, v'.ownBlock = some k → v.ownBlock = some k ∨ w.heap.size ≤ k
section
variable {w w' w1 : World} {B T o g : Nat} {v v' v1 : Value} {ns : List Nod}
theorem Chg.of_below (h : Below w.heap.size w w') : Chg w w' T o v v :=
  ⟨h.os, h.tape, h.output, h.size, fun k hk _ _ => h.block k hk, fun t cs hc => ⟨cs, hc.keep h, rfl, fun _ _ _ => rfl⟩, fun _ e => .inl e⟩
theorem Chg.trans (h : Chg w w1 T o v v1) (k : Chg w1 w' T o v1 v') : Chg w w' T o v v' := by
  refine ⟨k.os.trans h.os, k.tape.trans h.tape, k.output.trans h.output, Nat.le_trans h.size k.size, fun j hj hT hv => ?_, fun t cs hc => ?_, fun j e => ?_⟩
  · refine (k.far j (Nat.lt_of_lt_of_le hj h.size) hT (fun e => ?_)).trans (h.far j hj hT hv)
    rcases h.row j e.symm with e1 | e1
    · exact hv e1.symm
    · omega
  · obtain ⟨c1, h1, s1, n1⟩ := h.near t cs hc
    obtain ⟨c2, h2, s2, n2⟩ := k.near t c1 h1
    exact ⟨c2, h2, s2.trans s1, fun i i1 i2 => (n2 i i1 i2).trans (n1 i i1 i2)⟩
  · rcases k.row j e with e1 | e1
    · exact h.row j e1
    · exact .inr (Nat.le_trans h.size e1)
theorem Chg.store {p : Nat} (hp : p = o ∨ p = o + 1) (u : Value) : Chg w (w.setCell ⟨T, p, none⟩ u) T o v v := by
  have hb : Below 0 w (w.setCell ⟨T, p, none⟩ u) := (Below.refl 0 w).setCell (Nat.zero_le _) u
  refine ⟨hb.os, hb.tape, hb.output, hb.size, fun k hk hT _ => Below.heap_setCell w _ u k hT, fun t cs hc => ⟨_, hc.put p u, by simp, fun i i1 i2 => ?_⟩, fun _ e => .inl e⟩
  rw [Array.getElem?_setIfInBounds, if_neg (by omega)]
theorem Chg.grown (h : w.grownBy w' v.ownBlock) (hT : v.ownBlock ≠ some T) (hTl : T < w.heap.size) (hv : ∀ k, v'.ownBlock = some k → v.ownBlock = some k ∨ w.heap.size ≤ k) : Chg w w' T o v v' :=
  ⟨h.os, h.tape, h.output, h.size, fun k hk _ hne => h.block k hk hne, fun t cs hc => ⟨cs, hc.grown h (fun e => hT e.symm), rfl, fun _ _ _ => rfl⟩, hv⟩
theorem Chg.below (h : Chg w w' T o v v') (hB : B ≤ w.heap.size) (hT : B ≤ T) (hv : ∀ k, v.ownBlock = some k → B ≤ k) : Below B w w' :=
  ⟨h.os, h.tape, h.output, h.size, fun k hk => h.far k (by omega) (by omega) (fun e => by have := hv k e.symm; omega)⟩
theorem Bldr.lt (h : Bldr w B T o v ns g) : T < w.heap.size := by obtain ⟨t, cs, hc, _⟩ := h.obj; exact hc.lt
theorem Bldr.cv (h : Bldr w B T o v ns g) : w.cell? ⟨T, o, none⟩ = some v := by obtain ⟨t, cs, hc, _, h1, _⟩ := h.obj; exact hc.at_ h1
theorem Bldr.cg (h : Bldr w B T o v ns g) : w.cell? ⟨T, o + 1, none⟩ = some (.int .i64 (g : Int)) := by obtain ⟨t, cs, hc, _, _, h1⟩ := h.obj; exact hc.at_ h1
theorem Bldr.thawed (h : Bldr w B T o v ns g) (p : Nat) : w.frozen? ⟨T, p, none⟩ = false := by obtain ⟨t, cs, hc, _⟩ := h.obj; exact hc.thawed p
theorem Bldr.row (h : Bldr w B T o v ns g) : ∀ k, v.ownBlock = some k → B ≤ k := fun k e => (h.own.lt k e).1
theorem Bldr.apart (h : Bldr w B T o v ns g) : v.ownBlock ≠ some T := by obtain ⟨t, cs, hc, hne, _⟩ := h.obj; exact hc.not_own h.own hne
theorem Bldr.keep (h : Bldr w B T o v ns g) (hb : Below w.heap.size w w') : Bldr w' B T o v ns g := by
  obtain ⟨t, cs, hc, hne, h1, h2⟩ := h.obj
  exact ⟨⟨t, cs, hc.keep hb, hne, h1, h2⟩, own_below h.own hb, h.len, h.grp, Nat.le_trans h.base hb.size⟩
theorem Bldr.drew (h : Bldr w B T o v ns g) : Bldr w.drew B T o v ns g := h.keep (Below.refl _ w).drew
theorem Bldr.below (h : Bldr w B T o v ns g) (hT : B ≤ T) (hc : Chg w w' T o v v') : Below B w w' := hc.below h.base hT h.row
theorem Bldr.slice (h : Bldr w B T o v ns g) : ∃ A cap, v = .slice A ns.length cap ∧ ns.length ≤ cap ∧ cap ≤ maxLen ∧ Nods w w.heap.size A ns := by
  obtain ⟨A, cap, h1, _, h2, h3, h4⟩ := own_nods h.own
  exact ⟨A, cap, h1, h2, h3, h4⟩
/-- The number of groups is another. -/
theorem Bldr.group (h : Bldr w B T o v ns g) {q : Nat} (hq : q ≤ 9) : Bldr (w.setCell ⟨T, o + 1, none⟩ (.int .i64 (q : Int))) B T o v ns q := by
  obtain ⟨t, cs, hc, hne, h1, h2⟩ := h.obj
  have hlt : o + 1 < cs.size := (Array.getElem?_eq_some_iff.1 h2).1
  have hgr : w.grownBy (w.setCell ⟨T, o + 1, none⟩ (.int .i64 (q : Int))) (some T) := by
    have hb : Below 0 w (w.setCell ⟨T, o + 1, none⟩ (.int .i64 (q : Int))) := (Below.refl 0 w).setCell (Nat.zero_le _) _
    exact ⟨hb.os, hb.tape, hb.output, hb.size, fun k _ hne => Below.heap_setCell w _ _ k (fun e => hne (by rw [e]))⟩
  refine ⟨⟨t, _, hc.put (o + 1) _, hne, ?_, ?_⟩, h.own.kept hgr (.inr h.apart), h.len, hq, Nat.le_trans h.base hgr.size⟩
  · rw [Array.getElem?_setIfInBounds, if_neg (by omega)]; exact h1
  · rw [Array.getElem?_setIfInBounds, if_pos rfl, if_pos hlt]
end

theorem has_any (B T o : Nat) (v : Value) (ns : List Nod) (g : Nat) (x : Int) (w : World) (h : Bldr w B T o v ns g) :
    Calls Try.prog 20 #[.pointer (some ⟨T, o, none⟩), .int .i64 x] w fun e w' => e = .returned (.bool (okP (ns.length : Int) x)) ∧ w = w' := by
  have hcv := h.cv
  obtain ⟨A, cap, rfl, h1, h2, -⟩ := h.slice
  have hl := h.len
  clear h
  unfold maxLen at h2
  generalize ns.length = n at *
  by_cases hx : x < 0
  · rw [okP_neg hx]
    go_enter Try.func20, Try.ntmps20
    go_wp2
    go_ret
    exact ⟨rfl, rfl⟩
  · have hx0 : 0 ≤ x := by omega
    rw [show okP (n : Int) x = decide (x < (n : Int)) by simp [okP, hx0]]
    go_enter Try.func20, Try.ntmps20
    go_wp2
    go_ret
    exact ⟨rfl, rfl⟩

/-- What Open answers, and how many groups there are behind it. -/
def openI (g : Nat) : Int := if g < 9 then (g : Int) + 1 else -1
def openG (g : Nat) : Nat := if g < 9 then g + 1 else g
theorem openG_le {g : Nat} (h : g ≤ 9) : openG g ≤ 9 := by unfold openG; split <;> omega
theorem open_any (B T o : Nat) (v : Value) (ns : List Nod) (g : Nat) (w : World) (h : Bldr w B T o v ns g) :
    Calls Try.prog 50 #[.pointer (some ⟨T, o, none⟩)] w fun e w' => e = .returned (.int .i64 (openI g)) ∧ Bldr w' B T o v ns (openG g) ∧ Chg w w' T o v v := by
  have hcg := h.cg
  have hth := h.thawed (o + 1)
  have hg := h.grp
  by_cases h9 : g < 9
  · rw [show openI g = (g : Int) + 1 by simp [openI, h9], show openG g = g + 1 by simp [openG, h9]]
    have h' := Lib.hid (h.group (q := g + 1) (by omega))
    clear h
    go_enter Try.func50, Try.ntmps50
    go_wp2
    go_ret
    exact ⟨rfl, h'.out, Chg.store (.inr rfl) _⟩
  · rw [show openI g = -1 by simp [openI, h9], show openG g = g by simp [openG, h9]]
    obtain rfl : g = 9 := by omega
    have h' := Lib.hid h
    clear h
    go_enter Try.func50, Try.ntmps50
    go_wp2
    go_ret
    exact ⟨rfl, h'.out, Chg.of_below (Below.refl _ _)⟩
end Go.Proofs.Ytnfbgpjadnlgbab
