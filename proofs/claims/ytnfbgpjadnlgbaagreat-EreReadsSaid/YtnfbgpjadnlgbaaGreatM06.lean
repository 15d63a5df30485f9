/- append onto a row of the call's own, and where what comes out lies; nothing here speaks of a program. A builder in memory; contracts: has, Open. Contract: put. -/
import Derived.Test.YtnfbgpjadnlgbaaGreatM04
import Derived.Test.YtnfbgpjadnlgbaaGreatM05
import Derived.Test.YtnfbgpjadnlgbaaGreatM03
import Derived.Deep.AppendLies
import Derived.Deep.RegionLaw
import Derived.OwnWalk
set_option maxRecDepth 100000
namespace Go.Proofs.YtnfbgpjadnlgbaaGreat
open Go.RowKit

/-- The slice that begins at A holds the cells news. -/
def Src (w : World) (A : Option Addr) (news : List Value) : Prop := ∀ j u, news[j]? = some u → ∃ ad, A = some ad ∧ w.cell? (ad.add j) = some u
theorem Src.nil {w : World} {news : List Value} (h : Src w none news) : news = [] := by
  cases news with
  | nil => rfl
  | cons x r => obtain ⟨ad, h, _⟩ := h 0 x rfl; cases h
theorem Vals.src {w : World} {B : Nat} {A : Option Addr} {xs : List Value} (h : Vals w B A xs) : Src w A xs := fun j u hj => by
  obtain ⟨hlt, rfl⟩ := List.getElem?_eq_some_iff.1 hj
  obtain ⟨ad, h1, _, h2⟩ := h j hlt
  exact ⟨ad, h1, h2⟩
theorem src_new (w : World) (xs : List Value) (t : TypeId) : Src (w.alloc (.cells xs.toArray t)) (some ⟨w.heap.size, 0, none⟩) xs := fun j u hj => ⟨_, rfl, new_cells w xs t j u hj⟩

section
variable {P : Program} {w : World}
theorem run_append_none (base : Nat) (t ty e : TypeId) (i : TypeInfo) (size : Nat) (ht : P.underlying t = some (.slice e)) (hi : P.info? e = some i)
    (v : Value) (n : Nat) (xs : List Value) (hown : w.ownsRow base e size v n xs) (c : Nat) : (Builtin.append_ #[t, t] ty #[v, .slice none 0 c]).run P w = .ok v w := by
  obtain ⟨_, ⟨rfl, rfl⟩ | ⟨g, cap, cur, rfl, _, _, hnc, _⟩⟩ := hown
  · simp [Builtin.append_, run_underlying ht, sizeOf, typeInfo, hi, Builtin.lenOf, Builtin.firstCells]
  · simp [Builtin.append_, run_underlying ht, sizeOf, typeInfo, hi, Builtin.lenOf, Builtin.firstCells, hnc, storeCells]
/-- An append: what comes out owns all; it lies where the row lay, or in a new block. -/
theorem run_append_at (base : Nat) (t ty e : TypeId) (i : TypeInfo) (z : Value) (size bytes : Nat) (ht : P.underlying t = some (.slice e)) (hi : P.info? e = some i) (hz : i.zero = some z)
    (hi1 : i.size = size) (hib : i.bytes = bytes) (hz1 : z.cells.size = size) (hsz : 0 < size) (v : Value) (n : Nat) (xs : List Value) (hown : w.ownsRow base e size v n xs)
    (A : Option Addr) (m c : Nat) (news : List Value) (hl : news.length = m * size) (hv : Src w A news) (h1 : ∀ u ∈ news, u.oneCell' = true)
    (hlen : n + m ≤ maxLen) (hbytes : (n + m) * bytes ≤ 140737488355328) (hbase : base ≤ w.heap.size) :
    ∃ v' w', (Builtin.append_ #[t, t] ty #[v, .slice A m c]).run P w = .ok v' w' ∧ w'.ownsRow base e size v' (n + m) (xs ++ news) ∧ w.grownBy w' v.ownBlock ∧
      (∀ k, v'.ownBlock = some k → v.ownBlock = some k ∨ w.heap.size ≤ k) := by
  cases A with
  | none =>
    obtain rfl := hv.nil
    have hm : m = 0 := by
      rcases Nat.eq_zero_or_pos m with h | h
      · exact h
      · have := Nat.mul_pos h hsz; rw [← hl] at this; simp at this
    subst hm
    exact ⟨v, w, run_append_none base t ty e i size ht hi v n xs hown c, by simpa using hown, World.grownBy.refl w _, fun _ h => .inl h⟩
  | some a =>
    have hnews : ∀ j u, news[j]? = some u → w.cell? (a.add j) = some u := fun j u hj => by
      obtain ⟨ad, h, hc⟩ := hv j u hj
      injection h with h
      subst h
      exact hc
    obtain ⟨v', w', hrun, h2, h3, h4⟩ := run_append_own (P := P) w base t ty e i z size bytes ht hi hz hi1 hib hz1 hsz v n xs hown a m c news hl hnews h1 hlen hbytes hbase
    refine ⟨v', w', hrun, h2, h3, fun k hk => ?_⟩
    subst hi1
    subst hib
    have h63 : n + m ≤ 9223372036854775807 := by simp only [maxLen] at hlen; omega
    rcases hown.2 with ⟨rfl, rfl⟩ | ⟨g, cap, cur, rfl, hbg, hg, hnc, hcm, hcs, htake⟩
    · by_cases hm : m = 0
      · rw [h4.2 ⟨rfl, hm⟩] at hk; cases hk
      · have hr := Go.run_append_nil (P := P) w t ty e i z ht hi hz a m c news hl hnews (by omega) (by omega) (by have hb := hbytes; simp only [Nat.zero_add] at hb; omega)
        rw [hr] at hrun
        injection hrun with hrun _
        rw [← hrun] at hk
        injection hk with hk
        exact .inr (Nat.le_of_eq hk)
    · by_cases hroom : n + m ≤ cap
      · have hfit : n * i.size + news.length ≤ cur.size := by rw [hl, hcs, ← Nat.add_mul]; exact Nat.mul_le_mul_right _ hroom
        have hr := run_append_room (P := P) w t ty e i ht hi g n cap cur hg a m c news hl hnews h1 hroom hfit
        rw [hr] at hrun
        injection hrun with hrun _
        rw [← hrun] at hk
        exact .inl hk
      · have hr := run_append_grow (P := P) w t ty e i z ht hi hz ⟨g, 0, none⟩ n cap xs hown.1 (hown.cells (g := g) rfl) a m c news hl hnews (by omega) (by omega) (growslice_fits (by omega) hbytes)
        rw [hr] at hrun
        injection hrun with hrun _
        rw [← hrun] at hk
        injection hk with hk
        exact .inr (Nat.le_of_eq hk)
theorem wpList_append_at {ops : Array Oper} {rest : List Oper} {o : Oper} {a : Act} {Q : Exit → Act → World → Prop} (hg : o.guard = none) (s x : Operand) (t : TypeId)
    (ho : o.op = .call { callee := .builtin .append, args := #[s, x], argTypes := #[t, t] })
    (base : Nat) (e : TypeId) (i : TypeInfo) (z : Value) (size bytes : Nat) (ht : P.underlying t = some (.slice e)) (hi : P.info? e = some i) (hz : i.zero = some z)
    (hi1 : i.size = size) (hib : i.bytes = bytes) (hz1 : z.cells.size = size) (hsz : 0 < size) (v : Value) (n : Nat) (xs : List Value) (hs : a.eval s = v) (hown : w.ownsRow base e size v n xs)
    (A : Option Addr) (m c : Nat) (news : List Value) (hx : a.eval x = .slice A m c) (hl : news.length = m * size) (hv : Src w A news) (h1 : ∀ u ∈ news, u.oneCell' = true)
    (hlen : n + m ≤ maxLen) (hbytes : (n + m) * bytes ≤ 140737488355328) (hbase : base ≤ w.heap.size)
    (h : ∀ v' w', w'.ownsRow base e size v' (n + m) (xs ++ news) → w.grownBy w' v.ownBlock → (∀ k, v'.ownBlock = some k → v.ownBlock = some k ∨ w.heap.size ≤ k) → wpList P ops Q rest (a.put o.dst v') w') : wpList P ops Q (o :: rest) a w := by
  refine wpList_plain hg fun K hK => ?_
  obtain ⟨v', w', hrun, h2, h3, h4⟩ := run_append_at (P := P) (w := w) base t o.type e i z size bytes ht hi hz hi1 hib hz1 hsz v n xs hown A m c news hl hv h1 hlen hbytes hbase
  unfold Oper.wp execOp
  simp only [ho, resolve, invoke, builtin, Sem.run_bind, Sem.run_pure, Result.andThen_ok, List.map_toArray, List.map_cons, List.map_nil, hs, hx, hrun]
  exact hK _ _ (h v' w' h2 h3 h4)
end
end Go.Proofs.YtnfbgpjadnlgbaaGreat

set_option linter.unusedVariables false
set_option maxRecDepth 100000
namespace Go.Proofs.YtnfbgpjadnlgbaaGreat
open Go.RowKit

/-- A builder lies in block T from cell o on (v: the row of its nodes, whose block lies at B or behind), and has these nodes and so many groups. -/
structure Bldr (w : World) (B T o : Nat) (v : Value) (ns : List Nod) (g : Nat) : Prop where
  obj : ∃ t cs, Held w T t cs ∧ 39 ≠ t ∧ cs[o]? = some v ∧ cs[o + 1]? = some (.int .i64 (g : Int))
  own : w.ownsRow B 39 10 v ns.length (nodsL ns)
  len : ns.length ≤ 1000
  grp : g ≤ 9
  base : B ≤ w.heap.size
/-- What a call of a builder's turns: its two cells, its row's block, new blocks. -/
structure Chg (w w' : World) (T o : Nat) (v v' : Value) : Prop where
  os : w'.os = w.os
  tape : w'.tape = w.tape
  output : w'.output = w.output
  size : w.heap.size ≤ w'.heap.size
  far : ∀ k, k < w.heap.size → k ≠ T → some k ≠ v.ownBlock → w'.heap[k]? = w.heap[k]?
  near : ∀ t cs, Held w T t cs → ∃ cs', Held w' T t cs' ∧ cs'.size = cs.size ∧ ∀ i, i ≠ o → i ≠ o + 1 → cs'[i]? = cs[i]?
  row : ∀ k, v'.ownBlock = some k → v.ownBlock = some k ∨ w.heap.size ≤ k
section
variable {w w' w1 : World} {B T o g : Nat} {v v' v1 : Value} {ns : List Nod}
theorem Chg.of_below (h : Below w.heap.size w w') : Chg w w' T o v v :=
  ⟨h.os, h.tape, h.output, h.size, fun k hk _ _ => h.block k hk, fun t cs hc => ⟨cs, hc.keep h, rfl, fun _ _ _ => rfl⟩, fun _ e => .inl e⟩
theorem Chg.trans (h : Chg w w1 T o v v1) (k : Chg w1 w' T o v1 v') : Chg w w' T o v v' := by
  refine ⟨k.os.trans h.os, k.tape.trans h.tape, k.output.trans h.output, Nat.le_trans h.size k.size, fun j hj hT hv => ?_, fun t cs hc => ?_, fun j e => ?_⟩
  · refine (k.far j (Nat.lt_of_lt_of_le hj h.size) hT (fun e => ?_)).trans (h.far j hj hT hv)
    rcases h.row j e.symm with e1 | e1
    · exact hv e1.symm
    · omega
  · obtain ⟨c1, h1, s1, n1⟩ := h.near t cs hc
    obtain ⟨c2, h2, s2, n2⟩ := k.near t c1 h1
    exact ⟨c2, h2, s2.trans s1, fun i i1 i2 => (n2 i i1 i2).trans (n1 i i1 i2)⟩
  · rcases k.row j e with e1 | e1
    · exact h.row j e1
    · exact .inr (Nat.le_trans h.size e1)
theorem Chg.store {p : Nat} (hp : p = o ∨ p = o + 1) (u : Value) : Chg w (w.setCell ⟨T, p, none⟩ u) T o v v := by
  have hb : Below 0 w (w.setCell ⟨T, p, none⟩ u) := (Below.refl 0 w).setCell (Nat.zero_le _) u
  refine ⟨hb.os, hb.tape, hb.output, hb.size, fun k hk hT _ => Below.heap_setCell w _ u k hT, fun t cs hc => ⟨_, hc.put p u, by simp, fun i i1 i2 => ?_⟩, fun _ e => .inl e⟩
  rw [Array.getElem?_setIfInBounds, if_neg (by omega)]
theorem Chg.grown (h : w.grownBy w' v.ownBlock) (hT : v.ownBlock ≠ some T) (hTl : T < w.heap.size) (hv : ∀ k, v'.ownBlock = some k → v.ownBlock = some k ∨ w.heap.size ≤ k) : Chg w w' T o v v' :=
  ⟨h.os, h.tape, h.output, h.size, fun k hk _ hne => h.block k hk hne, fun t cs hc => ⟨cs, hc.grown h (fun e => hT e.symm), rfl, fun _ _ _ => rfl⟩, hv⟩
theorem Chg.below (h : Chg w w' T o v v') (hB : B ≤ w.heap.size) (hT : B ≤ T) (hv : ∀ k, v.ownBlock = some k → B ≤ k) : Below B w w' :=
  ⟨h.os, h.tape, h.output, h.size, fun k hk => h.far k (by omega) (by omega) (fun e => by have := hv k e.symm; omega)⟩
theorem Bldr.lt (h : Bldr w B T o v ns g) : T < w.heap.size := by obtain ⟨t, cs, hc, _⟩ := h.obj; exact hc.lt
theorem Bldr.cv (h : Bldr w B T o v ns g) : w.cell? ⟨T, o, none⟩ = some v := by obtain ⟨t, cs, hc, _, h1, _⟩ := h.obj; exact hc.at_ h1
theorem Bldr.cg (h : Bldr w B T o v ns g) : w.cell? ⟨T, o + 1, none⟩ = some (.int .i64 (g : Int)) := by obtain ⟨t, cs, hc, _, _, h1⟩ := h.obj; exact hc.at_ h1
theorem Bldr.thawed (h : Bldr w B T o v ns g) (p : Nat) : w.frozen? ⟨T, p, none⟩ = false := by obtain ⟨t, cs, hc, _⟩ := h.obj; exact hc.thawed p
theorem Bldr.row (h : Bldr w B T o v ns g) : ∀ k, v.ownBlock = some k → B ≤ k := fun k e => (h.own.lt k e).1
theorem Bldr.apart (h : Bldr w B T o v ns g) : v.ownBlock ≠ some T := by obtain ⟨t, cs, hc, hne, _⟩ := h.obj; exact hc.not_own h.own hne
theorem Bldr.keep (h : Bldr w B T o v ns g) (hb : Below w.heap.size w w') : Bldr w' B T o v ns g := by
  obtain ⟨t, cs, hc, hne, h1, h2⟩ := h.obj
  exact ⟨⟨t, cs, hc.keep hb, hne, h1, h2⟩, own_below h.own hb, h.len, h.grp, Nat.le_trans h.base hb.size⟩
theorem Bldr.drew (h : Bldr w B T o v ns g) : Bldr w.drew B T o v ns g := h.keep (Below.refl _ w).drew
theorem Bldr.below (h : Bldr w B T o v ns g) (hT : B ≤ T) (hc : Chg w w' T o v v') : Below B w w' := hc.below h.base hT h.row
theorem Bldr.slice (h : Bldr w B T o v ns g) : ∃ A cap, v = .slice A ns.length cap ∧ ns.length ≤ cap ∧ cap ≤ maxLen ∧ Nods w w.heap.size A ns := by
  obtain ⟨A, cap, h1, _, h2, h3, h4⟩ := own_nods h.own
  exact ⟨A, cap, h1, h2, h3, h4⟩
/-- The number of groups is another. -/
theorem Bldr.group (h : Bldr w B T o v ns g) {q : Nat} (hq : q ≤ 9) : Bldr (w.setCell ⟨T, o + 1, none⟩ (.int .i64 (q : Int))) B T o v ns q := by
  obtain ⟨t, cs, hc, hne, h1, h2⟩ := h.obj
  have hlt : o + 1 < cs.size := (Array.getElem?_eq_some_iff.1 h2).1
  have hgr : w.grownBy (w.setCell ⟨T, o + 1, none⟩ (.int .i64 (q : Int))) (some T) := by
    have hb : Below 0 w (w.setCell ⟨T, o + 1, none⟩ (.int .i64 (q : Int))) := (Below.refl 0 w).setCell (Nat.zero_le _) _
    exact ⟨hb.os, hb.tape, hb.output, hb.size, fun k _ hne => Below.heap_setCell w _ _ k (fun e => hne (by rw [e]))⟩
  refine ⟨⟨t, _, hc.put (o + 1) _, hne, ?_, ?_⟩, h.own.kept hgr (.inr h.apart), h.len, hq, Nat.le_trans h.base hgr.size⟩
  · rw [Array.getElem?_setIfInBounds, if_neg (by omega)]; exact h1
  · rw [Array.getElem?_setIfInBounds, if_pos rfl, if_pos hlt]
end

theorem has_any (B T o : Nat) (v : Value) (ns : List Nod) (g : Nat) (x : Int) (w : World) (h : Bldr w B T o v ns g) :
    Calls Tryz.prog 40 #[.pointer (some ⟨T, o, none⟩), .int .i64 x] w fun e w' => e = .returned (.bool (okP (ns.length : Int) x)) ∧ w = w' := by
  have hcv := h.cv
  obtain ⟨A, cap, rfl, h1, h2, -⟩ := h.slice
  have hl := h.len
  clear h
  unfold maxLen at h2
  generalize ns.length = n at *
  by_cases hx : x < 0
  · rw [okP_neg hx]
    go_enter Tryz.func40, Tryz.ntmps40
    go_wp2
    go_ret
    exact ⟨rfl, rfl⟩
  · have hx0 : 0 ≤ x := by omega
    rw [show okP (n : Int) x = decide (x < (n : Int)) by simp [okP, hx0]]
    go_enter Tryz.func40, Tryz.ntmps40
    go_wp2
    go_ret
    exact ⟨rfl, rfl⟩

/-- What Open answers, and how many groups there are behind it. -/
def openI (g : Nat) : Int := if g < 9 then (g : Int) + 1 else -1
def openG (g : Nat) : Nat := if g < 9 then g + 1 else g
theorem openG_le {g : Nat} (h : g ≤ 9) : openG g ≤ 9 := by unfold openG; split <;> omega
theorem open_any (B T o : Nat) (v : Value) (ns : List Nod) (g : Nat) (w : World) (h : Bldr w B T o v ns g) :
    Calls Tryz.prog 78 #[.pointer (some ⟨T, o, none⟩)] w fun e w' => e = .returned (.int .i64 (openI g)) ∧ Bldr w' B T o v ns (openG g) ∧ Chg w w' T o v v := by
  have hcg := h.cg
  have hth := h.thawed (o + 1)
  have hg := h.grp
  by_cases h9 : g < 9
  · rw [show openI g = (g : Int) + 1 by simp [openI, h9], show openG g = g + 1 by simp [openG, h9]]
    have h' := Lib.hid (h.group (q := g + 1) (by omega))
    clear h
    go_enter Tryz.func78, Tryz.ntmps78
    go_wp2
    go_ret
    exact ⟨rfl, h'.out, Chg.store (.inr rfl) _⟩
  · rw [show openI g = -1 by simp [openI, h9], show openG g = g by simp [openG, h9]]
    obtain rfl : g = 9 := by omega
    have h' := Lib.hid h
    clear h
    go_enter Tryz.func78, Tryz.ntmps78
    go_wp2
    go_ret
    exact ⟨rfl, h'.out, Chg.of_below (Below.refl _ _)⟩
end Go.Proofs.YtnfbgpjadnlgbaaGreat

set_option linter.unusedVariables false
set_option maxRecDepth 100000
namespace Go.Proofs.YtnfbgpjadnlgbaaGreat
open Go.RowKit

noncomputable def canPut (ns : List Nod) (g : Nat) (n : Nod) : Bool := decide (ns.length < 1000) && fitsN n (ns.length : Int) (g : Int)
noncomputable def putI (ns : List Nod) (g : Nat) (n : Nod) : Int := if canPut ns g n = true then (ns.length : Int) else -1
noncomputable def putL (ns : List Nod) (g : Nat) (n : Nod) : List Nod := if canPut ns g n = true then ns ++ [n] else ns
/-- What a call that puts something leaves. -/
def BldRet (w : World) (B T o : Nat) (v : Value) (z : Int) (ns : List Nod) (g : Nat) (e : Ending) (w' : World) : Prop :=
  ∃ v', e = .returned (.int .i64 z) ∧ Bldr w' B T o v' ns g ∧ Chg w w' T o v v'
theorem BldRet.mk {w : World} {B T o : Nat} {v v' : Value} {z z' : Int} {ns : List Nod} {g : Nat} {w' : World} (hz : z' = z) (h : Bldr w' B T o v' ns g) (hc : Chg w w' T o v v') : BldRet w B T o v z ns g (.returned (.int .i64 z')) w' := ⟨v', by rw [hz], h, hc⟩
theorem node_info : (Tryz.prog.info? 39).map (fun i => (i.zero, i.size, i.bytes)) = some (some (.agg #[.int .i64 0, .int .i64 0, .int .i64 0, .int .i64 0, .int .i64 0, .int .i64 0, .int .u64 0, .int .u64 0, .int .u64 0, .int .u64 0]), 10, 80) := by kernel_rfl
/-- A node's cells. -/
def CellsN (w : World) (B : Nat) (k a b lo hi g : Int) (s0 s1 s2 s3 : Nat) : Prop :=
  w.cell? ⟨B, 0, none⟩ = some (.int .i64 k) ∧ w.cell? ⟨B, 1, none⟩ = some (.int .i64 a) ∧ w.cell? ⟨B, 2, none⟩ = some (.int .i64 b) ∧ w.cell? ⟨B, 3, none⟩ = some (.int .i64 lo) ∧ w.cell? ⟨B, 4, none⟩ = some (.int .i64 hi) ∧
  w.cell? ⟨B, 5, none⟩ = some (.int .i64 g) ∧ w.cell? ⟨B, 6, none⟩ = some (.int .u64 (s0 : Int)) ∧ w.cell? ⟨B, 7, none⟩ = some (.int .u64 (s1 : Int)) ∧ w.cell? ⟨B, 8, none⟩ = some (.int .u64 (s2 : Int)) ∧ w.cell? ⟨B, 9, none⟩ = some (.int .u64 (s3 : Int))
/-- A node more. -/
theorem Bldr.more {w w' : World} {B T o : Nat} {v u : Value} {ns : List Nod} {g : Nat} {n : Nod} (h : Bldr w B T o v ns g) (hl : ns.length < 1000) (hown : w'.ownsRow B 39 10 u (ns.length + 1) (nodsL ns ++ nodL n)) (hg : w.grownBy w' v.ownBlock) :
    Bldr (w'.setCell ⟨T, o, none⟩ u) B T o u (ns ++ [n]) g := by
  obtain ⟨t, cs, hc, hne, h1, h2⟩ := h.obj
  have hlt : o < cs.size := (Array.getElem?_eq_some_iff.1 h1).1
  have hT : Held w' T t cs := hc.grown hg (fun e => h.apart e.symm)
  have hgr : w'.grownBy (w'.setCell ⟨T, o, none⟩ u) (some T) := by
    have hb : Below 0 w' (w'.setCell ⟨T, o, none⟩ u) := (Below.refl 0 w').setCell (Nat.zero_le _) u
    exact ⟨hb.os, hb.tape, hb.output, hb.size, fun k _ hne => Below.heap_setCell w' _ u k (fun e => hne (by rw [e]))⟩
  have hne2 : u.ownBlock ≠ some T := hT.not_own hown hne
  refine ⟨⟨t, _, hT.put o u, hne, ?_, ?_⟩, ?_, by simp; omega, h.grp, Nat.le_trans (Nat.le_trans h.base hg.size) hgr.size⟩
  · rw [Array.getElem?_setIfInBounds, if_pos rfl, if_pos hlt]
  · rw [Array.getElem?_setIfInBounds, if_neg (by omega)]; exact h2
  · have := hown.kept hgr (.inr hne2)
    rw [nodsL_append, List.length_append]
    have e : nodsL [n] = nodL n := by simp [nodsL]
    rw [e]
    exact this

theorem Bldr.grown {w w' : World} {B T o : Nat} {v : Value} {ns : List Nod} {g : Nat} (h : Bldr w B T o v ns g) (hg : w.grownBy w' v.ownBlock) : w'.cell? ⟨T, o, none⟩ = some v ∧ w'.frozen? ⟨T, o, none⟩ = false := by
  obtain ⟨t, cs, hc, hne, h1, h2⟩ := h.obj
  have hT : Held w' T t cs := hc.grown hg (fun e => h.apart e.symm)
  exact ⟨hT.at_ h1, hT.thawed o⟩

set_option maxRecDepth 100000 in
set_option maxHeartbeats 16000000 in
theorem put_any (B T o : Nat) (v : Value) (ns : List Nod) (g : Nat) (n : Nod) (w : World) (h : Bldr w B T o v ns g) :
    Calls Tryz.prog 35 #[.pointer (some ⟨T, o, none⟩), nodV n] w (BldRet w B T o v (putI ns g n) (putL ns g n) g) := by
  have hF := Lib.hid (fun w => fits_any n (ns.length : Int) (g : Int) w)
  have hb0 : Below w.heap.size w (w.alloc (.cells (nodC n) 39)) := (Below.refl _ _).alloc (Nat.le_refl _) _
  have hN0 := held_new w 39 (nodC n)
  have h0 := h.keep hb0
  have hcv := h0.cv
  have hcg := h0.cg
  have hth := h0.thawed o
  have hTl := h.lt
  have hap := Lib.hid (show some w.heap.size ≠ v.ownBlock from fun e => absurd (h.own.lt _ e.symm).2 (Nat.lt_irrefl _))
  obtain ⟨A, cap, rfl, hk1, hk2, -⟩ := h.slice
  have hl := h.len
  have hne : T ≠ w.heap.size := by omega
  obtain ⟨i0, hi0, hq0, hq1, hq2⟩ := info_parts node_info
  have hI2 := Lib.hid hq2
  have hh := Lib.hid h
  have hh0 := Lib.hid h0
  clear h h0 hq2
  unfold maxLen at hk2
  by_cases hbig : 1000 ≤ ns.length
  · have hp : canPut ns g n = false := by unfold canPut; rw [decide_eq_false (by omega)]; rfl
    rw [show putI ns g n = -1 by simp [putI, hp], show putL ns g n = ns by simp [putL, hp]]
    have g1 : decide (1000 ≤ (ns.length : Int)) = true := decide_eq_true (by omega)
    have hlen : ns.length = 1000 := by omega
    rw [hlen] at hcv g1
    replace hlen := Lib.hid hlen
    rw [hlen.out] at hh hh0 ⊢
    clear hF hN0 hi0 hq0 hq1 hI2 hk1 hl hbig
    have hb0' := Lib.hid hb0
    clear hb0
    show Calls Tryz.prog 35 #[.pointer (some ⟨T, o, none⟩), .agg (nodC n)] w _
    go_enter Tryz.func35, Tryz.ntmps35
    go_wp2
    go_quiet (fail)
    go_wp2
    go_ret
    exact BldRet.mk rfl ((hh0.out).keep (below_drewN (Below.refl _ _) _)) (Chg.of_below (below_drewN hb0'.out _))
  · have hbig : ns.length < 1000 := by omega
    have hp : canPut ns g n = fitsN n (ns.length : Int) (g : Int) := by unfold canPut; rw [decide_eq_true hbig]; rfl
    have hI : putI ns g n = if fitsN n (ns.length : Int) (g : Int) = true then (ns.length : Int) else -1 := by rw [← hp]; rfl
    have hL : putL ns g n = if fitsN n (ns.length : Int) (g : Int) = true then ns ++ [n] else ns := by rw [← hp]; rfl
    rw [hI, hL]
    clear hI hL hp
    have g1 : decide (1000 ≤ (ns.length : Int)) = false := decide_eq_false (by omega)
    have hmore := Lib.hid (fun w w' u (h : Bldr w B T o (.slice A ns.length cap) ns g) => h.more (w' := w') (u := u) (n := n) hbig)
    have hlen := Lib.hid (show ns.length = ns.length from rfl)
    generalize fitsN n (ns.length : Int) (g : Int) = fb at *
    generalize hLg : ns.length = L at *
    replace hLg := Lib.hid hLg
    generalize hnn : ns ++ [n] = nn at *
    generalize hnl : nodL n = nl at *
    generalize hz : (if fb = true then (L : Int) else -1) = z
    generalize hzl : (if fb = true then nn else ns) = zl
    replace hz := Lib.hid hz
    replace hzl := Lib.hid hzl
    have hnl' := Lib.hid hnl
    have hb0' := Lib.hid hb0
    obtain ⟨kd, a, b, lo, hi', gr, s⟩ := n
    rw [show nodC ⟨kd, a, b, lo, hi', gr, s⟩ = #[.int .i64 kd, .int .i64 a, .int .i64 b, .int .i64 lo, .int .i64 hi', .int .i64 gr, .int .u64 (wd s 0 : Nat), .int .u64 (wd s 1 : Nat), .int .u64 (wd s 2 : Nat), .int .u64 (wd s 3 : Nat)] from rfl] at hN0 hb0 hb0' hcv hcg hth hh0
    rw [nodV_lit] at hF ⊢
    rw [show nodL ⟨kd, a, b, lo, hi', gr, s⟩ = [.int .i64 kd, .int .i64 a, .int .i64 b, .int .i64 lo, .int .i64 hi', .int .i64 gr, .int .u64 (wd s 0 : Nat), .int .u64 (wd s 1 : Nat), .int .u64 (wd s 2 : Nat), .int .u64 (wd s 3 : Nat)] from rfl] at hnl'
    clear hnl hnn hlen
    generalize wd s 0 = s0 at *
    generalize wd s 1 = s1 at *
    generalize wd s 2 = s2 at *
    generalize wd s 3 = s3 at *
    have hN0' := Lib.hid hN0
    clear hb0
    go_enter Tryz.func35, Tryz.ntmps35
    go_wp2
    have hN1 := Lib.hid hN0'.out.drew
    have hB1 := Lib.hid hh0.out.drew
    have hW1 := Lib.hid hb0'.out.drew
    clear hN0' hN0 hh0 hb0' hcv hcg hth
    go_region_held3 (fun w' => w'.cell? ⟨w.heap.size, 0, none⟩ = some (.int .i64 kd) ∧ w'.cell? ⟨w.heap.size, 1, none⟩ = some (.int .i64 a) ∧ w'.cell? ⟨w.heap.size, 2, none⟩ = some (.int .i64 b) ∧ w'.cell? ⟨w.heap.size, 3, none⟩ = some (.int .i64 lo) ∧ w'.cell? ⟨w.heap.size, 4, none⟩ = some (.int .i64 hi') ∧ w'.cell? ⟨w.heap.size, 5, none⟩ = some (.int .i64 gr) ∧ w'.cell? ⟨w.heap.size, 6, none⟩ = some (.int .u64 (s0 : Int)) ∧ w'.cell? ⟨w.heap.size, 7, none⟩ = some (.int .u64 (s1 : Int)) ∧ w'.cell? ⟨w.heap.size, 8, none⟩ = some (.int .u64 (s2 : Int)) ∧ w'.cell? ⟨w.heap.size, 9, none⟩ = some (.int .u64 (s3 : Int)) ∧ w'.cell? ⟨T, o + 1, none⟩ = some (.int .i64 (g : Int)))
      (first | exact ⟨hN1.out.cells10.1, hN1.out.cells10.2.1, hN1.out.cells10.2.2.1, hN1.out.cells10.2.2.2.1, hN1.out.cells10.2.2.2.2.1, hN1.out.cells10.2.2.2.2.2.1, hN1.out.cells10.2.2.2.2.2.2.1, hN1.out.cells10.2.2.2.2.2.2.2.1, hN1.out.cells10.2.2.2.2.2.2.2.2.1, hN1.out.cells10.2.2.2.2.2.2.2.2.2, hB1.out.cg⟩ | go_keep)
      (first
      | (go_at_call 55; refine (hF.out _).mono ?_; rintro e w3 ⟨rfl, hb3⟩; replace hN1 := Lib.hid (hN1.out.keep hb3); replace hB1 := Lib.hid (hB1.out.keep hb3); replace hW1 := Lib.hid (hW1.out.trans (hb3.mono hW1.out.size))))
    cases fb
    · have hz1 := Lib.hid (show -1 = z from hz.out)
      have hzl1 := Lib.hid (show ns = zl from hzl.out)
      clear hz hzl
      go_wp2
      go_ret
      exact BldRet.mk hz1.out (by rw [← hzl1.out]; exact hB1.out) (Chg.of_below hW1.out)
    · have hz1 := Lib.hid (show (L : Int) = z from hz.out)
      have hzl1 := Lib.hid (show nn = zl from hzl.out)
      clear hz hzl hF
      go_wp2
      have hN2 := Lib.hid hN1.out.drew
      have hB2 := Lib.hid hB1.out.drew
      have hW2 := Lib.hid hW1.out.drew
      clear hN1 hB1 hW1
      have hal := Lib.hid (fun o' : Obj => (Below.refl w3.drew.heap.size w3.drew).alloc (Nat.le_refl _) o')
      have hTl2 := hB2.out.lt
      have hne2 : T ≠ w3.heap.size := by
        have : w3.drew.heap.size = w3.heap.size := rfl
        omega
      have hne3 : w.heap.size ≠ w3.heap.size := by
        have := hN2.out.lt
        have e : w3.drew.heap.size = w3.heap.size := rfl
        omega
      have hcv : w3.cell? ⟨T, o, none⟩ = some (.slice A L cap) := hB2.out.cv
      have hTl3 : T < w3.heap.size := hTl2
      have hNl3 : w.heap.size < w3.heap.size := hN2.out.lt
      have ⟨c0, c1, c2, c3, c4, c5, c6, c7, c8, c9⟩ : CellsN w3 w.heap.size kd a b lo hi' gr s0 s1 s2 s3 := hN2.out.cells10
      go_region_law (
        refine step_append_lies _ (by rfl) _ _ 24 (by rfl) B 39 i0 _ 10 80 Tryz.underlying24 hi0 hq0 hq1 hI2.out rfl (by decide) (.slice A L cap) L (nodsL ns) (by rfl) (by have := (hB2.out.keep (hal.out (.cells #[.int .i64 kd, .int .i64 a, .int .i64 b, .int .i64 lo, .int .i64 hi', .int .i64 gr, .int .u64 (s0 : Int), .int .u64 (s1 : Int), .int .u64 (s2 : Int), .int .u64 (s3 : Int)] 39))).own; rwa [hLg.out] at this) ⟨w3.drew.heap.size, 0, none⟩ 1 1 [.int .i64 kd, .int .i64 a, .int .i64 b, .int .i64 lo, .int .i64 hi', .int .i64 gr, .int .u64 (s0 : Int), .int .u64 (s1 : Int), .int .u64 (s2 : Int), .int .u64 (s3 : Int)] (by rfl) rfl (new_cells w3.drew [.int .i64 kd, .int .i64 a, .int .i64 b, .int .i64 lo, .int .i64 hi', .int .i64 gr, .int .u64 (s0 : Int), .int .u64 (s1 : Int), .int .u64 (s2 : Int), .int .u64 (s3 : Int)] 39) (by simp [Value.oneCell']) (by omega) (by unfold maxLen; omega) (by omega) (by exact (hB2.out.keep (hal.out _)).base) (w3.drew.heap.size + 1) (by simp) ?_; intro g6 c6 w6 hown6 hg6 hb6 hg6lt
        have hB5 := Lib.hid (hB2.out.keep (hal.out (.cells #[.int .i64 kd, .int .i64 a, .int .i64 b, .int .i64 lo, .int .i64 hi', .int .i64 gr, .int .u64 (s0 : Int), .int .u64 (s1 : Int), .int .u64 (s2 : Int), .int .u64 (s3 : Int)] 39)))
        have hN6 := Lib.hid ((hN2.out.alloc (.cells #[.int .i64 kd, .int .i64 a, .int .i64 b, .int .i64 lo, .int .i64 hi', .int .i64 gr, .int .u64 (s0 : Int), .int .u64 (s1 : Int), .int .u64 (s2 : Int), .int .u64 (s3 : Int)] 39)).grown hg6 hap.out)
        have hC6 := Lib.hid (hB5.out.grown hg6)
        have hc6 := hC6.out.1
        have hf6 := hC6.out.2
        have hM6 := Lib.hid (hown6)
        have hG6 := Lib.hid hg6
        have hZ6 := Lib.hid hb6
        have hFin := Lib.hid (show Bldr (w6.setCell ⟨T, o, none⟩ (.slice (some ⟨g6, 0, none⟩) (L + 1) c6)) B T o (.slice (some ⟨g6, 0, none⟩) (L + 1) c6) nn g ∧ Chg w (w6.setCell ⟨T, o, none⟩ (.slice (some ⟨g6, 0, none⟩) (L + 1) c6)) T o (.slice A L cap) (.slice (some ⟨g6, 0, none⟩) (L + 1) c6) from
          ⟨hmore.out _ _ _ hB5.out (by rw [← hnl'.out]; exact hM6.out) hG6.out,
            ((Chg.of_below (hW2.out.trans ((hal.out _).mono hW2.out.size))).trans (Chg.grown (v' := .slice (some ⟨g6, 0, none⟩) (L + 1) c6) hG6.out hB5.out.apart hB5.out.lt (fun k e => by
              have e : g6 = k := Option.some.inj e
              subst e
              exact hZ6.out.imp id (fun h => by rw [h, sizeA']; exact Nat.le_refl _)))).trans (Chg.store (.inl rfl) _)⟩)
        clear hown6 hg6 hb6 hB5 hM6 hG6 hZ6)
      all_goals
        go_wp2
        go_ret
        exact BldRet.mk hz1.out (by rw [← hzl1.out]; exact hFin.out.1) hFin.out.2
end Go.Proofs.YtnfbgpjadnlgbaaGreat
