/- What the function that joins holds: the parts told to it, in memory. -/
import Derived.Test.YtkfdehkembcaoaaSwpR
import Derived.Great.BuildSlice
set_option linter.unusedVariables false
set_option linter.unusedSimpArgs false
set_option maxRecDepth 100000
namespace Go.Proofs.Ytkfdehkembcaoaa
open Go.RowKit

def prtL (x : Prt × Value) : List Value := [.int .i64 x.1.kind, .int .i64 x.1.grp, x.2]
def prtsL (xs : List (Prt × Value)) : List Value := xs.flatMap prtL
theorem prtsL_app (a b : List (Prt × Value)) : prtsL (a ++ b) = prtsL a ++ prtsL b := by simp [prtsL]
theorem prtsL_len (xs : List (Prt × Value)) : (prtsL xs).length = xs.length * 3 := by
  induction xs with
  | nil => rfl
  | cons x r ih => unfold prtsL at ih ⊢; rw [List.flatMap_cons, List.length_append, ih, List.length_cons]; show 3 + _ = _; omega
theorem prtsL_at (xs : List (Prt × Value)) (k : Nat) (h : k < xs.length) (j : Nat) (hj : j < 3) : (prtsL xs)[k * 3 + j]? = (prtL (xs[k]'h))[j]? := by
  induction xs generalizing k with
  | nil => exact absurd h (Nat.not_lt_zero k)
  | cons s r ih =>
    have e : prtsL (s :: r) = prtL s ++ prtsL r := by simp [prtsL]
    have hl : (prtL s).length = 3 := rfl
    cases k with
    | zero => rw [e, List.getElem?_append_left (by omega), Nat.zero_mul, Nat.zero_add]; rfl
    | succ k =>
      rw [e, List.getElem?_append_right (by omega), hl, show (k + 1) * 3 + j - 3 = k * 3 + j by omega]
      exact ih k (Nat.lt_of_succ_lt_succ h)
theorem prtsL_set (ys : List (Prt × Value)) (q : Prt) (u u' : Value) : (prtsL (ys ++ [(q, u)])).set (ys.length * 3 + 2) u' = prtsL (ys ++ [(q, u')]) := by
  rw [prtsL_app, prtsL_app, List.set_append_right _ _ (by rw [prtsL_len]; omega), prtsL_len, show ys.length * 3 + 2 - ys.length * 3 = 2 by omega]
  rfl
theorem prt_infoz : (Try.prog.info? 45).map (fun i => (i.zero, i.size, i.bytes)) = some (some (.agg #[.int .i64 0, .int .i64 0, .slice none 0 0]), 3, 40) := by kernel_rfl
theorem sw_ne {w : World} {b1 b2 : Nat} {e1 e2 : TypeId} {s1 s2 n1 n2 : Nat} {v1 v2 : Value} {x1 x2 : List Value} (h1 : w.ownsRow b1 e1 s1 v1 n1 x1) (h2 : w.ownsRow b2 e2 s2 v2 n2 x2) (hne : e1 ≠ e2) : v1.ownBlock = none ∨ v1.ownBlock ≠ v2.ownBlock := by
  rcases h1.2 with ⟨rfl, _⟩ | ⟨g1, c1, cur1, rfl, _, hg1, _⟩
  · exact .inl rfl
  · refine .inr fun e => ?_
    rcases h2.2 with ⟨rfl, _⟩ | ⟨g2, c2, cur2, rfl, _, hg2, _⟩
    · cases e
    · have : g1 = g2 := by simpa [Value.ownBlock] using e
      subst this
      rw [hg1] at hg2
      injection hg2 with hg2
      injection hg2 with _ hg2
      exact hne hg2
theorem sw_far {w : World} {B G : Nat} {e t : TypeId} {s n : Nat} {v : Value} {xs : List Value} {cs : Array Value} (h : Held w G t cs) (hne : e ≠ t) (ho : w.ownsRow B e s v n xs) (i : Nat) (u : Value) : (w.setCell ⟨G, i, none⟩ u).ownsRow B e s v n xs := by
  have hb : Below 0 w (w.setCell ⟨G, i, none⟩ u) := (Below.refl 0 w).setCell (Nat.zero_le _) u
  refine World.ownsRow.kept (row := some G) ho ⟨hb.os, hb.tape, hb.output, hb.size, fun k _ hk => by rw [heap_setCell_other w ⟨G, i, none⟩ k u (fun e => hk (by rw [e]))]⟩ ?_
  cases hv : v.ownBlock with
  | none => exact .inl rfl
  | some k => exact .inr fun e => h.not_own ho hne (by rw [hv, e])
/-- The bytes of the parts: each in a row of its own; the last one's lies behind all others'. -/
def Lst (w : World) (base hi : Nat) (xs : List (Prt × Value)) : Prop :=
  xs = [] ∨ ∃ ys q u lo, xs = ys ++ [(q, u)] ∧ base ≤ lo ∧ lo ≤ hi ∧ (∀ y ∈ ys, OwnB w base y.2 y.1.b ∧ ∀ k, y.2.ownBlock = some k → k < lo) ∧ OwnB w lo u q.b ∧ ∀ k, u.ownBlock = some k → k < hi
theorem Lst.move {w w' : World} {base hi : Nat} {xs : List (Prt × Value)} (h : Lst w base hi xs) (hk : ∀ b0 u l, OwnB w b0 u l → OwnB w' b0 u l) : Lst w' base hi xs := by
  rcases h with h | ⟨ys, q, u, lo, h1, h2, h3, h4, h5, h6⟩
  · exact .inl h
  · exact .inr ⟨ys, q, u, lo, h1, h2, h3, fun y hy => ⟨hk _ _ _ (h4 y hy).1, (h4 y hy).2⟩, hk _ _ _ h5, h6⟩
theorem Lst.all {w : World} {base hi : Nat} {xs : List (Prt × Value)} (h : Lst w base hi xs) : ∀ y ∈ xs, OwnB w base y.2 y.1.b ∧ ∀ k, y.2.ownBlock = some k → k < hi := by
  rcases h with rfl | ⟨ys, q, u, lo, rfl, h2, h3, h4, h5, h6⟩
  · intro y hy; cases hy
  · intro y hy
    rcases List.mem_append.1 hy with hy | hy
    · exact ⟨(h4 y hy).1, fun k hk => Nat.lt_of_lt_of_le ((h4 y hy).2 k hk) h3⟩
    · rw [List.mem_singleton] at hy
      subst hy
      exact ⟨sw_base h5 h2, h6⟩
theorem Lst.push {w : World} {base hi hi' : Nat} {xs : List (Prt × Value)} {p : Prt} {pu : Value} (h : Lst w base hi xs) (hb : base ≤ hi) (hp : OwnB w hi pu p.b) (hh : hi ≤ hi') (hs : hi' = w.heap.size) : Lst w base hi' (xs ++ [(p, pu)]) :=
  .inr ⟨xs, p, pu, hi, rfl, hb, hh, h.all, hp, fun k hk => by rw [hs]; exact (World.ownsRow.lt hp k hk).2⟩
/-- What the function that joins holds. -/
structure JAt (w : World) (base hi J : Nat) (l : List Prt) (v : Value) : Prop where
  held : Held w J 22 #[v]
  lo : base ≤ J
  hi_ : hi ≤ w.heap.size
  bh : base ≤ hi
  row : ∃ xs : List (Prt × Value), xs.map Prod.fst = l ∧ w.ownsRow base 45 3 v xs.length (prtsL xs) ∧ Lst w base hi xs
theorem JAt.keep {w w' : World} {base hi J : Nat} {l : List Prt} {v : Value} (h : JAt w base hi J l v) (hb : Below w.heap.size w w') : JAt w' base hi J l v := by
  obtain ⟨xs, h1, h2, h3⟩ := h.row
  exact ⟨h.held.keep hb, h.lo, Nat.le_trans h.hi_ hb.size, h.bh, xs, h1, own_below h2 hb, h3.move fun _ _ _ ho => ho.keep hb⟩
theorem JAt.more {w : World} {base hi hi' J : Nat} {l : List Prt} {v : Value} (h : JAt w base hi J l v) (hh : hi ≤ hi') (hs : hi' ≤ w.heap.size) : JAt w base hi' J l v := by
  obtain ⟨xs, h1, h2, h3⟩ := h.row
  refine ⟨h.held, h.lo, hs, Nat.le_trans h.bh hh, xs, h1, h2, ?_⟩
  rcases h3 with h | ⟨ys, q, u, lo, k1, k2, k3, k4, k5, k6⟩
  · exact .inl h
  · exact .inr ⟨ys, q, u, lo, k1, k2, Nat.le_trans k3 hh, k4, k5, fun k hk => Nat.lt_of_lt_of_le (k6 k hk) hh⟩
theorem JAt.new (w : World) (base hi J : Nat) (hJ : Held w J 22 #[.slice none 0 0]) (hlo : base ≤ J) (hh : hi ≤ w.heap.size) (hb : base ≤ hi) : JAt w base hi J [] (.slice none 0 0) :=
  ⟨hJ, hlo, hh, hb, [], rfl, World.ownsRow_nil _ _ _ _, .inl rfl⟩
theorem OwnB.slice {w : World} {base : Nat} {v : Value} {l : List UInt8} (h : OwnB w base v l) : ∃ A n c, v = .slice A n c := by
  rcases h.2 with ⟨rfl, _⟩ | ⟨g, cap, _, rfl, _⟩
  · exact ⟨_, _, _, rfl⟩
  · exact ⟨_, _, _, rfl⟩
/-- Parts that are held, as parts that are read. -/
theorem JAt.prts {w : World} {base hi J : Nat} {l : List Prt} {v : Value} (h : JAt w base hi J l v) : ∃ A c, v = .slice A l.length c ∧ l.length ≤ c ∧ c ≤ maxLen ∧ Prts w w.heap.size A l := by
  obtain ⟨xs, rfl, h2, h3⟩ := h.row
  rw [List.length_map]
  have hall := h3.all
  obtain ⟨hl, ⟨rfl, h0⟩ | ⟨g, cap, cur, rfl, hbg, hg, hnc, hcm, hcs, htake⟩⟩ := id h2
  · have : xs.length = 0 := h0
    have : xs = [] := List.length_eq_zero_iff.1 this
    subst this
    exact ⟨none, 0, rfl, Nat.le_refl _, by simp [maxLen], Prts.none_ _ _ _⟩
  · refine ⟨some ⟨g, 0, none⟩, cap, rfl, hnc, hcm, fun k hk => ?_⟩
    rw [List.length_map] at hk
    have hlt := (h2.lt g rfl).2
    have hc : ∀ j, j < 3 → w.cell? ⟨g, k * 3 + j, none⟩ = (prtL (xs[k]'hk))[j]? := fun j hj => by
      rw [h2.cellAt (k * 3 + j) (by have : (k + 1) * 3 ≤ xs.length * 3 := Nat.mul_le_mul_right 3 hk; omega), prtsL_at xs k hk j hj]
    refine ⟨_, (xs[k]'hk).2, rfl, hlt, ?_, ?_, ?_, ?_⟩
    · rw [add_zero_off, List.getElem_map]; exact hc 0 (by omega)
    · rw [add_zero_off, List.getElem_map]; exact hc 1 (by omega)
    · rw [add_zero_off]; exact hc 2 (by omega)
    · rw [List.getElem_map]; exact (hall _ (List.getElem_mem hk)).1.byt
/-- A part put behind parts of the call's own. -/
theorem run_push {w : World} {base N : Nat} {v : Value} {xs : List (Prt × Value)} {p : Prt} {A : Option Addr} {n c : Nat} (ty : TypeId) (hown : w.ownsRow base 45 3 v xs.length (prtsL xs)) (hN : Held w N 45 #[.int .i64 p.kind, .int .i64 p.grp, .slice A n c]) (hl : xs.length ≤ 1000000) (hbase : base ≤ w.heap.size) :
    ∃ v' w', (Builtin.append_ #[22, 22] ty #[v, .slice (some ⟨N, 0, none⟩) 1 1]).run Try.prog w = .ok v' w' ∧ w'.ownsRow base 45 3 v' (xs ++ [(p, Value.slice A n c)]).length (prtsL (xs ++ [(p, Value.slice A n c)])) ∧ w.grownBy w' v.ownBlock := by
  obtain ⟨i0, hi0, hq0, hq1, hq2⟩ := sw_parts prt_infoz
  obtain ⟨v', w', hr, h1, h2, _⟩ := run_append_at (P := Try.prog) (w := w) base 22 ty 45 i0 _ 3 40 Try.underlying22 hi0 hq0 hq1 hq2 rfl (by decide) v xs.length (prtsL xs) hown (some ⟨N, 0, none⟩) 1 1 (prtL (p, Value.slice A n c)) rfl
    (fun j u hj => ⟨_, rfl, by rw [add_zero_off]; exact hN.at_ (by rw [← hj]; unfold prtL; simp)⟩) (by simp [prtL, Value.oneCell']) (by unfold maxLen; omega) (by omega) hbase
  refine ⟨v', w', hr, ?_, h2⟩
  rw [prtsL_app, List.length_append]
  show w'.ownsRow base 45 3 v' (xs.length + 1) (prtsL xs ++ prtsL [(p, Value.slice A n c)])
  rw [show prtsL [(p, Value.slice A n c)] = prtL (p, Value.slice A n c) by simp [prtsL]]
  exact h1
theorem wpList_push {ops : Array Oper} {rest : List Oper} {o : Oper} {a : Act} {w : World} {Q : Exit → Act → World → Prop} (hg : o.guard = none) (s x : Operand)
    (ho : o.op = .call { callee := .builtin .append, args := #[s, x], argTypes := #[22, 22] })
    {base N : Nat} {v : Value} {xs : List (Prt × Value)} {p : Prt} {A : Option Addr} {n c : Nat} (hs : a.eval s = v) (hown : w.ownsRow base 45 3 v xs.length (prtsL xs)) (hx : a.eval x = .slice (some ⟨N, 0, none⟩) 1 1) (hN : Held w N 45 #[.int .i64 p.kind, .int .i64 p.grp, .slice A n c]) (hl : xs.length ≤ 1000000) (hbase : base ≤ w.heap.size)
    (h : ∀ v' w', w'.ownsRow base 45 3 v' (xs ++ [(p, Value.slice A n c)]).length (prtsL (xs ++ [(p, Value.slice A n c)])) → w.grownBy w' v.ownBlock → wpList Try.prog ops Q rest (a.put o.dst v') w') : wpList Try.prog ops Q (o :: rest) a w := by
  refine wpList_plain hg fun K hK => ?_
  obtain ⟨v', w', hrun, h2, h3⟩ := run_push o.type hown hN hl hbase
  unfold Oper.wp execOp
  simp only [ho, resolve, invoke, builtin, Sem.run_bind, Sem.run_pure, Result.andThen_ok, List.map_toArray, List.map_cons, List.map_nil, hs, hx, hrun]
  exact hK _ _ (h v' w' h2 h3)
/-- Parts that a part was put behind: stored where they are held. -/
theorem JAt.pushed {w w1 : World} {base hi J : Nat} {xs : List (Prt × Value)} {v v' : Value} {p : Prt} {A : Option Addr} {n c : Nat} (hJ : Held w J 22 #[v]) (hlo : base ≤ J) (hbh : base ≤ hi) (hhi : hi ≤ w.heap.size) (hown : w.ownsRow base 45 3 v xs.length (prtsL xs)) (hls : Lst w base hi xs) (hp : OwnB w hi (.slice A n c) p.b)
    (h1 : w1.ownsRow base 45 3 v' (xs ++ [(p, Value.slice A n c)]).length (prtsL (xs ++ [(p, Value.slice A n c)]))) (h2 : w.grownBy w1 v.ownBlock) :
    JAt (w1.setCell ⟨J, 0, none⟩ v') base (w1.setCell ⟨J, 0, none⟩ v').heap.size J ((xs ++ [(p, Value.slice A n c)]).map Prod.fst) v' ∧ ∀ w0, Below base w0 w → Below base w0 (w1.setCell ⟨J, 0, none⟩ v') := by
  have hJ1 : Held w1 J 22 #[v] := hJ.grown h2 (fun e => hJ.not_own hown (by decide) e.symm)
  have mv : ∀ b0 u l, OwnB w b0 u l → OwnB (w1.setCell ⟨J, 0, none⟩ v') b0 u l := fun b0 u l ho => sw_far hJ1 (by decide) (World.ownsRow.kept ho h2 (sw_ne ho hown (by decide))) 0 v'
  have hsz : (w1.setCell ⟨J, 0, none⟩ v').heap.size = w1.heap.size := by simp
  refine ⟨⟨hJ1.put 0 v', hlo, Nat.le_refl _, Nat.le_trans hbh (by rw [hsz]; exact Nat.le_trans hhi h2.size), _, rfl, sw_far hJ1 (by decide) h1 0 v', (hls.move mv).push hbh (mv _ _ _ hp) (by rw [hsz]; exact Nat.le_trans hhi h2.size) rfl⟩, fun w0 h0 => ?_⟩
  exact (below_append h0 hown (Nat.le_trans hbh hhi) h2).setCell (p := ⟨J, 0, none⟩) hlo _
end Go.Proofs.Ytkfdehkembcaoaa
