/- A builder in memory; contracts: has, Open. -/
import Derived.Test.YtcloimdndcbchaaTreE
import Derived.Test.YtcloimdndcbchaaApp2
import Derived.Test.YtcloimdndcbchaaHeld
set_option linter.unusedVariables false
set_option maxRecDepth 100000
namespace Go.Proofs.Ytcloimdndcbchaa
open Go.RowKit

/-- A builder lies in block T from cell o on (v: the row of its nodes, whose block lies at B or behind), and has these nodes and so many groups. -/
structure Bldr (w : World) (B T o : Nat) (v : Value) (ns : List Nod) (g : Nat) : Prop where
  obj : ∃ t cs, Held w T t cs ∧ 37 ≠ t ∧ cs[o]? = some v ∧ cs[o + 1]? = some (.int .i64 (g : Int))
  own : w.ownsRow B 37 10 v ns.length (nodsL ns)
  len : ns.length ≤ 1000
  grp : g ≤ 9
  base : B ≤ w.heap.size
/-- What a call of a builder's turns: its two cells, its row's block, new blocks. -/
structure Chg (w w' : World) (T o : Nat) (v v' : Value) : Prop where
  os : w'.os = w.os
  tape : w'.tape = w.tape
  output : w'.output = w.output
  size : w.heap.size ≤ w'.heap.size
  far : ∀ k, k < w.heap.size → k ≠ T → some k ≠ v.ownBlock → w'.heap[k]? = w.heap[k]?
  near : ∀ t cs, Held w T t cs → ∃ cs', Held w' T t cs' ∧ cs'.size = cs.size ∧ ∀ i, i ≠ o → i ≠ o + 1 → cs'[i]? = cs[i]?
  row : ∀ k, v'.ownBlock = some k → v.ownBlock = some k ∨ w.heap.size ≤ k
section
variable {w w' w1 : World} {B T o g : Nat} {v v' v1 : Value} {ns : List Nod}
theorem Chg.of_below (h : Below w.heap.size w w') : Chg w w' T o v v :=
  ⟨h.os, h.tape, h.output, h.size, fun k hk _ _ => h.block k hk, fun t cs hc => ⟨cs, hc.keep h, rfl, fun _ _ _ => rfl⟩, fun _ e => .inl e⟩
theorem Chg.trans (h : Chg w w1 T o v v1) (k : Chg w1 w' T o v1 v') : Chg w w' T o v v' := by
  refine ⟨k.os.trans h.os, k.tape.trans h.tape, k.output.trans h.output, Nat.le_trans h.size k.size, fun j hj hT hv => ?_, fun t cs hc => ?_, fun j e => ?_⟩
  · refine (k.far j (Nat.lt_of_lt_of_le hj h.size) hT (fun e => ?_)).trans (h.far j hj hT hv)
    rcases h.row j e.symm with e1 | e1
    · exact hv e1.symm
    · omega
  · obtain ⟨c1, h1, s1, n1⟩ := h.near t cs hc
    obtain ⟨c2, h2, s2, n2⟩ := k.near t c1 h1
    exact ⟨c2, h2, s2.trans s1, fun i i1 i2 => (n2 i i1 i2).trans (n1 i i1 i2)⟩
  · rcases k.row j e with e1 | e1
    · exact h.row j e1
    · exact .inr (Nat.le_trans h.size e1)
theorem Chg.store {p : Nat} (hp : p = o ∨ p = o + 1) (u : Value) : Chg w (w.setCell ⟨T, p, none⟩ u) T o v v := by
  have hb : Below 0 w (w.setCell ⟨T, p, none⟩ u) := (Below.refl 0 w).setCell (Nat.zero_le _) u
  refine ⟨hb.os, hb.tape, hb.output, hb.size, fun k hk hT _ => Below.heap_setCell w _ u k hT, fun t cs hc => ⟨_, hc.put p u, by simp, fun i i1 i2 => ?_⟩, fun _ e => .inl e⟩
  rw [Array.getElem?_setIfInBounds, if_neg (by omega)]
theorem Chg.grown (h : w.grownBy w' v.ownBlock) (hT : v.ownBlock ≠ some T) (hTl : T < w.heap.size) (hv : ∀ k, v'.ownBlock = some k → v.ownBlock = some k ∨ w.heap.size ≤ k) : Chg w w' T o v v' :=
  ⟨h.os, h.tape, h.output, h.size, fun k hk _ hne => h.block k hk hne, fun t cs hc => ⟨cs, hc.grown h (fun e => hT e.symm), rfl, fun _ _ _ => rfl⟩, hv⟩
theorem Chg.below (h : Chg w w' T o v v') (hB : B ≤ w.heap.size) (hT : B ≤ T) (hv : ∀ k, v.ownBlock = some k → B ≤ k) : Below B w w' :=
  ⟨h.os, h.tape, h.output, h.size, fun k hk => h.far k (by omega) (by omega) (fun e => by have := hv k e.symm; omega)⟩
theorem Bldr.lt (h : Bldr w B T o v ns g) : T < w.heap.size := by obtain ⟨t, cs, hc, _⟩ := h.obj; exact hc.lt
theorem Bldr.cv (h : Bldr w B T o v ns g) : w.cell? ⟨T, o, none⟩ = some v := by obtain ⟨t, cs, hc, _, h1, _⟩ := h.obj; exact hc.at_ h1
theorem Bldr.cg (h : Bldr w B T o v ns g) : w.cell? ⟨T, o + 1, none⟩ = some (.int .i64 (g : Int)) := by obtain ⟨t, cs, hc, _, _, h1⟩ := h.obj; exact hc.at_ h1
theorem Bldr.thawed (h : Bldr w B T o v ns g) (p : Nat) : w.frozen? ⟨T, p, none⟩ = false := by obtain ⟨t, cs, hc, _⟩ := h.obj; exact hc.thawed p
theorem Bldr.row (h : Bldr w B T o v ns g) : ∀ k, v.ownBlock = some k → B ≤ k := fun k e => (h.own.lt k e).1
theorem Bldr.apart (h : Bldr w B T o v ns g) : v.ownBlock ≠ some T := by obtain ⟨t, cs, hc, hne, _⟩ := h.obj; exact hc.not_own h.own hne
theorem Bldr.keep (h : Bldr w B T o v ns g) (hb : Below w.heap.size w w') : Bldr w' B T o v ns g := by
  obtain ⟨t, cs, hc, hne, h1, h2⟩ := h.obj
  exact ⟨⟨t, cs, hc.keep hb, hne, h1, h2⟩, own_below h.own hb, h.len, h.grp, Nat.le_trans h.base hb.size⟩
theorem Bldr.drew (h : Bldr w B T o v ns g) : Bldr w.drew B T o v ns g := h.keep (Below.refl _ w).drew
theorem Bldr.below (h : Bldr w B T o v ns g) (hT : B ≤ T) (hc : Chg w w' T o v v') : Below B w w' := hc.below h.base hT h.row
theorem Bldr.slice (h : Bldr w B T o v ns g) : ∃ A cap, v = .slice A ns.length cap ∧ ns.length ≤ cap ∧ cap ≤ maxLen ∧ Nods w w.heap.size A ns := by
  obtain ⟨A, cap, h1, _, h2, h3, h4⟩ := own_nods h.own
  exact ⟨A, cap, h1, h2, h3, h4⟩
/-- The number of groups is another. -/
theorem Bldr.group (h : Bldr w B T o v ns g) {q : Nat} (hq : q ≤ 9) : Bldr (w.setCell ⟨T, o + 1, none⟩ (.int .i64 (q : Int))) B T o v ns q := by
  obtain ⟨t, cs, hc, hne, h1, h2⟩ := h.obj
  have hlt : o + 1 < cs.size := (Array.getElem?_eq_some_iff.1 h2).1
  have hgr : w.grownBy (w.setCell ⟨T, o + 1, none⟩ (.int .i64 (q : Int))) (some T) := by
    have hb : Below 0 w (w.setCell ⟨T, o + 1, none⟩ (.int .i64 (q : Int))) := (Below.refl 0 w).setCell (Nat.zero_le _) _
    exact ⟨hb.os, hb.tape, hb.output, hb.size, fun k _ hne => Below.heap_setCell w _ _ k (fun e => hne (by rw [e]))⟩
  refine ⟨⟨t, _, hc.put (o + 1) _, hne, ?_, ?_⟩, h.own.kept hgr (.inr h.apart), h.len, hq, Nat.le_trans h.base hgr.size⟩
  · rw [Array.getElem?_setIfInBounds, if_neg (by omega)]; exact h1
  · rw [Array.getElem?_setIfInBounds, if_pos rfl, if_pos hlt]
end

theorem has_any (B T o : Nat) (v : Value) (ns : List Nod) (g : Nat) (x : Int) (w : World) (h : Bldr w B T o v ns g) :
    Calls Try.prog 20 #[.pointer (some ⟨T, o, none⟩), .int .i64 x] w fun e w' => e = .returned (.bool (okP (ns.length : Int) x)) ∧ w = w' := by
  have hcv := h.cv
  obtain ⟨A, cap, rfl, h1, h2, -⟩ := h.slice
  have hl := h.len
  clear h
  unfold maxLen at h2
  generalize ns.length = n at *
  by_cases hx : x < 0
  · rw [okP_neg hx]
    go_enter Try.func20, Try.ntmps20
    go_wp2
    go_ret
    exact ⟨rfl, rfl⟩
  · have hx0 : 0 ≤ x := by omega
    rw [show okP (n : Int) x = decide (x < (n : Int)) by simp [okP, hx0]]
    go_enter Try.func20, Try.ntmps20
    go_wp2
    go_ret
    exact ⟨rfl, rfl⟩

/-- What Open answers, and how many groups there are behind it. -/
def openI (g : Nat) : Int := if g < 9 then (g : Int) + 1 else -1
def openG (g : Nat) : Nat := if g < 9 then g + 1 else g
theorem openG_le {g : Nat} (h : g ≤ 9) : openG g ≤ 9 := by unfold openG; split <;> omega
theorem open_any (B T o : Nat) (v : Value) (ns : List Nod) (g : Nat) (w : World) (h : Bldr w B T o v ns g) :
    Calls Try.prog 55 #[.pointer (some ⟨T, o, none⟩)] w fun e w' => e = .returned (.int .i64 (openI g)) ∧ Bldr w' B T o v ns (openG g) ∧ Chg w w' T o v v := by
  have hcg := h.cg
  have hth := h.thawed (o + 1)
  have hg := h.grp
  by_cases h9 : g < 9
  · rw [show openI g = (g : Int) + 1 by simp [openI, h9], show openG g = g + 1 by simp [openG, h9]]
    have h' := Lib.hid (h.group (q := g + 1) (by omega))
    clear h
    go_enter Try.func55, Try.ntmps55
    go_wp2
    go_ret
    exact ⟨rfl, h'.out, Chg.store (.inr rfl) _⟩
  · rw [show openI g = -1 by simp [openI, h9], show openG g = g by simp [openG, h9]]
    obtain rfl : g = 9 := by omega
    have h' := Lib.hid h
    clear h
    go_enter Try.func55, Try.ntmps55
    go_wp2
    go_ret
    exact ⟨rfl, h'.out, Chg.of_below (Below.refl _ _)⟩
end Go.Proofs.Ytcloimdndcbchaa
