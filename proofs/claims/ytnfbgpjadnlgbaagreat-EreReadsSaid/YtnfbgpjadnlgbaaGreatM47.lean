/- The reference's extended, put together; what holds while alternatives are read. -/
import Derived.Test.YtnfbgpjadnlgbaaGreatM46
set_option linter.unusedVariables false
set_option maxRecDepth 100000
namespace Go.Proofs.YtnfbgpjadnlgbaaGreat
open Go.RowKit

theorem eext_any {w : World} {B T : Nat} {A : Option Addr} {n c : Nat} {l : List UInt8} {v : Value} {ns : List Nod} {g i : Nat} {cl : Nat → Bool} {inG first : Bool} (h : Rdr w B T A n c l v ns g i cl 0) (hp : PieAt l i inG) (hsm : n ≤ 300) (hrm : ns.length ≤ 2 * i) (hB : ∀ k, k < n - i → EAltOK k) :
    Calls Tryz.prog 39 #[.pointer (some ⟨T, 0, none⟩), .bool first] w (ENode true w B T A n c l v ns g i cl inG) := by
  have hnl := h.hn
  have hlt := hp.lt
  have hl : ns.length < 1000 := by omega
  have hx := List.drop_eq_getElem_cons hlt
  generalize l[i] = x at hx
  by_cases x0 : repB x
  · exact eext_rep h hp hx x0
  by_cases x1 : x = 41
  · subst x1; exact eext_par h hp hx
  by_cases x2 : x = 94
  · subst x2; exact eext_bol h hp hl hx
  by_cases x3 : x = 36
  · subst x3; exact eext_eol h hp hl hx
  exact eext_body h hp hsm hrm hB hx x0 x1 x2 x3
/-- Ahead of a branch. -/
def RelAlt (w : World) (B T : Nat) (A : Option Addr) (n c : Nat) (l : List UInt8) (v : Value) (ns : List Nod) (g i : Nat) (cl : Nat → Bool) (inG : Bool) (s5 : Value) (wr : World) : Prop :=
  ∃ v' ns' g' i' cl' bs, Rdr wr B T A n c l v' ns' g' i' cl' 0 ∧ ChP w wr T v v' ∧ Pcs w.heap.size wr s5 bs ∧ (∀ p ∈ bs, okP (ns'.length : Int) p = true) ∧ ns.length ≤ ns'.length ∧ ns'.length + 3 * bs.length ≤ ns.length + 2 * (i' - i) ∧ g ≤ g' ∧ i ≤ i' ∧
    ∀ lv, lv.isEmpty = !inG → StepsE l ⟨.B, i, ns, g, cl, [], [], lv⟩ ⟨.B, i', ns', g', cl', [], bs, lv⟩
/-- While a branch is read, from W on. -/
def RelEB (W : Nat) (w : World) (B T : Nat) (A : Option Addr) (n c : Nat) (l : List UInt8) (v : Value) (ns : List Nod) (g i i1 : Nat) (cl : Nat → Bool) (inG : Bool) (bs : List Int) (s5 s6 : Value) (wr : World) : Prop :=
  (∃ v' ns' g' i' cl' ps, Rdr wr B T A n c l v' ns' g' i' cl' 0 ∧ ChP w wr T v v' ∧ Pcs w.heap.size wr s5 bs ∧ Pcs W wr s6 ps ∧ (∀ p ∈ bs, okP (ns'.length : Int) p = true) ∧ (∀ p ∈ ps, okP (ns'.length : Int) p = true) ∧ ns.length ≤ ns'.length ∧ ns'.length + ps.length + 3 * bs.length ≤ ns.length + 2 * (i' - i) ∧ g ≤ g' ∧ i ≤ i' ∧ i1 ≤ i' ∧
    ∀ lv, lv.isEmpty = !inG → StepsE l ⟨.B, i, ns, g, cl, [], [], lv⟩ ⟨ctOf ps, i', ns', g', cl', ps, bs, lv⟩) ∨
  (∃ v' ns' g' i' cl' q, q ≠ 0 ∧ Rdr wr B T A n c l v' ns' g' i' cl' q ∧ ChP w wr T v v' ∧ ∀ lv, lv.isEmpty = !inG → EndsE l ⟨.B, i, ns, g, cl, [], [], lv⟩ (.bad i' q))
/-- A branch is read. -/
def RelX (W : Nat) (w : World) (B T : Nat) (A : Option Addr) (n c : Nat) (l : List UInt8) (v : Value) (ns : List Nod) (g i i1 : Nat) (cl : Nat → Bool) (inG : Bool) (bs : List Int) (s5 s6 : Value) (wr : World) : Prop :=
  (∃ v' ns' g' i' cl' ps, (n ≤ i' ∨ nx l i' = 124 ∨ (inG = true ∧ nx l i' = 41)) ∧ Rdr wr B T A n c l v' ns' g' i' cl' 0 ∧ ChP w wr T v v' ∧ Pcs w.heap.size wr s5 bs ∧ Pcs W wr s6 ps ∧ (∀ p ∈ bs, okP (ns'.length : Int) p = true) ∧ (∀ p ∈ ps, okP (ns'.length : Int) p = true) ∧ ns.length ≤ ns'.length ∧ ns'.length + ps.length + 3 * bs.length ≤ ns.length + 2 * (i' - i) ∧ g ≤ g' ∧ i ≤ i' ∧ i1 ≤ i' ∧
    ∀ lv, lv.isEmpty = !inG → StepsE l ⟨.B, i, ns, g, cl, [], [], lv⟩ ⟨ctOf ps, i', ns', g', cl', ps, bs, lv⟩) ∨
  (∃ v' ns' g' i' cl' q, q ≠ 0 ∧ Rdr wr B T A n c l v' ns' g' i' cl' q ∧ ChP w wr T v v' ∧ ∀ lv, lv.isEmpty = !inG → EndsE l ⟨.B, i, ns, g, cl, [], [], lv⟩ (.bad i' q))
/-- All branches are read, and the last is put together. -/
def RelEnd (w : World) (B T : Nat) (A : Option Addr) (n c : Nat) (l : List UInt8) (v : Value) (ns : List Nod) (g i : Nat) (cl : Nat → Bool) (inG : Bool) (s5 : Value) (wr : World) : Prop :=
  ∃ v' ns' g' i' cl' ns1 ps bs x, nx l i' ≠ 124 ∧ (n ≤ i' ∨ (inG = true ∧ nx l i' = 41)) ∧ chn 2 ns1 ps = (x, ns') ∧ Rdr wr B T A n c l v' ns' g' i' cl' 0 ∧ ChP w wr T v v' ∧ Pcs w.heap.size wr s5 (bs ++ [x]) ∧ (∀ p ∈ bs ++ [x], okP (ns'.length : Int) p = true) ∧ ns.length ≤ ns'.length ∧ ns'.length + 3 * bs.length ≤ ns.length + 2 * (i' - i) ∧ g ≤ g' ∧ i ≤ i' ∧
    ∀ lv, lv.isEmpty = !inG → StepsE l ⟨.B, i, ns, g, cl, [], [], lv⟩ ⟨.L, i', ns1, g', cl', ps, bs, lv⟩
/-- While the branches are put together; or the text had ended within a group. -/
def RelJ (w : World) (B T : Nat) (A : Option Addr) (n c : Nat) (l : List UInt8) (v : Value) (ns : List Nod) (g i : Nat) (cl : Nat → Bool) (e : Nat) (x : Int) (r : List Int) (kv iv : Value) (wr : World) : Prop :=
  ∃ j : Nat, j ≤ r.length ∧ iv = .int .i64 ((j : Int) + 1) ∧
  ((e = 0 ∧ ∃ y v' ns', kv = .int .i64 y ∧ chnF 3 x ns (r.take j) = (y, ns') ∧ okP (ns'.length : Int) y = true ∧ ns'.length = ns.length + j ∧ Rdr wr B T A n c l v' ns' g i cl 0 ∧ ChP w wr T v v') ∨
  (e ≠ 0 ∧ ∃ y v', kv = .int .i64 y ∧ Rdr wr B T A n c l v' ns g i cl e ∧ ChP w wr T v v'))
section
variable {W : Nat} {w wr w3 w5 w7 : World} {B T : Nat} {A : Option Addr} {n c : Nat} {l : List UInt8} {v v2 v7 : Value} {ns ns2 : List Nod} {g g2 i i1 i2 : Nat} {cl cl2 : Nat → Bool} {inG : Bool} {s5 s6 : Value} {bs ps : List Int} {z : Int}
/-- One piece more. -/
theorem relB_next (h2 : Rdr wr B T A n c l v2 ns2 g2 i2 cl2 0) (k2 : ChP w wr T v v2) (p5 : Pcs w.heap.size wr s5 bs) (p6 : Pcs W wr s6 ps) (q1 : ∀ p ∈ bs, okP (ns2.length : Int) p = true) (q2 : ∀ p ∈ ps, okP (ns2.length : Int) p = true)
    (r1 : ns.length ≤ ns2.length) (r2 : ns2.length + ps.length + 3 * bs.length ≤ ns.length + 2 * (i2 - i)) (r3 : g ≤ g2) (r4 : i ≤ i2) (r5 : i1 ≤ i2)
    (q6 : ∀ lv, lv.isEmpty = !inG → StepsE l ⟨.B, i, ns, g, cl, [], [], lv⟩ ⟨ctOf ps, i2, ns2, g2, cl2, ps, bs, lv⟩) (hT : T < w.heap.size) (hW : w.heap.size ≤ W) (h5 : ∀ k, s5.ownBlock = some k → k < W)
    (hb : Below wr.heap.size wr w3) (hy : ENode true w3 B T A n c l v2 ns2 g2 i2 cl2 inG (.returned (.int .i64 z)) w5)
    (ho : w7.ownsRow W 3 1 v7 (ps.length + 1) (ps.map (Value.int .i64) ++ [.int .i64 z])) (hg : (w5.alloc (.cells #[.int .i64 z] 3)).grownBy w7 s6.ownBlock) :
    RelEB W w B T A n c l v ns g i i1 cl inG bs s5 v7 w7 ∧ leftR n T w7 < leftR n T wr := by
  have hTW : T < W := by omega
  have hle := h2.le
  have hd : ∀ k, s5.ownBlock = some k → s6.ownBlock ≠ some k := fun k e e6 => by have := h5 k e; have := p6.lt k e6; omega
  rcases hy with ⟨x, v', ns', g', i', cl', e1, ok', h3, h4, a1, a0, a2, a3, a4⟩ | ⟨x, v', ns', g', i', cl', q, hq, e1, h3, h4, a4⟩
  · obtain rfl : z = x := by simpa using e1
    have hp5 := ((p5.below hb).chr (h2.keep hb) h4 hT).below (below_one w5 z)
    have hp6 := ((p6.below hb).chr (h2.keep hb) h4 hTW).below (below_one w5 z)
    have h7 := (h3.keep (below_one w5 z)).grown hp6 hg hTW
    refine ⟨.inl ⟨v', ns', g', i', cl', ps ++ [z], h7, (((k2.trans (ChP.of_below hb)).trans h4).trans (ChP.of_below (below_one w5 z))).grown hg (fun k e => by have := p6.lt k e; omega), hp5.keptBy hg hd, hp6.more ho hg.size, fun y hy => okP_more (q1 y hy) (by omega), fun y hy => ?_, by omega, by rw [List.length_append, List.length_singleton]; omega, by omega, by omega, by omega, fun lv hlv => ?_⟩, by rw [h7.left, h2.left]; omega⟩
    · rcases List.mem_append.1 hy with hy | hy
      · exact okP_more (q2 y hy) (by omega)
      · simp only [List.mem_singleton] at hy; subst hy; exact ok'
    · rw [ctOf_snoc]
      exact (q6 lv hlv).trans (a4 (ctOf ps) ps bs lv (by unfold ctOf; cases ps.isEmpty <;> simp) hlv)
  · have hp6 := ((p6.below hb).chr (h2.keep hb) h4 hTW).below (below_one w5 z)
    have h7 := (h3.keep (below_one w5 z)).grown hp6 hg hTW
    exact ⟨.inr ⟨v', ns', g', i', cl', q, hq, h7, (((k2.trans (ChP.of_below hb)).trans h4).trans (ChP.of_below (below_one w5 z))).grown hg (fun k e => by have := p6.lt k e; omega), fun lv hlv => (q6 lv hlv).ends (a4 (ctOf ps) ps bs lv (by unfold ctOf; cases ps.isEmpty <;> simp) hlv)⟩, by rw [h7.left0 hq, h2.left]; omega⟩
/-- Nothing was read. -/
theorem relX_none {x : Int} (h2 : Rdr wr B T A n c l v2 ns2 g2 i2 cl2 0) (k2 : ChP w wr T v v2) (he : n ≤ i2 ∨ nx l i2 = 124 ∨ (inG = true ∧ nx l i2 = 41))
    (q6 : ∀ lv, lv.isEmpty = !inG → StepsE l ⟨.B, i, ns, g, cl, [], [], lv⟩ ⟨.B, i2, ns2, g2, cl2, [], bs, lv⟩) : EAlt w B T A n c l v ns g i cl inG (.returned (.int .i64 x)) (wr.setCell ⟨T, 2, none⟩ (.int .i64 15)) := by
  have hnl := h2.hn
  refine .inr ⟨x, v2, ns2, g2, i2, cl2, 15, by decide, rfl, h2.erred 15 (z := 15) rfl, k2.trans (ChP.store wr T 2 (.int .i64 15) v2), fun lv hlv => (q6 lv hlv).ends (.bad ?_)⟩
  show stepEB l _ = _
  simp only [stepEB]
  rw [if_pos ?_]
  rcases he with he | he | ⟨rfl, he⟩
  · exact .inl (by omega)
  · exact .inr (.inl he)
  · exact .inr (.inr ⟨fun e => by rw [e] at hlv; simp at hlv, he⟩)
/-- The branch was put together, and is one of the branches. -/
theorem alt_put (h2 : Rdr wr B T A n c l v2 ns2 g2 i2 cl2 0) (k2 : ChP w wr T v v2) (p5 : Pcs w.heap.size wr s5 bs) (q1 : ∀ p ∈ bs, okP (ns2.length : Int) p = true) (hps : ps ≠ []) (hl : ns2.length + ps.length ≤ 1000) (hT : T < w.heap.size)
    (hy : RCat wr B T A n c l v2 ns2 g2 i2 cl2 ps (.returned (.int .i64 z)) w5)
    (ho : w7.ownsRow w.heap.size 3 1 v7 (bs.length + 1) (bs.map (Value.int .i64) ++ [.int .i64 z])) (hg : (w5.alloc (.cells #[.int .i64 z] 3)).grownBy w7 s5.ownBlock) :
    ∃ v' ns', chn 2 ns2 ps = (z, ns') ∧ Rdr w7 B T A n c l v' ns' g2 i2 cl2 0 ∧ ChP w w7 T v v' ∧ Pcs w.heap.size w7 v7 (bs ++ [z]) ∧ (∀ p ∈ bs ++ [z], okP (ns'.length : Int) p = true) ∧ ns2.length ≤ ns'.length ∧ ns'.length + 1 = ns2.length + ps.length := by
  have hc := catS_chn (ns := ns2) hps hl
  have hlen := chn_len 2 ns2 hps
  rcases hy with ⟨x, v', ns', e1, e2, ok', e3, h3, k3⟩ | ⟨x, v', ns', e1, e2, h3, k3⟩
  · obtain rfl : z = x := by simpa using e1
    have e4 : chn 2 ns2 ps = (z, ns') := by rw [hc] at e2; exact Option.some.inj e2
    have hp5 := ((p5.chr h2 k3 hT).below (below_one w5 z))
    have h7 := (h3.keep (below_one w5 z)).grown hp5 hg hT
    rw [e4] at hlen
    refine ⟨v', ns', e4, h7, (((k2.trans k3).trans (ChP.of_below (below_one w5 z)))).grown hg p5.lt, hp5.more ho hg.size, fun y hy => ?_, e3, hlen⟩
    rcases List.mem_append.1 hy with hy | hy
    · exact okP_more (q1 y hy) (by omega)
    · simp only [List.mem_singleton] at hy; subst hy; exact ok'
  · rw [hc] at e2; cases e2
/-- A bar stands behind it. -/
theorem alt_bar {v3 : Value} {ns3 : List Nod} (h7 : Rdr w7 B T A n c l v3 ns3 g2 i2 cl2 0) (k7 : ChP w w7 T v v3) (p7 : Pcs w.heap.size w7 v7 (bs ++ [z])) (q7 : ∀ p ∈ bs ++ [z], okP (ns3.length : Int) p = true) (hc : chn 2 ns2 ps = (z, ns3))
    (a1 : ns2.length ≤ ns3.length) (a2 : ns3.length + 1 = ns2.length + ps.length) (r1 : ns.length ≤ ns2.length) (r2 : ns2.length + ps.length + 3 * bs.length ≤ ns.length + 2 * (i2 - i)) (r3 : g ≤ g2) (r4 : i ≤ i2)
    (q6 : ∀ lv, lv.isEmpty = !inG → StepsE l ⟨.B, i, ns, g, cl, [], [], lv⟩ ⟨.L, i2, ns2, g2, cl2, ps, bs, lv⟩) (hT : T < w.heap.size) (hz : nx l i2 = 124) :
    RelAlt w B T A n c l v ns g i cl inG v7 (w7.setCell ⟨T, 1, none⟩ (.int .i64 ((i2 : Int) + 1))) ∧ leftR n T (w7.setCell ⟨T, 1, none⟩ (.int .i64 ((i2 : Int) + 1))) = n - i2 := by
  have hnl := h7.hn
  have hlt := nx_lt (l := l) (i := i2) (by omega)
  have h8 := h7.goto (j := i2 + 1) (by omega) (z := (i2 : Int) + 1) (by omega)
  refine ⟨⟨v3, ns3, g2, i2 + 1, cl2, bs ++ [z], h8, k7.trans (ChP.store w7 T 1 _ v3), p7.chr h7 (ChP.store w7 T 1 _ v3) hT, q7, by omega, by rw [List.length_append, List.length_singleton]; omega, r3, by omega, fun lv hlv => (q6 lv hlv).snoc ?_⟩, by rw [h8.left]; omega⟩
  show stepEL l _ = _
  simp only [stepEL]
  rw [if_neg (by omega), if_pos hz]
  simp only [branE, hc]
/-- None stands there. -/
theorem alt_end {v3 : Value} {ns3 : List Nod} (h7 : Rdr w7 B T A n c l v3 ns3 g2 i2 cl2 0) (k7 : ChP w w7 T v v3) (p7 : Pcs w.heap.size w7 v7 (bs ++ [z])) (q7 : ∀ p ∈ bs ++ [z], okP (ns3.length : Int) p = true) (hc : chn 2 ns2 ps = (z, ns3))
    (a1 : ns2.length ≤ ns3.length) (a2 : ns3.length + 1 = ns2.length + ps.length) (r1 : ns.length ≤ ns2.length) (r2 : ns2.length + ps.length + 3 * bs.length ≤ ns.length + 2 * (i2 - i)) (r3 : g ≤ g2) (r4 : i ≤ i2)
    (q6 : ∀ lv, lv.isEmpty = !inG → StepsE l ⟨.B, i, ns, g, cl, [], [], lv⟩ ⟨.L, i2, ns2, g2, cl2, ps, bs, lv⟩) (hz : nx l i2 ≠ 124) (he : n ≤ i2 ∨ nx l i2 = 124 ∨ (inG = true ∧ nx l i2 = 41)) :
    RelEnd w B T A n c l v ns g i cl inG v7 w7 :=
  ⟨v3, ns3, g2, i2, cl2, ns2, ps, bs, z, hz, he.elim .inl (fun k => k.elim (fun e => absurd e hz) .inr), hc, h7, k7, p7, q7, by omega, by omega, r3, r4, q6⟩
/-- All branches are read; the text may have ended within a group. -/
def RelT (w : World) (B T : Nat) (A : Option Addr) (n c : Nat) (l : List UInt8) (v : Value) (ns1 : List Nod) (g1 i1 : Nat) (cl1 : Nat → Bool) (inG : Bool) (s5 : Value) (bs : List Int) (wx : World) : Prop :=
  ∃ e v', Rdr wx B T A n c l v' ns1 g1 i1 cl1 e ∧ ChP w wx T v v' ∧ Pcs w.heap.size wx s5 bs ∧ (e = 0 → if inG then nx l i1 = 41 else i1 = n) ∧ (e ≠ 0 → inG = true ∧ n ≤ i1 ∧ e = 14)
theorem alt_done {x x0 y : Int} {r : List Int} {v0 v' : Value} {w0 : World} {ns0 ns1 ns' : List Nod} {g1 : Nat} {cl1 : Nat → Bool} (h' : Rdr wr B T A n c l v' ns' g1 i1 cl1 0) (k0 : ChP w w0 T v v0) (k' : ChP w0 wr T v0 v') (hL : bs ++ [x] = x0 :: r) (hc : chn 2 ns0 ps = (x, ns1)) (hr : chnF 3 x0 ns1 r = (y, ns')) (ok' : okP (ns'.length : Int) y = true) (hn' : ns'.length = ns1.length + r.length)
    (r1 : ns.length ≤ ns1.length) (r2 : ns1.length + 3 * bs.length ≤ ns.length + 2 * (i1 - i)) (r3 : g ≤ g1) (r4 : i ≤ i1) (he : if inG then nx l i1 = 41 else i1 = n)
    (q6 : ∀ lv, lv.isEmpty = !inG → StepsE l ⟨.B, i, ns, g, cl, [], [], lv⟩ ⟨.L, i1, ns0, g1, cl1, ps, bs, lv⟩) : EAlt w B T A n c l v ns g i cl inG (.returned (.int .i64 y)) wr := by
  have hll : r.length = bs.length := by have := congrArg List.length hL; simp at this; omega
  refine .inl ⟨y, v', ns', g1, i1, cl1, ns0, ps, bs, rfl, ok', h', k0.trans k', by omega, by omega, r3, r4, he, fun lv hlv => ⟨?_, q6 lv hlv⟩⟩
  simp only [altsE, branE, hc]
  rw [hL, chn_cons, hr]
theorem alt_open {y : Int} {v0 v' : Value} {w0 : World} {ns0 ns1 : List Nod} {g1 : Nat} {cl1 : Nat → Bool} (h' : Rdr wr B T A n c l v' ns1 g1 i1 cl1 14) (k0 : ChP w w0 T v v0) (k' : ChP w0 wr T v0 v') (he : n ≤ i1)
    (q6 : ∀ lv, lv.isEmpty = !true → StepsE l ⟨.B, i, ns, g, cl, [], [], lv⟩ ⟨.L, i1, ns0, g1, cl1, ps, bs, lv⟩) : EAlt w B T A n c l v ns g i cl true (.returned (.int .i64 y)) wr := by
  have hnl := h'.hn
  refine .inr ⟨y, v', ns1, g1, i1, cl1, 14, by decide, rfl, h', k0.trans k', fun lv hlv => (q6 lv hlv).ends (.bad ?_)⟩
  show stepEL l _ = _
  simp only [stepEL]
  rw [if_pos (by omega)]
  cases lv with
  | nil => simp at hlv
  | cons a b => rfl
end
end Go.Proofs.YtnfbgpjadnlgbaaGreat
