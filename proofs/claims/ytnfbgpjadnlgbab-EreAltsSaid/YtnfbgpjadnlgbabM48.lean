/- Contracts of the parser of extended texts: branchEnds, branch, given those of alternatives. -/
import Derived.Test.YtnfbgpjadnlgbabM47
set_option linter.unusedVariables false
set_option maxRecDepth 100000
namespace Go.Proofs.Ytnfbgpjadnlgbab
open Go.RowKit

/-- Where a branch ends. -/
def EndAt (l : List UInt8) (n i : Nat) (inG : Bool) : Prop := n ≤ i ∨ nx l i = 124 ∨ (inG = true ∧ nx l i = 41)
/-- A branch was read, or it went wrong. -/
def CBran (w : World) (B T : Nat) (A : Option Addr) (n c : Nat) (l : List UInt8) (v : Value) (ns : List Nod) (g i : Nat) (cl : Nat → Bool) (inG : Bool) (e : Ending) (w' : World) : Prop :=
  (∃ x v' ns' g' i' cl' ns1 ps1, e = .returned (.int .i64 x) ∧ okP (ns'.length : Int) x = true ∧ Psr w' B T A n c l v' ns' g' i' cl' 0 ∧ ChP w w' T v v' ∧ chn 2 ns1 ps1 = (x, ns') ∧ ns.length ≤ ns'.length ∧ ns'.length + 1 ≤ ns.length + 2 * (i' - i) ∧ g ≤ g' ∧ i ≤ i' ∧
    (nx l i' = 124 ∨ (if inG then nx l i' = 41 else i' = n)) ∧ ∀ bs lv, lv.isEmpty = !inG → StepsE l ⟨.B, i, ns, g, cl, [], bs, lv⟩ ⟨.L, i', ns1, g', cl', ps1, bs, lv⟩) ∨
  (∃ x v' ns' g' i' cl' q, q ≠ 0 ∧ e = .returned (.int .i64 x) ∧ Psr w' B T A n c l v' ns' g' i' cl' q ∧ ChP w w' T v v' ∧ ∀ bs lv, lv.isEmpty = !inG → EndsE l ⟨.B, i, ns, g, cl, [], bs, lv⟩ (.bad i' q))
/-- While a branch is read. -/
def RelCB (w : World) (B T : Nat) (A : Option Addr) (n c : Nat) (l : List UInt8) (v : Value) (ns : List Nod) (g i : Nat) (cl : Nat → Bool) (inG : Bool) (s5 : Value) (wr : World) : Prop :=
  (∃ v' ns' g' i' cl' ps, Psr wr B T A n c l v' ns' g' i' cl' 0 ∧ ChP w wr T v v' ∧ Pcs w.heap.size wr s5 ps ∧ (∀ p ∈ ps, okP (ns'.length : Int) p = true) ∧ ns.length ≤ ns'.length ∧ ns'.length + ps.length ≤ ns.length + 2 * (i' - i) ∧ g ≤ g' ∧ i ≤ i' ∧ (ps = [] → ¬ EndAt l n i' inG) ∧
    ∀ bs lv, lv.isEmpty = !inG → StepsE l ⟨.B, i, ns, g, cl, [], bs, lv⟩ ⟨ctOf ps, i', ns', g', cl', ps, bs, lv⟩) ∨
  (∃ v' ns' g' i' cl' q, q ≠ 0 ∧ Psr wr B T A n c l v' ns' g' i' cl' q ∧ ChP w wr T v v' ∧ ∀ bs lv, lv.isEmpty = !inG → EndsE l ⟨.B, i, ns, g, cl, [], bs, lv⟩ (.bad i' q))
section
variable {w w' wr w3 w5 w7 : World} {B T : Nat} {A : Option Addr} {n c : Nat} {l : List UInt8} {v v' v2 v7 : Value} {ns ns2 : List Nod} {g g2 i i2 : Nat} {cl cl2 : Nat → Bool} {inG : Bool} {s5 : Value} {ps bs : List Int} {z x : Int} {e : Ending}
theorem CBran.ret (h : CBran w B T A n c l v ns g i cl inG e w') : ∃ z, e = .returned (.int .i64 z) ∧ CBran w B T A n c l v ns g i cl inG (.returned (.int .i64 z)) w' := by
  rcases h with ⟨x, v', ns', g', i', cl', ns1, ps1, rfl, h⟩ | ⟨x, v', ns', g', i', cl', q, hq, rfl, h⟩
  · exact ⟨_, rfl, .inl ⟨x, v', ns', g', i', cl', ns1, ps1, rfl, h⟩⟩
  · exact ⟨_, rfl, .inr ⟨x, v', ns', g', i', cl', q, hq, rfl, h⟩⟩
theorem CBran.from {w0 : World} {v0 : Value} (h : CBran w B T A n c l v ns g i cl inG e w') (h0 : ChP w0 w T v0 v) : CBran w0 B T A n c l v0 ns g i cl inG e w' := by
  rcases h with ⟨x, v', ns', g', i', cl', ns1, ps1, h1, h2, h3, h4, h5⟩ | ⟨x, v', ns', g', i', cl', q, h1, h2, h3, h4, h5⟩
  · exact .inl ⟨x, v', ns', g', i', cl', ns1, ps1, h1, h2, h3, h0.trans h4, h5⟩
  · exact .inr ⟨x, v', ns', g', i', cl', q, h1, h2, h3, h0.trans h4, h5⟩
theorem pieAt_of (hn : n = l.length) (h : ¬ EndAt l n i inG) : PieAt l i inG := by
  unfold EndAt at h
  exact ⟨by omega, fun e => h (.inr (.inl e)), fun hg e => h (.inr (.inr ⟨hg, e⟩))⟩
/-- One piece more. -/
theorem relCB_next (h2 : Psr wr B T A n c l v2 ns2 g2 i2 cl2 0) (k2 : ChP w wr T v v2) (p6 : Pcs w.heap.size wr s5 ps) (q2 : ∀ p ∈ ps, okP (ns2.length : Int) p = true)
    (r1 : ns.length ≤ ns2.length) (r2 : ns2.length + ps.length ≤ ns.length + 2 * (i2 - i)) (r3 : g ≤ g2) (r4 : i ≤ i2)
    (q6 : ∀ bs lv, lv.isEmpty = !inG → StepsE l ⟨.B, i, ns, g, cl, [], bs, lv⟩ ⟨ctOf ps, i2, ns2, g2, cl2, ps, bs, lv⟩) (hT : T < w.heap.size)
    (hb : Below wr.heap.size wr w3) (hy : CNode true w3 B T A n c l v2 ns2 g2 i2 cl2 inG (.returned (.int .i64 z)) w5)
    (ho : w7.ownsRow w.heap.size 3 1 v7 (ps.length + 1) (ps.map (Value.int .i64) ++ [.int .i64 z])) (hg : (w5.alloc (.cells #[.int .i64 z] 3)).grownBy w7 s5.ownBlock) :
    RelCB w B T A n c l v ns g i cl inG v7 w7 ∧ leftP n T w7 < leftP n T wr := by
  have hle := h2.le
  rcases hy with ⟨x, v', ns', g', i', cl', e1, ok', h3, h4, a1, a0, a2, a3, a4⟩ | ⟨x, v', ns', g', i', cl', q, hq, e1, h3, h4, a4⟩
  · obtain rfl : z = x := by simpa using e1
    have hp6 := ((p6.below hb).chp (h2.keep hb) h4 hT).below (below_one w5 z)
    have h7 := (h3.keep (below_one w5 z)).grown hp6 hg hT
    refine ⟨.inl ⟨v', ns', g', i', cl', ps ++ [z], h7, (((k2.trans (ChP.of_below hb)).trans h4).trans (ChP.of_below (below_one w5 z))).grown hg p6.lt, hp6.more ho hg.size, fun y hy => ?_, by omega, by rw [List.length_append, List.length_singleton]; omega, by omega, by omega, fun e => by simp at e, fun bs lv hlv => ?_⟩, by rw [h7.left, h2.left]; omega⟩
    · rcases List.mem_append.1 hy with hy | hy
      · exact okP_more (q2 y hy) (by omega)
      · simp only [List.mem_singleton] at hy; subst hy; exact ok'
    · rw [ctOf_snoc]
      exact (q6 bs lv hlv).trans (a4 (ctOf ps) ps bs lv (by unfold ctOf; cases ps.isEmpty <;> simp) hlv)
  · have hp6 := ((p6.below hb).chp (h2.keep hb) h4 hT).below (below_one w5 z)
    have h7 := (h3.keep (below_one w5 z)).grown hp6 hg hT
    exact ⟨.inr ⟨v', ns', g', i', cl', q, hq, h7, (((k2.trans (ChP.of_below hb)).trans h4).trans (ChP.of_below (below_one w5 z))).grown hg p6.lt, fun bs lv hlv => (q6 bs lv hlv).ends (a4 (ctOf ps) ps bs lv (by unfold ctOf; cases ps.isEmpty <;> simp) hlv)⟩, by rw [h7.left0 hq, h2.left]; omega⟩
end
section
variable {w : World} {B T : Nat} {A : Option Addr} {n c : Nat} {l : List UInt8} {v : Value} {ns : List Nod} {g i : Nat} {cl : Nat → Bool} {inG : Bool} (h : Psr w B T A n c l v ns g i cl 0)
include h
set_option maxHeartbeats 4000000 in
theorem cends_any (b : Bool) (hbe : b = true ↔ EndAt l n i inG) :
    Calls Try.prog 24 #[.pointer (some ⟨T, 0, none⟩), .bool inG] w fun e w' => e = .returned (.bool b) ∧ Below w.heap.size w w' := by
  have hle := h.le
  have hEn := Lib.hid (ends_any h)
  have hP := Lib.hid (fun w3 (hb : Below w.heap.size w w3) => h.keep hb)
  unfold EndAt at hbe
  by_cases hi : i = n
  · rw [decide_eq_true hi] at hEn
    obtain rfl : b = true := hbe.2 (.inl (by omega))
    clear h hbe hi
    go_enter Try.func24, Try.ntmps24
    go_wp2_with (go_at_call 9; refine (hEn.out).mono ?_; rintro y w3 ⟨rfl, hb3⟩; replace hb3 := Lib.hid hb3)
    go_ret
    exact ⟨rfl, hb3.out⟩
  rw [decide_eq_false hi] at hEn
  by_cases h1 : nx l i = 124
  · obtain rfl : b = true := hbe.2 (.inr (.inl h1))
    have hC := Lib.hid (fun w3 (hb : Below w.heap.size w w3) => comes_is (hP.out _ hb) ⟨#[124]⟩ true (bg_nx 124 true (decide_eq_true h1)))
    clear h hbe hi h1
    go_enter Try.func24, Try.ntmps24
    go_wp2_with (first
      | (go_at_call 9; refine (hEn.out).mono ?_; rintro y w3 ⟨rfl, hb3⟩; replace hb3 := Lib.hid hb3)
      | (go_at_call 28; refine (hC.out _ hb3.out).mono ?_; rintro y w4 ⟨rfl, hb4⟩; replace hb4 := Lib.hid (hb3.out.trans (hb4.mono hb3.out.size))))
    go_ret
    exact ⟨rfl, hb4.out⟩
  have hC := Lib.hid (fun w3 (hb : Below w.heap.size w w3) => comes_is (hP.out _ hb) ⟨#[124]⟩ false (bg_nx 124 false (decide_eq_false h1)))
  cases inG with
  | false =>
    obtain rfl : b = false := by
      cases b with
      | false => rfl
      | true =>
        rcases hbe.1 rfl with h2 | h2 | ⟨h2, _⟩
        · omega
        · exact absurd h2 h1
        · cases h2
    clear h hbe hi h1
    go_enter Try.func24, Try.ntmps24
    go_wp2_with (first
      | (go_at_call 9; refine (hEn.out).mono ?_; rintro y w3 ⟨rfl, hb3⟩; replace hb3 := Lib.hid hb3)
      | (go_at_call 28; refine (hC.out _ hb3.out).mono ?_; rintro y w4 ⟨rfl, hb4⟩; replace hb4 := Lib.hid (hb3.out.trans (hb4.mono hb3.out.size))))
    go_ret
    exact ⟨rfl, hb4.out⟩
  | true =>
    have hD := Lib.hid (fun w3 (hb : Below w.heap.size w w3) => comes_is (hP.out _ hb) ⟨#[41]⟩ b (bg_nx 41 b (by
      cases b with
      | true =>
        refine decide_eq_true ?_
        rcases hbe.1 rfl with h2 | h2 | ⟨_, h2⟩
        · omega
        · exact absurd h2 h1
        · exact h2
      | false => exact decide_eq_false (fun e => by have := hbe.2 (.inr (.inr ⟨rfl, e⟩)); cases this))))
    clear h hbe hi h1
    go_enter Try.func24, Try.ntmps24
    go_wp2_with (first
      | (go_at_call 9; refine (hEn.out).mono ?_; rintro y w3 ⟨rfl, hb3⟩; replace hb3 := Lib.hid hb3)
      | (go_at_call 28; with_reducible show Calls _ _ #[_, Value.string {data := #[124]}] _ _; refine (hC.out _ hb3.out).mono ?_; rintro y w4 ⟨rfl, hb4⟩; replace hb4 := Lib.hid (hb3.out.trans (hb4.mono hb3.out.size)))
      | (go_at_call 28; with_reducible show Calls _ _ #[_, Value.string {data := #[41]}] _ _; refine (hD.out _ hb4.out).mono ?_; rintro y w6 ⟨rfl, hb6⟩; replace hb6 := Lib.hid (hb4.out.trans (hb6.mono hb4.out.size))))
    go_ret
    exact ⟨rfl, hb6.out⟩
theorem cbranch_none (he : EndAt l n i inG) : Calls Try.prog 16 #[.pointer (some ⟨T, 0, none⟩), .bool inG] w (CBran w B T A n c l v ns g i cl inG) := by
  have hnl := h.hn
  have hE := Lib.hid (cends_any h true ⟨fun _ => he, fun _ => rfl⟩)
  have hW := Lib.hid (fun w3 (hb : Below w.heap.size w w3) => wrong_at (h.keep hb) 15 15 rfl)
  have hfin := Lib.hid (fun (bs : List Int) (lv : List (Nat × List Int × List Int)) (hlv : lv.isEmpty = !inG) => show EndsE l ⟨.B, i, ns, g, cl, [], bs, lv⟩ (.bad i 15) from .bad (by
    show stepEB l _ = _
    simp only [stepEB]
    rw [if_pos ?_]
    rcases he with he | he | ⟨rfl, he⟩
    · exact .inl (by omega)
    · exact .inr (.inl he)
    · exact .inr (.inr ⟨fun e => by rw [e] at hlv; simp at hlv, he⟩)))
  clear h he hnl
  go_enter Try.func16, Try.ntmps16
  go_wp2_with (first
    | (go_at_call 24; refine (hE.out).mono ?_; rintro y w3 ⟨rfl, hb3⟩; replace hb3 := Lib.hid hb3)
    | (go_at_call 25; refine (hW.out _ hb3.out).mono ?_; intro y w5 hy; obtain ⟨v5, ns5, g5, cl5, rfl, h5, k5⟩ := hy; replace h5 := Lib.hid h5; replace k5 := Lib.hid ((ChP.of_below hb3.out).trans k5)))
  go_ret
  exact .inr ⟨-1, v5, ns5, g5, i, cl5, 15, by decide, rfl, h5.out, k5.out, hfin.out⟩
set_option maxHeartbeats 8000000 in
theorem cbranch_any (hsm : n ≤ 300) (hrm : ns.length ≤ 2 * i) (hB : ∀ k, k < n - i → CAltOK k) :
    Calls Try.prog 16 #[.pointer (some ⟨T, 0, none⟩), .bool inG] w (CBran w B T A n c l v ns g i cl inG) := by
  by_cases he0 : EndAt l n i inG
  · exact cbranch_none h he0
  obtain ⟨i0, hi0, hz0, hz1, hz2⟩ := info_parts ints_info
  replace hz1 := Lib.hid hz1
  replace hz2 := Lib.hid hz2
  have hTl := Lib.hid h.lt
  have hB' := Lib.hid hB
  have hE := Lib.hid (cends_any h false ⟨fun e => (by cases e), fun e => absurd e he0⟩)
  have hst := Lib.hid (fun (w3 : World) (hb : Below w.heap.size w w3) => show RelCB w B T A n c l v ns g i cl inG (.slice none 0 0) w3 from
    .inl ⟨v, ns, g, i, cl, [], h.keep hb, ChP.of_below hb, ⟨World.ownsRow_nil _ _ _ _, hb.size⟩, fun p hp => (by cases hp), Nat.le_refl _, by simp, Nat.le_refl _, Nat.le_refl _, fun _ => he0, fun bs lv hlv => .refl _⟩)
  clear h hB he0
  go_enter Try.func16, Try.ntmps16
  go_wp2_with (go_at_call 24; refine (hE.out).mono ?_; rintro y w3 ⟨rfl, hb3⟩; replace hb3 := Lib.hid hb3)
  go_loopw [5] (fun a wr => RelCB w B T A n c l v ns g i cl inG a wr) (fun _ wr => leftP n T wr)
  case atStart => exact hst.out _ hb3.out
  case round =>
    clear hst hb3 hE
    rcases hrel with ⟨v2, ns2, g2, i2, cl2, ps2, h2, k2, p2, q1, q2, q3, q4, q5, q7, q6⟩ | ⟨v2, ns2, g2, i2, cl2, ee, he, h2, k2, q6⟩
    · have hF := Lib.hid (fine_any h2)
      rw [decide_eq_true rfl] at hF
      have hle2 := h2.le
      have hnl := h2.hn
      obtain ⟨Ap, kp, rfl, -, -, -, -⟩ := p2.slice
      have hP := Lib.hid (fun w3 (hb : Below wr.heap.size wr w3) => h2.keep hb)
      have hTW := hTl.out
      by_cases hend : EndAt l n i2 inG
      · have hEn := Lib.hid (cends_any h2 true ⟨fun _ => hend, fun _ => rfl⟩)
        have hps : ps2 ≠ [] := fun e => q7 e hend
        rw [ctOf_L hps] at q6
        by_cases hop : inG = true ∧ i2 = n
        · obtain ⟨rfl, hin⟩ := hop
          have hC := Lib.hid (fun w4 hb4 => abranch_open (hP.out w4 hb4) hin Ap ps2.length kp)
          have hst := Lib.hid (fun (bs : List Int) (lv : List (Nat × List Int × List Int)) (hlv : lv.isEmpty = !true) => (q6 bs lv hlv).ends (show EndsE l ⟨.L, i2, ns2, g2, cl2, ps2, bs, lv⟩ (.bad i2 14) from .bad (by
            show stepEL l _ = _
            simp only [stepEL]
            rw [if_pos (by omega)]
            cases lv with
            | nil => simp at hlv
            | cons a b => rfl)))
          replace k2 := Lib.hid k2
          clear h2 p2 q1 q2 q3 q4 q5 q6 q7 hnl hps hend hin
          go_wp2_with (first
            | (go_at_call 13; refine (hF.out).mono ?_; rintro y w9 ⟨rfl, rfl⟩)
            | (go_at_call 24; refine (hEn.out).mono ?_; rintro y w3 ⟨rfl, hb3⟩; replace hb3 := Lib.hid hb3)
            | (go_at_call 27; refine (hC.out _ hb3.out).mono ?_; rintro y w5 ⟨v5, ns5, g5, cl5, rfl, h5, k5⟩; replace h5 := Lib.hid h5; replace k5 := Lib.hid ((k2.out.trans (ChP.of_below hb3.out)).trans k5)))
          go_ret
          exact .inr ⟨-1, v5, ns5, g5, i2, cl5, 14, by decide, rfl, h5.out, k5.out, hst.out⟩
        · have hlen := chn_len 2 ns2 hps
          have hcs := catS_chn (ns := ns2) hps (by omega)
          obtain ⟨x, ns', hch⟩ : ∃ x ns', chn 2 ns2 ps2 = (x, ns') := ⟨_, _, rfl⟩
          rw [hch] at hcs hlen
          have hup := catS_up q1 hcs
          have hC := Lib.hid (fun w4 hb4 => abranch_some (hP.out w4 hb4) (p2.below hb4) hTW q1 hcs inG (fun e1 e2 => hop ⟨e1, e2⟩))
          have hst := Lib.hid (show okP (ns'.length : Int) x = true ∧ ns.length ≤ ns'.length ∧ ns'.length + 1 ≤ ns.length + 2 * (i2 - i) ∧ (nx l i2 = 124 ∨ (if inG then nx l i2 = 41 else i2 = n)) from
            ⟨hup.2.1, by omega, by simp only at hlen; omega, by
              rcases hend with hd | hd | ⟨hd, hd2⟩
              · refine .inr ?_
                cases inG with
                | true => exact absurd ⟨rfl, by omega⟩ hop
                | false => simp; omega
              · exact .inl hd
              · exact .inr (by rw [hd]; simpa using hd2)⟩)
          replace q6 := Lib.hid q6
          replace hch := Lib.hid hch
          replace k2 := Lib.hid k2
          replace q4 := Lib.hid q4
          replace q5 := Lib.hid q5
          clear h2 p2 q1 q2 q3 q7 hnl hps hend hop hlen hcs hup
          go_wp2_with (first
            | (go_at_call 13; refine (hF.out).mono ?_; rintro y w9 ⟨rfl, rfl⟩)
            | (go_at_call 24; refine (hEn.out).mono ?_; rintro y w3 ⟨rfl, hb3⟩; replace hb3 := Lib.hid hb3)
            | (go_at_call 27; refine (hC.out _ hb3.out).mono ?_; rintro y w5 ⟨v5, rfl, h5, k5⟩; replace h5 := Lib.hid h5; replace k5 := Lib.hid ((k2.out.trans (ChP.of_below hb3.out)).trans k5)))
          go_ret
          exact .inl ⟨x, v5, ns', g2, i2, cl2, ns2, ps2, rfl, hst.out.1, h5.out, k5.out, hch.out, hst.out.2.1, hst.out.2.2.1, q4.out, q5.out, hst.out.2.2.2, q6.out⟩
      · have hEn := Lib.hid (cends_any h2 false ⟨fun e => (by cases e), fun e => absurd e hend⟩)
        have hPc := Lib.hid (fun (w3 : World) (hb : Below wr.heap.size wr w3) => cpiece_any (inG := inG) (h2.keep hb) (pieAt_of hnl hend) hsm (by omega) (fun k hk => hB'.out k (by omega)))
        have hkeep := Lib.hid (fun (w3 : World) (hb : Below wr.heap.size wr w3) (y : Ending) (w5 : World) (hy : CNode true w3 B T A n c l v2 ns2 g2 i2 cl2 inG y w5) => show Pcs w.heap.size w5 (.slice Ap ps2.length kp) ps2 from by
          rcases hy with ⟨x, v', ns', g', i', cl', h1, h2', h3, h4, h5⟩ | ⟨x, v', ns', g', i', cl', q, h1, h2', h3, h4, h5⟩
          · exact (p2.below hb).chp (h2.keep hb) h4 hTW
          · exact (p2.below hb).chp (h2.keep hb) h4 hTW)
        have hcon := Lib.hid (fun (w3 : World) (hb : Below wr.heap.size wr w3) (z : Int) (w5 : World) (hy : CNode true w3 B T A n c l v2 ns2 g2 i2 cl2 inG (.returned (.int .i64 z)) w5) (v7 : Value) (w7 : World)
          (ho : w7.ownsRow w.heap.size 3 1 v7 (ps2.length + 1) (ps2.map (Value.int .i64) ++ [.int .i64 z])) (hg : (w5.alloc (.cells #[.int .i64 z] 3)).grownBy w7 (Value.slice Ap ps2.length kp).ownBlock) => relCB_next h2 k2 p2 q1 q2 q3 q4 q5 q6 hTW hb hy ho hg)
        clear h2 k2 p2 q1 q2 q4 q6 q7 hend
        go_wp2_with (first
          | (go_at_call 13; refine (hF.out).mono ?_; rintro y w9 ⟨rfl, rfl⟩)
          | (go_at_call 24; refine (hEn.out).mono ?_; rintro y w3 ⟨rfl, hb3⟩; replace hb3 := Lib.hid hb3)
          | (go_at_call 26; refine (hPc.out _ hb3.out).mono ?_; intro y w5 hy; obtain ⟨z, rfl, hy⟩ := hy.ret; have hq := Lib.hid (hcon.out _ hb3.out _ _ hy); have hpc5 := Lib.hid (hkeep.out _ hb3.out _ _ hy); replace hy := Lib.hid hy)
          | (at_builtin; refine wpList_append_at rfl _ _ 56 rfl w.heap.size 3 i0 (.int .i64 0) 1 8 Try.underlying56 hi0 hz0 hz1.out hz2.out rfl (by decide) (.slice Ap ps2.length kp) ps2.length (ps2.map (Value.int .i64)) rfl (own_below hpc5.out.own (below_one w5 z)) (some ⟨w5.heap.size, 0, none⟩) 1 1 [.int .i64 z] rfl rfl (src_int w5 z) (one_int z) (by unfold maxLen; omega) (by omega) (by have := hpc5.out.base; simp; omega) ?_; intro v7 w7 hown7 hg7 _; replace hown7 := Lib.hid hown7; replace hg7 := Lib.hid hg7))
        have hfin := Lib.hid (hq.out _ _ hown7.out hg7.out)
        go_roundw
        case rel => exact hfin.out.1
        case measure => exact hfin.out.2
    · have hF := Lib.hid (fine_any h2)
      rw [decide_eq_false he] at hF
      have hC := Lib.hid (abranch_bad h2 he inG)
      have hfin := Lib.hid (show CBran w B T A n c l v ns g i cl inG (.returned (.int .i64 (-1))) wr from .inr ⟨-1, v2, ns2, g2, i2, cl2, ee, he, rfl, h2, k2, q6⟩)
      clear h2 k2 q6 he
      go_wp2_with (first
        | (go_at_call 13; refine (hF.out).mono ?_; rintro y w9 ⟨rfl, rfl⟩)
        | (go_at_call 27; refine (hC.out _).mono ?_; rintro y w9 ⟨rfl, rfl⟩))
      go_ret
      exact hfin.out
end
end Go.Proofs.Ytnfbgpjadnlgbab
