/- Contract of the reference's Alt. -/
import Derived.Test.YtnfbgpjadnlgbaaGreatM47
set_option linter.unusedVariables false
set_option maxRecDepth 100000
namespace Go.Proofs.YtnfbgpjadnlgbaaGreat
open Go.RowKit

/-- Whether the text has ended within a group. -/
def IfAt (wt : World) (n : Nat) (l : List UInt8) (i1 : Nat) (inG b : Bool) (wx : World) : Prop := Below wt.heap.size wt wx ∧ (b = true → inG = true ∧ n ≤ i1) ∧ (b = false → if inG then nx l i1 = 41 else i1 = n)
section
variable {w : World} {B T : Nat} {A : Option Addr} {n c : Nat} {l : List UInt8} {v : Value} {ns : List Nod} {g i : Nat} {cl : Nat → Bool} {inG : Bool}
variable (h : Rdr w B T A n c l v ns g i cl 0)
include h
set_option maxHeartbeats 16000000 in
theorem ealt_any (hsm : n ≤ 300) (hrm : ns.length ≤ 2 * i) (hB : ∀ k, k < n - i → EAltOK k) :
    Calls Tryz.prog 23 #[.pointer (some ⟨T, 0, none⟩), .bool inG] w (EAlt w B T A n c l v ns g i cl inG) := by
  obtain ⟨i0, hi0, hz0, hz1, hz2⟩ := info_parts ints_info
  replace hz1 := Lib.hid hz1
  replace hz2 := Lib.hid hz2
  have hh := Lib.hid h
  have hTl := Lib.hid h.lt
  have hle := h.le
  have hB' := Lib.hid hB
  have hrm' := Lib.hid hrm
  clear hB hrm
  have hst := Lib.hid (show RelAlt w B T A n c l v ns g i cl inG (.slice none 0 0) w from ⟨v, ns, g, i, cl, [], h, ChP.of_below (Below.refl _ _), Pcs.nil_ w, fun p hp => (by cases hp), Nat.le_refl _, by simp, Nat.le_refl _, Nat.le_refl _, fun lv hlv => .refl _⟩)
  clear h
  go_enter Tryz.func23, Tryz.ntmps23
  go_upto_block 0 with (fail)
  go_cut [5] from 6 to 75 (fun s5 wx => RelEnd w B T A n c l v ns g i cl inG s5 wx)
  case first =>
    go_wp2_with (fail)
    go_loopw [5, 6] (fun a _ wr => RelAlt w B T A n c l v ns g i cl inG a wr) (fun _ _ wr => leftR n T wr)
    case atStart => exact hst.out
    case round =>
      clear hst
      obtain ⟨v1, ns1, g1, i1, cl1, bs, h1, k1, p1, q1, r1, r2, r3, r4, q6⟩ := hrel
      obtain ⟨Ap, kp, rfl, -, -, -, -⟩ := p1.slice
      have hle1 := h1.le
      have hleft := Lib.hid h1.left
      have hWs := p1.base
      have h5 := Lib.hid p1.below_of
      have hIn := Lib.hid (show RelEB wr.heap.size w B T A n c l v ns g i i1 cl inG bs (.slice Ap bs.length kp) (.slice none 0 0) wr from .inl ⟨v1, ns1, g1, i1, cl1, [], h1, k1, p1, Pcs.nil_ wr, q1, by simp, r1, by simp; omega, r3, r4, Nat.le_refl _, q6⟩)
      have hbl : bs.length ≤ 600 := by have := hrm'.out; omega
      have hi1 : i1 ≤ n := hle1
      clear h1 k1 p1 q1 r1 r2 r3 r4 q6 hle1
      rename World => wo
      go_upto_block 2 with (fail)
      go_cut [6] from 9 to 40 (fun s6 wx => RelX wo.heap.size w B T A n c l v ns g i i1 cl inG bs (.slice Ap bs.length kp) s6 wx)
      case first =>
        clear hleft
        go_wp2_with (fail)
        go_loopw [6] (fun b wi => RelEB wo.heap.size w B T A n c l v ns g i i1 cl inG bs (.slice Ap bs.length kp) b wi) (fun _ wi => leftR n T wi)
        case atStart => exact hIn.out
        case round =>
          clear hIn
          rcases hrel with ⟨v2, ns2, g2, i2, cl2, ps, h2, k2, p5, p6, q1, q2, r1, r2, r3, r4, r5, q6⟩ | ⟨v2, ns2, g2, i2, cl2, q, hq, h2, k2, q6⟩
          · obtain ⟨A6, k6, rfl, -, -, -, -⟩ := p6.slice
            have c2 := h2.c2
            have hnl := h2.hn
            have hle2 := h2.le
            have hN0 := Lib.hid (fun w3 (hb : Below wr.heap.size wr w3) => next_at (h2.keep hb) 0 0 rfl (by decide))
            rw [Nat.add_zero] at hN0
            have hbL := Lib.hid (show Below wr.heap.size wr wr from Below.refl _ _)
            have hpl : ps.length ≤ 600 := by have := hrm'.out; omega
            have hout := Lib.hid (fun (he : n ≤ i2 ∨ nx l i2 = 124 ∨ (inG = true ∧ nx l i2 = 41)) w3 (hb : Below wr.heap.size wr w3) => show RelX wo.heap.size w B T A n c l v ns g i i1 cl inG bs (.slice Ap bs.length kp) (.slice A6 ps.length k6) w3 from .inl ⟨v2, ns2, g2, i2, cl2, ps, he, h2.keep hb, k2.trans (ChP.of_below hb), p5.below hb, p6.below hb, q1, q2, r1, r2, r3, r4, r5, q6⟩)
            by_cases hin : n ≤ i2
            · have hz : nx l i2 = -1 := nx_none (by omega)
              rw [hz] at hN0
              replace hout := Lib.hid (hout.out (.inl hin))
              clear h2 k2 p5 p6 q1 q2 r1 r2 r3 r4 r5 q6 hnl hle2 hin hz
              go_wp2_with (go_at_call 32; refine (hN0.out _ hbL.out).mono ?_; rintro y w1 ⟨rfl, hq⟩; replace hbL := Lib.hid (hbL.out.trans (hq.mono hbL.out.size)); clear hq)
              go_meet
              exact hout.out _ hbL.out
            · by_cases hz : nx l i2 = 124
              · rw [hz] at hN0
                replace hout := Lib.hid (hout.out (.inr (.inl hz)))
                clear h2 k2 p5 p6 q1 q2 r1 r2 r3 r4 r5 q6 hnl hle2 hin hz
                go_wp2_with (go_at_call 32; refine (hN0.out _ hbL.out).mono ?_; rintro y w1 ⟨rfl, hq⟩; replace hbL := Lib.hid (hbL.out.trans (hq.mono hbL.out.size)); clear hq)
                go_meet
                exact hout.out _ hbL.out
              · have hlt : i2 < l.length := by omega
                have hge : 0 ≤ nx l i2 := by
                  rw [nx_some (List.getElem?_eq_getElem hlt)]; omega
                have hb124 : (nx l i2 != 124) = true := by rw [bne_iff_ne]; exact hz
                have hcon := Lib.hid (fun (w3 : World) (hb : Below wr.heap.size wr w3) (z : Int) (w5 : World) (hy : ENode true w3 B T A n c l v2 ns2 g2 i2 cl2 inG (.returned (.int .i64 z)) w5) (v7 : Value) (w7 : World) ho hg => relB_next (i1 := i1) h2 k2 p5 p6 q1 q2 r1 r2 r3 r4 r5 q6 hTl.out hWs h5.out hb hy (v7 := v7) (w7 := w7) ho hg)
                have hkeep := Lib.hid (fun (w3 : World) (hb : Below wr.heap.size wr w3) (y : Ending) (w5 : World) (hy : ENode true w3 B T A n c l v2 ns2 g2 i2 cl2 inG y w5) => show Pcs wo.heap.size w5 (.slice A6 ps.length k6) ps from by
                  have hTo : T < wo.heap.size := Nat.lt_of_lt_of_le hTl.out hWs
                  rcases hy with ⟨x, v', ns', g', i', cl', h1, h2', h3, h4, h5⟩ | ⟨x, v', ns', g', i', cl', q, h1, h2', h3, h4, h5⟩
                  · exact (p6.below hb).chr (h2.keep hb) h4 hTo
                  · exact (p6.below hb).chr (h2.keep hb) h4 hTo)
                have hPc := Lib.hid (fun (hp : PieAt l i2 inG) (first : Bool) (w3 : World) (hb : Below wr.heap.size wr w3) => eext_any (inG := inG) (first := first) (h2.keep hb) hp hsm (by have := hrm'.out; omega) (fun k hk => hB'.out k (by omega)))
                have hp6b := p6.base
                cases inG with
                | true =>
                  by_cases h41 : nx l i2 = 41
                  · rw [h41] at hN0
                    replace hout := Lib.hid (hout.out (.inr (.inr ⟨rfl, h41⟩)))
                    clear h2 k2 p5 p6 q1 q2 r1 r2 r3 r4 r5 q6 hnl hle2 hin hz hb124 hge h41 hcon hkeep hPc hlt
                    go_wp2_with (go_at_call 32; refine (hN0.out _ hbL.out).mono ?_; rintro y w1 ⟨rfl, hq⟩; replace hbL := Lib.hid (hbL.out.trans (hq.mono hbL.out.size)); clear hq)
                    go_meet
                    exact hout.out _ hbL.out
                  · have hb41 : (nx l i2 == 41) = false := by rw [beq_eq_false_iff_ne]; exact h41
                    replace hPc := Lib.hid (hPc.out ⟨hlt, hz, fun _ => h41⟩)
                    clear h2 k2 p5 p6 q1 q2 r1 r2 r3 r4 r5 q6 hnl hle2 hin hz h41 hlt hout
                    generalize nx l i2 = d at *
                    go_wp2_with (first
                      | (go_at_call 32; refine (hN0.out _ hbL.out).mono ?_; rintro y w1 ⟨rfl, hq⟩; replace hbL := Lib.hid (hbL.out.trans (hq.mono hbL.out.size)); clear hq)
                      | (go_at_call 39; refine (hPc.out _ _ hbL.out).mono ?_; intro y w5 hy; obtain ⟨z, rfl, hy⟩ := hy.ret; have hq := Lib.hid (hcon.out _ hbL.out _ _ hy); replace hy := Lib.hid hy; have hpc5 := Lib.hid (hkeep.out _ hbL.out _ _ hy.out))
                      | (at_builtin; go_loud (refine wpList_append_at rfl _ _ 57 rfl wo.heap.size 3 i0 (.int .i64 0) 1 8 Tryz.underlying57 hi0 hz0 hz1.out hz2.out rfl (by decide) (.slice A6 ps.length k6) ps.length (ps.map (Value.int .i64)) rfl (own_below hpc5.out.own (below_one w5 z)) (some ⟨w5.heap.size, 0, none⟩) 1 1 [.int .i64 z] rfl rfl (src_int w5 z) (one_int z) (by unfold maxLen; omega) (by omega) (by have := hpc5.out.base; simp; omega) ?_; intro v7 w7 hown7 hg7 _; replace hown7 := Lib.hid hown7; replace hg7 := Lib.hid hg7)))
                    have hfin := Lib.hid (hq.out _ _ hown7.out hg7.out)
                    go_roundw
                    case rel => exact hfin.out.1
                    case measure => exact hfin.out.2
                | false =>
                  replace hPc := Lib.hid (hPc.out ⟨hlt, hz, fun e => by cases e⟩)
                  clear h2 k2 p5 p6 q1 q2 r1 r2 r3 r4 r5 q6 hnl hle2 hin hz hlt hout
                  generalize nx l i2 = d at *
                  go_wp2_with (first
                    | (go_at_call 32; refine (hN0.out _ hbL.out).mono ?_; rintro y w1 ⟨rfl, hq⟩; replace hbL := Lib.hid (hbL.out.trans (hq.mono hbL.out.size)); clear hq)
                    | (go_at_call 39; refine (hPc.out _ _ hbL.out).mono ?_; intro y w5 hy; obtain ⟨z, rfl, hy⟩ := hy.ret; have hq := Lib.hid (hcon.out _ hbL.out _ _ hy); replace hy := Lib.hid hy; have hpc5 := Lib.hid (hkeep.out _ hbL.out _ _ hy.out))
                    | (at_builtin; go_loud (refine wpList_append_at rfl _ _ 57 rfl wo.heap.size 3 i0 (.int .i64 0) 1 8 Tryz.underlying57 hi0 hz0 hz1.out hz2.out rfl (by decide) (.slice A6 ps.length k6) ps.length (ps.map (Value.int .i64)) rfl (own_below hpc5.out.own (below_one w5 z)) (some ⟨w5.heap.size, 0, none⟩) 1 1 [.int .i64 z] rfl rfl (src_int w5 z) (one_int z) (by unfold maxLen; omega) (by omega) (by have := hpc5.out.base; simp; omega) ?_; intro v7 w7 hown7 hg7 _; replace hown7 := Lib.hid hown7; replace hg7 := Lib.hid hg7)))
                  have hfin := Lib.hid (hq.out _ _ hown7.out hg7.out)
                  go_roundw
                  case rel => exact hfin.out.1
                  case measure => exact hfin.out.2
          · have c2 := h2.c2
            have heb : ((q : Int) == 0) = false := by rw [beq_eq_false_iff_ne]; omega
            have hout := Lib.hid (fun b => show RelX wo.heap.size w B T A n c l v ns g i i1 cl inG bs (.slice Ap bs.length kp) b wr from .inr ⟨v2, ns2, g2, i2, cl2, q, hq, h2, k2, q6⟩)
            clear h2 k2 q6 hq
            go_wp2
            go_meet
            exact hout.out _
      case rest =>
        clear hIn
        rcases hcut with ⟨v2, ns2, g2, i2, cl2, ps, he, h2, k2, p5, p6, q1, q2, r1, r2, r3, r4, r5, q6⟩ | ⟨v2, ns2, g2, i2, cl2, q, hq, h2, k2, q6⟩
        · obtain ⟨A6, k6, rfl, -, -, -, -⟩ := p6.slice
          have c2 := h2.c2
          have t2 := h2.thawed 2
          have hnl := h2.hn
          have hle2 := h2.le
          have hpl : ps.length ≤ 600 := by have := hrm'.out; omega
          by_cases hps : ps = []
          · subst hps
            have hout := Lib.hid (relX_none (x := 0) h2 k2 he q6)
            clear h2 k2 p5 p6 q1 q2 r1 r2 r3 r4 r5 q6 he hnl
            go_wp2_with (fail)
            go_ret
            exact hout.out
          · have hp0 : 0 < ps.length := List.length_pos_iff.2 hps
            have hpb : ((ps.length : Int) == 0) = false := by rw [beq_eq_false_iff_ne]; omega
            have hTo : T < wo.heap.size := Nat.lt_of_lt_of_le hTl.out hWs
            have hrmo := hrm'.out
            simp only [ctOf_L hps] at q6
            have hCat := Lib.hid (rcat_any h2 p6 hTo q2 (by omega))
            have hput := Lib.hid (fun z w5 hy v7 w7 ho hg => alt_put (z := z) (w5 := w5) (v7 := v7) (w7 := w7) h2 k2 p5 q1 hps (by omega) hTl.out hy ho hg)
            have hk5 := Lib.hid (fun z w5 (hy : RCat wc B T A n c l v2 ns2 g2 i2 cl2 ps (.returned (.int .i64 z)) w5) => show Pcs w.heap.size w5 (.slice Ap bs.length kp) bs from by
              rcases hy with ⟨x, v', ns', -, -, -, -, -, k3⟩ | ⟨x, v', ns', -, -, -, k3⟩
              · exact p5.chr h2 k3 hTl.out
              · exact p5.chr h2 k3 hTl.out)
            by_cases hz : nx l i2 = 124
            · have hbar := Lib.hid (fun (z : Int) (v7 : Value) (w8 : World) (v3 : Value) (ns3 : List Nod) (h8 : Rdr w8 B T A n c l v3 ns3 g2 i2 cl2 0) (k8 : ChP w w8 T v v3) (p8 : Pcs w.heap.size w8 v7 (bs ++ [z])) q8 hc a1 a2 => alt_bar (z := z) h8 k8 p8 q8 hc a1 a2 r1 r2 r3 r4 q6 hTl.out hz)
              have hi2 : (i2 : Int) ≤ 100000 := by omega
              have hm2 := Lib.hid (show i1 ≤ i2 ∧ i2 < n from ⟨r5, by have := nx_lt (l := l) (i := i2) (by omega); omega⟩)
              replace hz := Lib.hid hz
              clear h2 k2 p5 p6 q1 q2 r1 r2 r3 r4 r5 q6 he hnl hps hrmo
              go_wp2_with (first
                | (go_at_call 34; refine (hCat.out).mono ?_; intro y w5 hy; obtain ⟨z, rfl, hy⟩ := hy.ret; have hpc5 := Lib.hid (hk5.out _ _ hy); replace hy := Lib.hid hy)
                | (at_builtin; refine wpList_append_at rfl _ _ 57 rfl w.heap.size 3 i0 (.int .i64 0) 1 8 Tryz.underlying57 hi0 hz0 hz1.out hz2.out rfl (by decide) (.slice Ap bs.length kp) bs.length (bs.map (Value.int .i64)) rfl (own_below hpc5.out.own (below_one w5 z)) (some ⟨w5.heap.size, 0, none⟩) 1 1 [.int .i64 z] rfl rfl (src_int w5 z) (one_int z) (by unfold maxLen; omega) (by omega) (by have := hpc5.out.base; simp; omega) ?_; intro v7 w7 hown7 hg7 _; obtain ⟨v3, ns3, hc, h7, k7, p7, q7, a1, a2⟩ := hput.out _ _ hy.out _ _ hown7 hg7; have hN7 := Lib.hid (next_at h7 0 0 rfl (by decide)); replace h7 := Lib.hid h7; replace k7 := Lib.hid k7; replace p7 := Lib.hid p7; replace q7 := Lib.hid q7; replace hc := Lib.hid hc; clear hown7 hg7)
                | (go_at_call 32; refine (hN7.out).mono ?_; rw [Nat.add_zero, hz.out]; rintro y w8 ⟨rfl, hb8⟩; have h8 := h7.out.keep hb8; have c1 := h8.c1; have t1 := h8.thawed 1; have hfin := Lib.hid (hbar.out z v7 w8 v3 ns3 h8 (k7.out.trans (ChP.of_below hb8)) (p7.out.below hb8) q7.out hc.out a1 a2); clear h8 hb8))
              go_roundw
              case rel => exact hfin.out.1
              case measure => have e1 := hleft.out; have e2 := hfin.out.2; have e3 := hm2.out; omega
            · have hend := Lib.hid (fun (z : Int) (v7 : Value) (w8 : World) (v3 : Value) (ns3 : List Nod) (h8 : Rdr w8 B T A n c l v3 ns3 g2 i2 cl2 0) (k8 : ChP w w8 T v v3) (p8 : Pcs w.heap.size w8 v7 (bs ++ [z])) q8 hc a1 a2 => alt_end (z := z) h8 k8 p8 q8 hc a1 a2 r1 r2 r3 r4 q6 hz he)
              have hb124 : (nx l i2 != 124) = true := by rw [bne_iff_ne]; exact hz
              clear h2 k2 p5 p6 q1 q2 r1 r2 r3 r4 r5 q6 he hnl hps hrmo hz
              go_wp2_with (first
                | (go_at_call 34; refine (hCat.out).mono ?_; intro y w5 hy; obtain ⟨z, rfl, hy⟩ := hy.ret; have hpc5 := Lib.hid (hk5.out _ _ hy); replace hy := Lib.hid hy)
                | (at_builtin; refine wpList_append_at rfl _ _ 57 rfl w.heap.size 3 i0 (.int .i64 0) 1 8 Tryz.underlying57 hi0 hz0 hz1.out hz2.out rfl (by decide) (.slice Ap bs.length kp) bs.length (bs.map (Value.int .i64)) rfl (own_below hpc5.out.own (below_one w5 z)) (some ⟨w5.heap.size, 0, none⟩) 1 1 [.int .i64 z] rfl rfl (src_int w5 z) (one_int z) (by unfold maxLen; omega) (by omega) (by have := hpc5.out.base; simp; omega) ?_; intro v7 w7 hown7 hg7 _; obtain ⟨v3, ns3, hc, h7, k7, p7, q7, a1, a2⟩ := hput.out _ _ hy.out _ _ hown7 hg7; have hN7 := Lib.hid (next_at h7 0 0 rfl (by decide)); replace h7 := Lib.hid h7; replace k7 := Lib.hid k7; replace p7 := Lib.hid p7; replace q7 := Lib.hid q7; replace hc := Lib.hid hc; clear hown7 hg7)
                | (go_at_call 32; refine (hN7.out).mono ?_; rw [Nat.add_zero]; rintro y w8 ⟨rfl, hb8⟩; have hfin := Lib.hid (hend.out z v7 w8 v3 ns3 (h7.out.keep hb8) (k7.out.trans (ChP.of_below hb8)) (p7.out.below hb8) q7.out hc.out a1 a2); clear hb8))
              go_meet
              exact hfin.out
        · have c2 := h2.c2
          have heb : ((q : Int) == 0) = false := by rw [beq_eq_false_iff_ne]; omega
          have heb2 : ((q : Int) != 0) = true := by rw [bne_iff_ne]; omega
          have hout := Lib.hid (show EAlt w B T A n c l v ns g i cl inG (.returned (.int .i64 0)) wc from .inr ⟨0, v2, ns2, g2, i2, cl2, q, hq, rfl, h2, k2, q6⟩)
          clear h2 k2 q6 hq
          go_wp2
          go_ret
          exact hout.out
  case rest =>
    clear hst hB'
    obtain ⟨v1, ns1, g1, i1, cl1, ns0, ps, bs, x, hz, he, hc, h1, k1, p1, q1, r1, r2, r3, r4, q6⟩ := hcut
    rename World => wt
    have hTw := hTl.out
    have hnl := h1.hn
    have hle1 := h1.le
    have hbl : bs.length ≤ 600 := by have := hrm'.out; omega
    obtain ⟨A5, m, k5, rfl⟩ := p1.sl
    have hN0 := Lib.hid (next_at h1 0 0 rfl (by decide))
    rw [Nat.add_zero] at hN0
    have c2 := h1.c2
    have hR := Lib.hid (fun w3 (hb : Below wt.heap.size wt w3) => h1.keep hb)
    have hT0 := Lib.hid (fun w3 (hb : Below wt.heap.size wt w3) (hh : if inG then nx l i1 = 41 else i1 = n) => show RelT w B T A n c l v ns1 g1 i1 cl1 inG (.slice A5 m k5) (bs ++ [x]) w3 from ⟨0, v1, h1.keep hb, k1.trans (ChP.of_below hb), p1.below hb, fun _ => hh, fun e => absurd rfl e⟩)
    have hT1 := Lib.hid (fun (hG : inG = true) (hin : n ≤ i1) w3 (hb : Below wt.heap.size wt w3) => show RelT w B T A n c l v ns1 g1 i1 cl1 inG (.slice A5 m k5) (bs ++ [x]) (w3.setCell ⟨T, 2, none⟩ (.int .i64 14)) from ⟨14, v1, (h1.keep hb).erred 14 (z := 14) rfl, (k1.trans (ChP.of_below hb)).trans (ChP.store w3 T 2 (.int .i64 14) v1), (p1.below hb).chr (h1.keep hb) (ChP.store w3 T 2 (.int .i64 14) v1) hTw, fun e => absurd e (by decide), fun _ => ⟨hG, hin, rfl⟩⟩)
    have hrmo := hrm'.out
    have hbound : ns1.length + bs.length < 1000 := by omega
    replace hc := Lib.hid hc
    replace q1 := Lib.hid q1
    replace q6 := Lib.hid q6
    have hcase : Hid ((inG = true ∧ n ≤ i1) ∨ (inG = true ∧ nx l i1 = 41) ∨ (inG = false ∧ n ≤ i1)) := Lib.hid (by
      cases inG with
      | true => exact he.elim (fun e => .inl ⟨rfl, e⟩) (fun e => .inr (.inl ⟨rfl, e.2⟩))
      | false => exact .inr (.inr ⟨rfl, he.elim id (fun e => by cases e.1)⟩))
    replace he := Lib.hid he
    replace hnl := Lib.hid hnl
    replace hz := Lib.hid hz
    clear h1 k1 p1
    go_upto_region 12 with (fail)
    go_cut [88] from 76 to 87 (fun s88 wx => ∃ b : Bool, s88 = .bool b ∧ IfAt wt n l i1 inG b wx)
    case first =>
      rcases hcase.out with ⟨rfl, hin⟩ | ⟨rfl, h41⟩ | ⟨rfl, hin⟩
      · rw [nx_none (by have := hnl.out; omega)] at hN0
        replace hin := Lib.hid hin
        go_wp2_with (go_at_call 32; refine (hN0.out).mono ?_; rintro y w3 ⟨rfl, hb3⟩; replace hb3 := Lib.hid hb3)
        go_meet
        exact ⟨true, rfl, hb3.out, fun _ => ⟨rfl, hin.out⟩, fun e => (by cases e)⟩
      · rw [h41] at hN0
        replace h41 := Lib.hid h41
        go_wp2_with (go_at_call 32; refine (hN0.out).mono ?_; rintro y w3 ⟨rfl, hb3⟩; replace hb3 := Lib.hid hb3)
        go_meet
        exact ⟨false, rfl, hb3.out, fun e => (by cases e), fun _ => by rw [if_pos rfl]; exact h41.out⟩
      · have hin1 := Lib.hid (show i1 = n by omega)
        go_wp2_with (fail)
        go_meet
        exact ⟨false, rfl, Below.refl _ _, fun e => (by cases e), fun _ => by rw [if_neg (by decide)]; exact hin1.out⟩
    case rest =>
     obtain ⟨b, rfl, hI⟩ := hcut
     replace hI := Lib.hid hI
     clear hN0 hcase c2
     have h3 := hR.out _ hI.out.1
     have c2 := h3.c2
     have t2 := h3.thawed 2
     clear h3
     go_upto_if 88 with (fail)
     go_cut [89] from 90 to 91 (fun _ wx => RelT w B T A n c l v ns1 g1 i1 cl1 inG (.slice A5 m k5) (bs ++ [x]) wx)
     case first =>
      cases b with
      | true =>
        go_wp2_with (fail)
        go_meet
        exact hT1.out (hI.out.2.1 rfl).1 (hI.out.2.1 rfl).2 _ hI.out.1
      | false =>
        go_wp2_with (fail)
        go_meet
        exact hT0.out _ hI.out.1 (hI.out.2.2 rfl)
     case rest =>
      clear hT0 hT1 hR hI
      obtain ⟨e, v0, h0, k0, p0, f0, f1⟩ := hcut
      obtain ⟨x0, r, hL⟩ : ∃ x0 r, bs ++ [x] = x0 :: r := by cases bs with | nil => exact ⟨_, _, rfl⟩ | cons a b => exact ⟨_, _, rfl⟩
      have hll : r.length = bs.length := by have := congrArg List.length hL; simp at this; omega
      have hdone := Lib.hid (fun (he : e = 0) (wr : World) (v' : Value) (ns' : List Nod) (y : Int) (h' : Rdr wr B T A n c l v' ns' g1 i1 cl1 0) k' hr ok' hn' => alt_done (wr := wr) (v' := v') (ns' := ns') (y := y) (r := r) h' k0 k' hL hc.out hr ok' hn' r1 r2 r3 r4 (f0 he) q6.out)
      have hopen := Lib.hid (fun (he : e ≠ 0) (wr : World) (v' : Value) (y : Int) (h' : Rdr wr B T A n c l v' ns1 g1 i1 cl1 e) (k' : ChP wc wr T v0 v') => show EAlt w B T A n c l v ns g i cl inG (.returned (.int .i64 y)) wr from by
        obtain ⟨rfl, hin, rfl⟩ := f1 he
        exact alt_open (ps := ps) (bs := bs) (ns0 := ns0) h' k0 k' hin q6.out)
      have hok0 := q1.out
      rw [hL] at p0 hok0
      obtain ⟨hm, hmk, hk3, -, -⟩ := p0.slice'
      obtain ⟨ad, rfl, c00⟩ := p0.elem (j := 0) (by simp)
      rw [show ad.add 0 = ad by cases ad; simp [Addr.add]] at c00
      simp only [List.getElem_cons_zero] at c00
      have hm1 : m = r.length + 1 := by simpa using hm
      have hrl : r.length ≤ 600 := by omega
      have hmi : (0 : Int) < (m : Int) := by omega
      have hm6 : m ≤ 601 := by omega
      have hbd := Lib.hid (show ns1.length + r.length < 1000 by omega)
      have hat := Lib.hid (show RelJ wc B T A n c l v0 ns1 g1 i1 cl1 e x0 r (.int .i64 x0) (.int .i64 1) wc from ⟨0, by omega, rfl, by
        by_cases he : e = 0
        · subst he; exact .inl ⟨rfl, x0, v0, ns1, rfl, by rw [List.take_zero, chnF_nil], hok0 x0 (by simp), rfl, h0, ChP.of_below (Below.refl _ _)⟩
        · exact .inr ⟨he, x0, v0, rfl, h0, ChP.of_below (Below.refl _ _)⟩⟩)
      have hokr := Lib.hid (fun p (hp : p ∈ r) => hok0 p (by simp [hp]))
      have hpc := Lib.hid (fun (wr : World) (v' : Value) (k' : ChP wc wr T v0 v') => p0.chr h0 k' hTw)
      replace hm1 := Lib.hid hm1
      clear h0 k0 p0 f0 f1 hL hll hok0 hm hc q1 q6 hz he
      go_wp2
      go_loopw [7, 8] (fun kv iv wr => RelJ wc B T A n c l v0 ns1 g1 i1 cl1 e x0 r kv iv wr) (fun _ iv _ => m - (intOf iv).toNat)
      case atStart => exact hat.out
      case round =>
        clear c00 hat
        obtain ⟨j, hj, rfl, hst⟩ := hrel
        by_cases hlt : j < r.length
        · have hji : (j : Int) + 1 < (m : Int) := by have := hm1.out; omega
          obtain ⟨q, hq⟩ : ∃ q, q = j + 1 := ⟨_, rfl⟩
          have hqi : (j : Int) + 1 = (q : Int) := by omega
          rw [hqi] at hji ⊢
          have hqm : q < m := by omega
          have hq0 : (0 : Int) ≤ (q : Int) := by omega
          have hq2 : (q : Int) ≤ 200001 := by omega
          have hqj := Lib.hid hq
          rcases hst with ⟨he0, y, v1, ns2, rfl, hc3, hy, hln, h1, k1⟩ | ⟨he0, y, v1, rfl, h1, k1⟩
          · obtain ⟨ad', e', hcell⟩ := (hpc.out _ _ k1).elem (j := q) (by rw [List.length_cons]; omega)
            cases e'
            have hel : (x0 :: r)[q]'(by rw [List.length_cons]; omega) = r[j]'hlt := by subst hq; rfl
            rw [hel] at hcell
            have hpo := okP_more (hokr.out _ (List.getElem_mem hlt)) (show (ns1.length : Int) ≤ (ns2.length : Int) by omega)
            have hP := Lib.hid (rput_any h1 (twoN 3 y (r[j]'hlt)) (by rw [fits_two 3 (.inr rfl), hy, hpo]; rfl))
            have hst := Lib.hid (chnF_step 3 x0 ns1 hlt)
            rw [show nodV (twoN 3 y (r[j]'hlt)) = _ from nodV_z 3 y (r[j]'hlt) 0 0 0] at hP
            have hfin := Lib.hid (show ∀ z w', RPut wr B T A n c l v1 ns2 g1 i1 cl1 (twoN 3 y (r[j]'hlt)) (.returned (.int .i64 z)) w' → RelJ wc B T A n c l v0 ns1 g1 i1 cl1 e x0 r (.int .i64 z) (.int .i64 ((q : Int) + 1)) w' from fun z w' hy => by
              obtain ⟨v', e1, h3, k3⟩ := hy.room (by have := hbd.out; omega)
              injection e1 with e1
              injection e1 with _ e1
              subst e1
              have hst := hst.out
              rw [hc3] at hst
              exact ⟨j + 1, hlt, by rw [hq], .inl ⟨he0, (ns2.length : Int), v', ns2 ++ [twoN 3 y (r[j]'hlt)], rfl, hst, by rw [List.length_append]; exact okP_last _, by rw [List.length_append, List.length_singleton]; omega, h3, k1.trans k3⟩⟩)
            generalize r[j]'hlt = p at *
            clear h1 hy hc3 hpo hel hst hln k1 hq hqi he0
            go_wp2_with (go_at_call 22; refine (hP.out).mono ?_; intro x w2 hy; obtain ⟨z, rfl, hy⟩ := hy.ret; replace hy := Lib.hid (hfin.out _ _ hy))
            go_roundw
            case rel => exact hy.out
            case measure => have := hqj.out; simp [intOf]; omega
          · obtain ⟨ad', e', hcell⟩ := (hpc.out _ _ k1).elem (j := q) (by rw [List.length_cons]; omega)
            cases e'
            generalize (x0 :: r)[q]'(by rw [List.length_cons]; omega) = p at hcell
            have hP := Lib.hid (rput_off h1 he0 (twoN 3 y p))
            rw [show nodV (twoN 3 y p) = _ from nodV_z 3 y p 0 0 0] at hP
            have hfin := Lib.hid (show ∀ w', Below wr.heap.size wr w' → RelJ wc B T A n c l v0 ns1 g1 i1 cl1 e x0 r (.int .i64 0) (.int .i64 ((q : Int) + 1)) w' from fun w' hb =>
              ⟨j + 1, hlt, by rw [hq], .inr ⟨he0, 0, v1, rfl, h1.keep hb, k1.trans (ChP.of_below hb)⟩⟩)
            clear h1 k1 hq hqi he0
            go_wp2_with (go_at_call 22; refine (hP.out).mono ?_; rintro x w2 ⟨rfl, hb2⟩; have hy := Lib.hid (hfin.out _ hb2))
            go_roundw
            case rel => exact hy.out
            case measure => have := hqj.out; simp [intOf]; omega
        · obtain rfl : j = r.length := by omega
          rw [List.take_length] at hst
          have hmm : (r.length : Int) + 1 = (m : Int) := by have := hm1.out; omega
          rw [hmm]
          rcases hst with ⟨he0, y, v1, ns2, rfl, hc3, hy, hln, h1, k1⟩ | ⟨he0, y, v1, rfl, h1, k1⟩
          · have hfin := Lib.hid (hdone.out he0 _ _ _ _ h1 k1 hc3 hy hln)
            clear h1 hc3 hy k1 hmm he0 hln
            go_wp2
            go_ret
            exact hfin.out
          · have hfin := Lib.hid (hopen.out he0 _ _ y h1 k1)
            clear h1 k1 hmm he0
            go_wp2
            go_ret
            exact hfin.out
end
end Go.Proofs.YtnfbgpjadnlgbaaGreat
