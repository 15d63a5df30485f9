/- Contract of the parser of extended texts: alternatives. -/
import Derived.Test.YtnfbgpjadnlgbabM48
set_option linter.unusedVariables false
set_option maxRecDepth 100000
namespace Go.Proofs.Ytnfbgpjadnlgbab
open Go.RowKit

theorem own_one (w1 : World) (W : Nat) (hW : W ≤ w1.heap.size) (x : Int) : (w1.alloc (.cells #[.int .i64 x] 3)).ownsRow W 3 1 (.slice (some ⟨w1.heap.size, 0, none⟩) 1 1) 1 [.int .i64 x] :=
  ⟨rfl, .inr ⟨w1.heap.size, 1, #[.int .i64 x], rfl, hW, heap_alloc_new w1 _, Nat.le_refl _, by decide, rfl, rfl⟩⟩
/-- While alternatives are read: behind a branch. -/
def RelCA (w : World) (B T : Nat) (A : Option Addr) (n c : Nat) (l : List UInt8) (v : Value) (ns : List Nod) (g i : Nat) (cl : Nat → Bool) (inG : Bool) (s5 : Value) (wr : World) : Prop :=
  (∃ v' ns' g' i' cl' bs x ns1 ps1, Psr wr B T A n c l v' ns' g' i' cl' 0 ∧ ChP w wr T v v' ∧ Pcs w.heap.size wr s5 (bs ++ [x]) ∧ (∀ p ∈ bs ++ [x], okP (ns'.length : Int) p = true) ∧ chn 2 ns1 ps1 = (x, ns') ∧ ns.length ≤ ns'.length ∧ ns'.length + 3 * bs.length + 1 ≤ ns.length + 2 * (i' - i) ∧ g ≤ g' ∧ i ≤ i' ∧
    (nx l i' = 124 ∨ (if inG then nx l i' = 41 else i' = n)) ∧ ∀ lv, lv.isEmpty = !inG → StepsE l ⟨.B, i, ns, g, cl, [], [], lv⟩ ⟨.L, i', ns1, g', cl', ps1, bs, lv⟩) ∨
  (∃ v' ns' g' i' cl' q, q ≠ 0 ∧ Psr wr B T A n c l v' ns' g' i' cl' q ∧ ChP w wr T v v' ∧ ∀ lv, lv.isEmpty = !inG → EndsE l ⟨.B, i, ns, g, cl, [], [], lv⟩ (.bad i' q))
section
variable {w w' wr w3 w5 w7 : World} {B T : Nat} {A : Option Addr} {n c : Nat} {l : List UInt8} {v v' v2 v7 : Value} {ns ns2 ns1 : List Nod} {g g2 i i2 : Nat} {cl cl2 : Nat → Bool} {inG : Bool} {s5 : Value} {ps bs : List Int} {z x : Int} {e : Ending}
/-- Behind the first branch. -/
theorem relCA_first (hy : CBran w B T A n c l v ns g i cl inG (.returned (.int .i64 z)) w5) (hT : T < w.heap.size) :
    RelCA w B T A n c l v ns g i cl inG (.slice (some ⟨w5.heap.size, 0, none⟩) 1 1) (w5.alloc (.cells #[.int .i64 z] 3)) := by
  rcases hy with ⟨x, v', ns', g', i', cl', ns1, ps1, e1, ok', h3, k3, hc, a1, a0, a2, a3, he, q6⟩ | ⟨x, v', ns', g', i', cl', q, hq, e1, h3, k3, q6⟩
  · obtain rfl : z = x := by simpa using e1
    exact .inl ⟨v', ns', g', i', cl', [], z, ns1, ps1, h3.keep (below_one w5 z), k3.trans (ChP.of_below (below_one w5 z)), ⟨own_one w5 _ k3.size z, by have := k3.size; simp; omega⟩, fun p hp => by simp at hp; subst hp; exact ok', hc, a1, by simp; omega, a2, a3, he, fun lv hlv => q6 [] lv hlv⟩
  · exact .inr ⟨v', ns', g', i', cl', q, hq, h3.keep (below_one w5 z), k3.trans (ChP.of_below (below_one w5 z)), fun lv hlv => q6 [] lv hlv⟩
/-- One branch more. -/
theorem relCA_next {w4 : World} {cl1 : Nat → Bool} {ps1 : List Int} (h2 : Psr wr B T A n c l v2 ns2 g2 i2 cl2 0) (k2 : ChP w wr T v v2) (p6 : Pcs w.heap.size wr s5 (bs ++ [x])) (q2 : ∀ p ∈ bs ++ [x], okP (ns2.length : Int) p = true) (hc : chn 2 ns1 ps1 = (x, ns2))
    (r1 : ns.length ≤ ns2.length) (r2 : ns2.length + 3 * bs.length + 1 ≤ ns.length + 2 * (i2 - i)) (r3 : g ≤ g2) (r4 : i ≤ i2) (hn : nx l i2 = 124)
    (q6 : ∀ lv, lv.isEmpty = !inG → StepsE l ⟨.B, i, ns, g, cl, [], [], lv⟩ ⟨.L, i2, ns1, g2, cl2, ps1, bs, lv⟩) (hT : T < w.heap.size)
    (h4 : Psr w4 B T A n c l v2 ns2 g2 (i2 + 1) cl2 0) (k4 : ChP wr w4 T v2 v2) (hy : CBran w4 B T A n c l v2 ns2 g2 (i2 + 1) cl2 inG (.returned (.int .i64 z)) w5)
    (ho : w7.ownsRow w.heap.size 3 1 v7 ((bs ++ [x]).length + 1) ((bs ++ [x]).map (Value.int .i64) ++ [.int .i64 z])) (hg : (w5.alloc (.cells #[.int .i64 z] 3)).grownBy w7 s5.ownBlock) :
    RelCA w B T A n c l v ns g i cl inG v7 w7 ∧ leftP n T w7 < leftP n T wr := by
  have hle := h4.le
  have hil := nx_lt (l := l) (i := i2) (by omega)
  have hstep : ∀ lv : List (Nat × List Int × List Int), stepE l ⟨.L, i2, ns1, g2, cl2, ps1, bs, lv⟩ = .go ⟨.B, i2 + 1, ns2, g2, cl2, [], bs ++ [x], lv⟩ := fun lv => by
    show stepEL l _ = _
    simp only [stepEL]
    rw [if_neg (by omega), if_pos hn]
    simp only [branE, hc]
  rcases hy with ⟨x', v', ns', g', i', cl', ns3, ps3, e1, ok', h5, k5, hc5, a1, a0, a2, a3, he, q8⟩ | ⟨x', v', ns', g', i', cl', q, hq, e1, h5, k5, q8⟩
  · obtain rfl : z = x' := by simpa using e1
    have hp6 := (((p6.chp h2 k4 hT).chp h4 k5 hT)).below (below_one w5 z)
    have h7 := (h5.keep (below_one w5 z)).grown hp6 hg hT
    refine ⟨.inl ⟨v', ns', g', i', cl', bs ++ [x], z, ns3, ps3, h7, (((k2.trans k4).trans k5).trans (ChP.of_below (below_one w5 z))).grown hg p6.lt, hp6.more ho hg.size, fun y hy => ?_, hc5, by omega, by rw [List.length_append, List.length_singleton]; omega, by omega, by omega, he, fun lv hlv => ((q6 lv hlv).snoc (hstep lv)).trans (q8 (bs ++ [x]) lv hlv)⟩, by rw [h7.left, h2.left]; omega⟩
    rcases List.mem_append.1 hy with hy | hy
    · exact okP_more (q2 y hy) (by omega)
    · simp only [List.mem_singleton] at hy; subst hy; exact ok'
  · have hp6 := (((p6.chp h2 k4 hT).chp h4 k5 hT)).below (below_one w5 z)
    have h7 := (h5.keep (below_one w5 z)).grown hp6 hg hT
    exact ⟨.inr ⟨v', ns', g', i', cl', q, hq, h7, (((k2.trans k4).trans k5).trans (ChP.of_below (below_one w5 z))).grown hg p6.lt, fun lv hlv => ((q6 lv hlv).snoc (hstep lv)).ends (q8 (bs ++ [x]) lv hlv)⟩, by rw [h7.left0 hq, h2.left]; omega⟩
/-- The builder's Alt, where there is room. -/
theorem calt_call (h : Psr w B T A n c l v ns g i cl 0) {W m k : Nat} {Ap : Option Addr} (hp : Pcs W w (.slice Ap m k) (bs ++ [x])) (hT : T < W) (hok : ∀ p ∈ bs ++ [x], okP (ns.length : Int) p = true) (hl : ns.length + bs.length ≤ 1000) {y : Int} {ns' : List Nod} (hc : chn 3 ns (bs ++ [x]) = (y, ns')) :
    Calls Try.prog 19 #[.pointer (some ⟨T, 0, none⟩), .slice Ap m k] w fun e w' => ∃ v', e = .returned (.int .i64 y) ∧ Psr w' B T A n c l v' ns' g i cl 0 ∧ ChP w w' T v v' := by
  obtain ⟨h1, h2, h3, h4, h5⟩ := hp.slice'
  refine (alt_any B T 0 v ns g Ap m k w.heap.size (bs ++ [x]) w h.bldr h1 h2 h3 h4 (Nat.le_refl _) (hp.apart h hT h5)).mono fun e w' ⟨v', e1, hb, hg⟩ => ?_
  rw [altR_chn (by simp) hok (by rw [List.length_append, List.length_singleton]; omega), hc] at e1 hb
  exact ⟨v', e1, h.built (Nat.le_refl _) hb hg, hg.chp⟩
theorem chn_ok (k : Int) {L : List Int} (hL : L ≠ []) (hok : ∀ p ∈ L, okP (ns.length : Int) p = true) : okP ((chn k ns L).2.length : Int) (chn k ns L).1 = true := by
  cases L with
  | nil => exact absurd rfl hL
  | cons a r => rw [chn_cons]; exact chnF_ok k r a ns (hok a (by simp))
end
section
variable {w : World} {B T : Nat} {A : Option Addr} {n c : Nat} {l : List UInt8} {v : Value} {ns : List Nod} {g i : Nat} {cl : Nat → Bool} {inG : Bool} (h : Psr w B T A n c l v ns g i cl 0)
include h
set_option maxHeartbeats 8000000 in
theorem calternatives (hsm : n ≤ 300) (hrm : ns.length ≤ 2 * i) (hB : ∀ k, k < n - i → CAltOK k) :
    Calls Try.prog 12 #[.pointer (some ⟨T, 0, none⟩), .bool inG] w (CAlt w B T A n c l v ns g i cl inG) := by
  obtain ⟨i0, hi0, hz0, hz1, hz2⟩ := info_parts ints_info
  replace hz1 := Lib.hid hz1
  replace hz2 := Lib.hid hz2
  have hTl := Lib.hid h.lt
  have hB' := Lib.hid hB
  have hX := Lib.hid (cbranch_any (inG := inG) h hsm hrm hB)
  clear h hB
  go_enter Try.func12, Try.ntmps12
  go_wp2_with (go_at_call 16; refine (hX.out).mono ?_; intro y w5 hy; obtain ⟨z, rfl, hy⟩ := hy.ret; replace hy := Lib.hid (relCA_first hy hTl.out))
  clear hX
  go_loopw [5] (fun a wr => RelCA w B T A n c l v ns g i cl inG a wr) (fun _ wr => leftP n T wr)
  case atStart => exact hy.out
  case round =>
    clear hy
    rcases hrel with ⟨v2, ns2, g2, i2, cl2, bs, x, ns1, ps1, h2, k2, p2, q1, hc, q2, q3, q4, q5, he, q6⟩ | ⟨v2, ns2, g2, i2, cl2, ee, he, h2, k2, q6⟩
    · have hF := Lib.hid (fine_any h2)
      rw [decide_eq_true rfl] at hF
      have hnl := h2.hn
      have hle := h2.le
      obtain ⟨Ap, kp, rfl, -, -, -, -⟩ := p2.slice
      have hTW := hTl.out
      by_cases hn : nx l i2 = 124
      · have hY := Lib.hid (take_yes h2 ⟨#[124]⟩ (bg_nx 124 true (decide_eq_true hn)) 1 rfl (by decide))
        have hBr := Lib.hid (fun (w4 : World) (h4 : Psr w4 B T A n c l v2 ns2 g2 (i2 + 1) cl2 0) => cbranch_any (inG := inG) h4 hsm (by omega) (fun k hk => hB'.out k (by omega)))
        have hkeep := Lib.hid (fun (w4 : World) (h4 : Psr w4 B T A n c l v2 ns2 g2 (i2 + 1) cl2 0) (k4 : ChP wr w4 T v2 v2) (y : Ending) (w5 : World) (hy : CBran w4 B T A n c l v2 ns2 g2 (i2 + 1) cl2 inG y w5) => show Pcs w.heap.size w5 (.slice Ap (bs ++ [x]).length kp) (bs ++ [x]) from by
          rcases hy with ⟨x, v', ns', g', i', cl', ns1, ps1, h1, h2', h3, h4', h5⟩ | ⟨x, v', ns', g', i', cl', q, h1, h2', h3, h4', h5⟩
          · exact ((p2.chp h2 k4 hTW).chp h4 h4' hTW)
          · exact ((p2.chp h2 k4 hTW).chp h4 h4' hTW))
        have hcon := Lib.hid (fun (w4 : World) (h4 : Psr w4 B T A n c l v2 ns2 g2 (i2 + 1) cl2 0) (k4 : ChP wr w4 T v2 v2) (z : Int) (w5 : World) (hy : CBran w4 B T A n c l v2 ns2 g2 (i2 + 1) cl2 inG (.returned (.int .i64 z)) w5) (v7 : Value) (w7 : World)
          (ho : w7.ownsRow w.heap.size 3 1 v7 ((bs ++ [x]).length + 1) ((bs ++ [x]).map (Value.int .i64) ++ [.int .i64 z])) (hg : (w5.alloc (.cells #[.int .i64 z] 3)).grownBy w7 (Value.slice Ap (bs ++ [x]).length kp).ownBlock) => relCA_next (cl1 := cl) h2 k2 p2 q1 hc q2 q3 q4 q5 hn q6 hTW h4 k4 hy ho hg)
        have hM : (bs ++ [x]).length ≤ 1000 := by rw [List.length_append, List.length_singleton]; omega
        clear h2 k2 p2 q1 q2 q3 q4 q5 q6 hc he hn
        generalize bs ++ [x] = L at *
        go_wp2_with (first
          | (go_at_call 13; refine (hF.out).mono ?_; rintro y w9 ⟨rfl, rfl⟩)
          | (go_at_call 17; refine (hY.out).mono ?_; rintro y w4 ⟨rfl, -, h4, k4⟩; replace h4 := Lib.hid h4; replace k4 := Lib.hid k4)
          | (go_at_call 16; refine (hBr.out _ h4.out).mono ?_; intro y w5 hy; obtain ⟨z, rfl, hy⟩ := hy.ret; have hq := Lib.hid (hcon.out _ h4.out k4.out _ _ hy); have hpc5 := Lib.hid (hkeep.out _ h4.out k4.out _ _ hy); replace hy := Lib.hid hy)
          | (at_builtin; refine wpList_append_at rfl _ _ 56 rfl w.heap.size 3 i0 (.int .i64 0) 1 8 Try.underlying56 hi0 hz0 hz1.out hz2.out rfl (by decide) (.slice Ap L.length kp) L.length (L.map (Value.int .i64)) rfl (own_below hpc5.out.own (below_one w5 z)) (some ⟨w5.heap.size, 0, none⟩) 1 1 [.int .i64 z] rfl rfl (src_int w5 z) (one_int z) (by unfold maxLen; omega) (by omega) (by have := hpc5.out.base; simp; omega) ?_; intro v7 w7 hown7 hg7 _; replace hown7 := Lib.hid hown7; replace hg7 := Lib.hid hg7))
        have hfin := Lib.hid (hq.out _ _ hown7.out hg7.out)
        go_roundw
        case rel => exact hfin.out.1
        case measure => exact hfin.out.2
      · have hN := Lib.hid (take_no h2 ⟨#[124]⟩ (bg_nx 124 false (decide_eq_false hn)))
        have hF2 := Lib.hid (fun (w3 : World) (hb : Below wr.heap.size wr w3) => fine_any (h2.keep hb))
        rw [decide_eq_true rfl] at hF2
        have hL : bs ++ [x] ≠ [] := by simp
        obtain ⟨y, ns', hch⟩ : ∃ y ns', chn 3 ns2 (bs ++ [x]) = (y, ns') := ⟨_, _, rfl⟩
        have hok := chn_ok 3 hL q1
        have hlen := chn_len 3 ns2 hL
        rw [hch] at hok hlen
        rw [List.length_append, List.length_singleton] at hlen
        simp only at hok hlen
        obtain ⟨yn, rfl⟩ : ∃ yn : Nat, y = (yn : Int) := ⟨y.toNat, by have := okP_pos hok; omega⟩
        have hC := Lib.hid (fun (w3 : World) (hb : Below wr.heap.size wr w3) => calt_call (h2.keep hb) (p2.below hb) hTW q1 (by omega) hch)
        have he2 := he.resolve_left hn
        have hfin := Lib.hid (fun (w6 : World) (v6 : Value) (h6 : Psr w6 B T A n c l v6 ns' g2 i2 cl2 0) (k6 : ChP wr w6 T v2 v6) => show CAlt w B T A n c l v ns g i cl inG (.returned (.int .i64 (yn : Int))) w6 from
          .inl ⟨(yn : Int), v6, ns', g2, i2, cl2, ns1, ps1, bs, rfl, hok, h6, k2.trans k6, by omega, by omega, q4, q5, he2, fun lv hlv => ⟨by simp only [altsE, branE, hc]; exact hch, q6 lv hlv⟩⟩)
        clear h2 k2 p2 q1 q2 q3 q4 q5 q6 hc he hn hok hlen hch he2 hL
        generalize (bs ++ [x]).length = M at *
        go_wp2_with (first
          | (go_at_call 13; (with_reducible refine (hF.out).mono ?_); rintro y w9 ⟨rfl, rfl⟩)
          | (go_at_call 13; refine (hF2.out _ hb3.out).mono ?_; rintro y w8 ⟨rfl, rfl⟩)
          | (go_at_call 17; refine (hN.out).mono ?_; rintro y w3 ⟨rfl, hb3⟩; have hbd := Lib.hid hb3.drew; replace hb3 := Lib.hid hb3)
          | (go_region_with (first
              | (go_at_call 19; refine (hC.out _ hbd.out).mono ?_; rintro y w7 ⟨v7, rfl, h7, k7⟩; replace h7 := Lib.hid h7; replace k7 := Lib.hid ((ChP.of_below hbd.out).trans k7))
              | (go_at_call 18; refine (put_yes T yn _).mono ?_; rintro y w8 ⟨rfl, rfl⟩))))
        all_goals
          go_ret
          exact hfin.out _ _ h7.out k7.out
    · have hF := Lib.hid (fine_any h2)
      rw [decide_eq_false he] at hF
      have hfin := Lib.hid (show CAlt w B T A n c l v ns g i cl inG (.returned (.int .i64 (-1))) wr from .inr ⟨-1, v2, ns2, g2, i2, cl2, ee, he, rfl, h2, k2, q6⟩)
      clear h2 k2 q6 he
      go_wp2_with (go_at_call 13; refine (hF.out).mono ?_; rintro y w9 ⟨rfl, rfl⟩)
      go_ret
      exact hfin.out
end
theorem calt_all : ∀ k, CAltOK k := by
  intro k
  induction k using Nat.strongRecOn with
  | ind k ih =>
    intro inG w B T A n c l v ns g i cl h hsm hrm hk
    exact calternatives h hsm hrm fun k' hk' => ih k' (by omega)
end Go.Proofs.Ytnfbgpjadnlgbab
