/- Contract of the parser of extended texts: alternatives. The contract of ere.Parse; ere.Parse of a text whose end is known. -/
import Derived.Test.YtnfbgpjadnlgbaaGreatM53
import Derived.Test.YtnfbgpjadnlgbaaGreatM49
import Derived.Test.YtnfbgpjadnlgbaaGreatM27
set_option linter.unusedVariables false
set_option maxRecDepth 100000
namespace Go.Proofs.YtnfbgpjadnlgbaaGreat
open Go.RowKit

theorem own_one (w1 : World) (W : Nat) (hW : W ≤ w1.heap.size) (x : Int) : (w1.alloc (.cells #[.int .i64 x] 3)).ownsRow W 3 1 (.slice (some ⟨w1.heap.size, 0, none⟩) 1 1) 1 [.int .i64 x] :=
  ⟨rfl, .inr ⟨w1.heap.size, 1, #[.int .i64 x], rfl, hW, heap_alloc_new w1 _, Nat.le_refl _, by decide, rfl, rfl⟩⟩
/-- While alternatives are read: behind a branch. -/
def RelCA (w : World) (B T : Nat) (A : Option Addr) (n c : Nat) (l : List UInt8) (v : Value) (ns : List Nod) (g i : Nat) (cl : Nat → Bool) (inG : Bool) (s5 : Value) (wr : World) : Prop :=
  (∃ v' ns' g' i' cl' bs x ns1 ps1, Psr wr B T A n c l v' ns' g' i' cl' 0 ∧ ChP w wr T v v' ∧ Pcs w.heap.size wr s5 (bs ++ [x]) ∧ (∀ p ∈ bs ++ [x], okP (ns'.length : Int) p = true) ∧ chn 2 ns1 ps1 = (x, ns') ∧ ns.length ≤ ns'.length ∧ ns'.length + 3 * bs.length + 1 ≤ ns.length + 2 * (i' - i) ∧ g ≤ g' ∧ i ≤ i' ∧
    (nx l i' = 124 ∨ (if inG then nx l i' = 41 else i' = n)) ∧ ∀ lv, lv.isEmpty = !inG → StepsE l ⟨.B, i, ns, g, cl, [], [], lv⟩ ⟨.L, i', ns1, g', cl', ps1, bs, lv⟩) ∨
  (∃ v' ns' g' i' cl' q, q ≠ 0 ∧ Psr wr B T A n c l v' ns' g' i' cl' q ∧ ChP w wr T v v' ∧ ∀ lv, lv.isEmpty = !inG → EndsE l ⟨.B, i, ns, g, cl, [], [], lv⟩ (.bad i' q))
section
variable {w w' wr w3 w5 w7 : World} {B T : Nat} {A : Option Addr} {n c : Nat} {l : List UInt8} {v v' v2 v7 : Value} {ns ns2 ns1 : List Nod} {g g2 i i2 : Nat} {cl cl2 : Nat → Bool} {inG : Bool} {s5 : Value} {ps bs : List Int} {z x : Int} {e : Ending}
/-- Behind the first branch. -/
theorem relCA_first (hy : CBran w B T A n c l v ns g i cl inG (.returned (.int .i64 z)) w5) (hT : T < w.heap.size) :
    RelCA w B T A n c l v ns g i cl inG (.slice (some ⟨w5.heap.size, 0, none⟩) 1 1) (w5.alloc (.cells #[.int .i64 z] 3)) := by
  rcases hy with ⟨x, v', ns', g', i', cl', ns1, ps1, e1, ok', h3, k3, hc, a1, a0, a2, a3, he, q6⟩ | ⟨x, v', ns', g', i', cl', q, hq, e1, h3, k3, q6⟩
  · obtain rfl : z = x := by simpa using e1
    exact .inl ⟨v', ns', g', i', cl', [], z, ns1, ps1, h3.keep (below_one w5 z), k3.trans (ChP.of_below (below_one w5 z)), ⟨own_one w5 _ k3.size z, by have := k3.size; simp; omega⟩, fun p hp => by simp at hp; subst hp; exact ok', hc, a1, by simp; omega, a2, a3, he, fun lv hlv => q6 [] lv hlv⟩
  · exact .inr ⟨v', ns', g', i', cl', q, hq, h3.keep (below_one w5 z), k3.trans (ChP.of_below (below_one w5 z)), fun lv hlv => q6 [] lv hlv⟩
/-- One branch more. -/
theorem relCA_next {w4 : World} {cl1 : Nat → Bool} {ps1 : List Int} (h2 : Psr wr B T A n c l v2 ns2 g2 i2 cl2 0) (k2 : ChP w wr T v v2) (p6 : Pcs w.heap.size wr s5 (bs ++ [x])) (q2 : ∀ p ∈ bs ++ [x], okP (ns2.length : Int) p = true) (hc : chn 2 ns1 ps1 = (x, ns2))
    (r1 : ns.length ≤ ns2.length) (r2 : ns2.length + 3 * bs.length + 1 ≤ ns.length + 2 * (i2 - i)) (r3 : g ≤ g2) (r4 : i ≤ i2) (hn : nx l i2 = 124)
    (q6 : ∀ lv, lv.isEmpty = !inG → StepsE l ⟨.B, i, ns, g, cl, [], [], lv⟩ ⟨.L, i2, ns1, g2, cl2, ps1, bs, lv⟩) (hT : T < w.heap.size)
    (h4 : Psr w4 B T A n c l v2 ns2 g2 (i2 + 1) cl2 0) (k4 : ChP wr w4 T v2 v2) (hy : CBran w4 B T A n c l v2 ns2 g2 (i2 + 1) cl2 inG (.returned (.int .i64 z)) w5)
    (ho : w7.ownsRow w.heap.size 3 1 v7 ((bs ++ [x]).length + 1) ((bs ++ [x]).map (Value.int .i64) ++ [.int .i64 z])) (hg : (w5.alloc (.cells #[.int .i64 z] 3)).grownBy w7 s5.ownBlock) :
    RelCA w B T A n c l v ns g i cl inG v7 w7 ∧ leftP n T w7 < leftP n T wr := by
  have hle := h4.le
  have hil := nx_lt (l := l) (i := i2) (by omega)
  have hstep : ∀ lv : List (Nat × List Int × List Int), stepE l ⟨.L, i2, ns1, g2, cl2, ps1, bs, lv⟩ = .go ⟨.B, i2 + 1, ns2, g2, cl2, [], bs ++ [x], lv⟩ := fun lv => by
    show stepEL l _ = _
    simp only [stepEL]
    rw [if_neg (by omega), if_pos hn]
    simp only [branE, hc]
  rcases hy with ⟨x', v', ns', g', i', cl', ns3, ps3, e1, ok', h5, k5, hc5, a1, a0, a2, a3, he, q8⟩ | ⟨x', v', ns', g', i', cl', q, hq, e1, h5, k5, q8⟩
  · obtain rfl : z = x' := by simpa using e1
    have hp6 := (((p6.chp h2 k4 hT).chp h4 k5 hT)).below (below_one w5 z)
    have h7 := (h5.keep (below_one w5 z)).grown hp6 hg hT
    refine ⟨.inl ⟨v', ns', g', i', cl', bs ++ [x], z, ns3, ps3, h7, (((k2.trans k4).trans k5).trans (ChP.of_below (below_one w5 z))).grown hg p6.lt, hp6.more ho hg.size, fun y hy => ?_, hc5, by omega, by rw [List.length_append, List.length_singleton]; omega, by omega, by omega, he, fun lv hlv => ((q6 lv hlv).snoc (hstep lv)).trans (q8 (bs ++ [x]) lv hlv)⟩, by rw [h7.left, h2.left]; omega⟩
    rcases List.mem_append.1 hy with hy | hy
    · exact okP_more (q2 y hy) (by omega)
    · simp only [List.mem_singleton] at hy; subst hy; exact ok'
  · have hp6 := (((p6.chp h2 k4 hT).chp h4 k5 hT)).below (below_one w5 z)
    have h7 := (h5.keep (below_one w5 z)).grown hp6 hg hT
    exact ⟨.inr ⟨v', ns', g', i', cl', q, hq, h7, (((k2.trans k4).trans k5).trans (ChP.of_below (below_one w5 z))).grown hg p6.lt, fun lv hlv => ((q6 lv hlv).snoc (hstep lv)).ends (q8 (bs ++ [x]) lv hlv)⟩, by rw [h7.left0 hq, h2.left]; omega⟩
/-- The builder's Alt, where there is room. -/
theorem calt_call (h : Psr w B T A n c l v ns g i cl 0) {W m k : Nat} {Ap : Option Addr} (hp : Pcs W w (.slice Ap m k) (bs ++ [x])) (hT : T < W) (hok : ∀ p ∈ bs ++ [x], okP (ns.length : Int) p = true) (hl : ns.length + bs.length ≤ 1000) {y : Int} {ns' : List Nod} (hc : chn 3 ns (bs ++ [x]) = (y, ns')) :
    Calls Tryz.prog 37 #[.pointer (some ⟨T, 0, none⟩), .slice Ap m k] w fun e w' => ∃ v', e = .returned (.int .i64 y) ∧ Psr w' B T A n c l v' ns' g i cl 0 ∧ ChP w w' T v v' := by
  obtain ⟨h1, h2, h3, h4, h5⟩ := hp.slice'
  refine (alt_any B T 0 v ns g Ap m k w.heap.size (bs ++ [x]) w h.bldr h1 h2 h3 h4 (Nat.le_refl _) (hp.apart h hT h5)).mono fun e w' ⟨v', e1, hb, hg⟩ => ?_
  rw [altR_chn (by simp) hok (by rw [List.length_append, List.length_singleton]; omega), hc] at e1 hb
  exact ⟨v', e1, h.built (Nat.le_refl _) hb hg, hg.chp⟩
theorem chn_ok (k : Int) {L : List Int} (hL : L ≠ []) (hok : ∀ p ∈ L, okP (ns.length : Int) p = true) : okP ((chn k ns L).2.length : Int) (chn k ns L).1 = true := by
  cases L with
  | nil => exact absurd rfl hL
  | cons a r => rw [chn_cons]; exact chnF_ok k r a ns (hok a (by simp))
end
section
variable {w : World} {B T : Nat} {A : Option Addr} {n c : Nat} {l : List UInt8} {v : Value} {ns : List Nod} {g i : Nat} {cl : Nat → Bool} {inG : Bool} (h : Psr w B T A n c l v ns g i cl 0)
include h
set_option maxHeartbeats 8000000 in
theorem calternatives (hsm : n ≤ 300) (hrm : ns.length ≤ 2 * i) (hB : ∀ k, k < n - i → CAltOK k) :
    Calls Tryz.prog 21 #[.pointer (some ⟨T, 0, none⟩), .bool inG] w (CAlt w B T A n c l v ns g i cl inG) := by
  obtain ⟨i0, hi0, hz0, hz1, hz2⟩ := info_parts ints_info
  replace hz1 := Lib.hid hz1
  replace hz2 := Lib.hid hz2
  have hTl := Lib.hid h.lt
  have hB' := Lib.hid hB
  have hX := Lib.hid (cbranch_any (inG := inG) h hsm hrm hB)
  clear h hB
  go_enter Tryz.func21, Tryz.ntmps21
  go_wp2_with (go_at_call 36; refine (hX.out).mono ?_; intro y w5 hy; obtain ⟨z, rfl, hy⟩ := hy.ret; replace hy := Lib.hid (relCA_first hy hTl.out))
  clear hX
  go_loopw [5] (fun a wr => RelCA w B T A n c l v ns g i cl inG a wr) (fun _ wr => leftP n T wr)
  case atStart => exact hy.out
  case round =>
    clear hy
    rcases hrel with ⟨v2, ns2, g2, i2, cl2, bs, x, ns1, ps1, h2, k2, p2, q1, hc, q2, q3, q4, q5, he, q6⟩ | ⟨v2, ns2, g2, i2, cl2, ee, he, h2, k2, q6⟩
    · have hF := Lib.hid (fine_any h2)
      rw [decide_eq_true rfl] at hF
      have hnl := h2.hn
      have hle := h2.le
      obtain ⟨Ap, kp, rfl, -, -, -, -⟩ := p2.slice
      have hTW := hTl.out
      by_cases hn : nx l i2 = 124
      · have hY := Lib.hid (take_yes h2 ⟨#[124]⟩ (bg_nx 124 true (decide_eq_true hn)) 1 rfl (by decide))
        have hBr := Lib.hid (fun (w4 : World) (h4 : Psr w4 B T A n c l v2 ns2 g2 (i2 + 1) cl2 0) => cbranch_any (inG := inG) h4 hsm (by omega) (fun k hk => hB'.out k (by omega)))
        have hkeep := Lib.hid (fun (w4 : World) (h4 : Psr w4 B T A n c l v2 ns2 g2 (i2 + 1) cl2 0) (k4 : ChP wr w4 T v2 v2) (y : Ending) (w5 : World) (hy : CBran w4 B T A n c l v2 ns2 g2 (i2 + 1) cl2 inG y w5) => show Pcs w.heap.size w5 (.slice Ap (bs ++ [x]).length kp) (bs ++ [x]) from by
          rcases hy with ⟨x, v', ns', g', i', cl', ns1, ps1, h1, h2', h3, h4', h5⟩ | ⟨x, v', ns', g', i', cl', q, h1, h2', h3, h4', h5⟩
          · exact ((p2.chp h2 k4 hTW).chp h4 h4' hTW)
          · exact ((p2.chp h2 k4 hTW).chp h4 h4' hTW))
        have hcon := Lib.hid (fun (w4 : World) (h4 : Psr w4 B T A n c l v2 ns2 g2 (i2 + 1) cl2 0) (k4 : ChP wr w4 T v2 v2) (z : Int) (w5 : World) (hy : CBran w4 B T A n c l v2 ns2 g2 (i2 + 1) cl2 inG (.returned (.int .i64 z)) w5) (v7 : Value) (w7 : World)
          (ho : w7.ownsRow w.heap.size 3 1 v7 ((bs ++ [x]).length + 1) ((bs ++ [x]).map (Value.int .i64) ++ [.int .i64 z])) (hg : (w5.alloc (.cells #[.int .i64 z] 3)).grownBy w7 (Value.slice Ap (bs ++ [x]).length kp).ownBlock) => relCA_next (cl1 := cl) h2 k2 p2 q1 hc q2 q3 q4 q5 hn q6 hTW h4 k4 hy ho hg)
        have hM : (bs ++ [x]).length ≤ 1000 := by rw [List.length_append, List.length_singleton]; omega
        clear h2 k2 p2 q1 q2 q3 q4 q5 q6 hc he hn
        generalize bs ++ [x] = L at *
        go_wp2_with (first
          | (go_at_call 24; refine (hF.out).mono ?_; rintro y w9 ⟨rfl, rfl⟩)
          | (go_at_call 26; refine (hY.out).mono ?_; rintro y w4 ⟨rfl, -, h4, k4⟩; replace h4 := Lib.hid h4; replace k4 := Lib.hid k4)
          | (go_at_call 36; refine (hBr.out _ h4.out).mono ?_; intro y w5 hy; obtain ⟨z, rfl, hy⟩ := hy.ret; have hq := Lib.hid (hcon.out _ h4.out k4.out _ _ hy); have hpc5 := Lib.hid (hkeep.out _ h4.out k4.out _ _ hy); replace hy := Lib.hid hy)
          | (at_builtin; refine wpList_append_at rfl _ _ 57 rfl w.heap.size 3 i0 (.int .i64 0) 1 8 Tryz.underlying57 hi0 hz0 hz1.out hz2.out rfl (by decide) (.slice Ap L.length kp) L.length (L.map (Value.int .i64)) rfl (own_below hpc5.out.own (below_one w5 z)) (some ⟨w5.heap.size, 0, none⟩) 1 1 [.int .i64 z] rfl rfl (src_int w5 z) (one_int z) (by unfold maxLen; omega) (by omega) (by have := hpc5.out.base; simp; omega) ?_; intro v7 w7 hown7 hg7 _; replace hown7 := Lib.hid hown7; replace hg7 := Lib.hid hg7))
        have hfin := Lib.hid (hq.out _ _ hown7.out hg7.out)
        go_roundw
        case rel => exact hfin.out.1
        case measure => exact hfin.out.2
      · have hN := Lib.hid (take_no h2 ⟨#[124]⟩ (bg_nx 124 false (decide_eq_false hn)))
        have hF2 := Lib.hid (fun (w3 : World) (hb : Below wr.heap.size wr w3) => fine_any (h2.keep hb))
        rw [decide_eq_true rfl] at hF2
        have hL : bs ++ [x] ≠ [] := by simp
        obtain ⟨y, ns', hch⟩ : ∃ y ns', chn 3 ns2 (bs ++ [x]) = (y, ns') := ⟨_, _, rfl⟩
        have hok := chn_ok 3 hL q1
        have hlen := chn_len 3 ns2 hL
        rw [hch] at hok hlen
        rw [List.length_append, List.length_singleton] at hlen
        simp only at hok hlen
        obtain ⟨yn, rfl⟩ : ∃ yn : Nat, y = (yn : Int) := ⟨y.toNat, by have := okP_pos hok; omega⟩
        have hC := Lib.hid (fun (w3 : World) (hb : Below wr.heap.size wr w3) => calt_call (h2.keep hb) (p2.below hb) hTW q1 (by omega) hch)
        have he2 := he.resolve_left hn
        have hfin := Lib.hid (fun (w6 : World) (v6 : Value) (h6 : Psr w6 B T A n c l v6 ns' g2 i2 cl2 0) (k6 : ChP wr w6 T v2 v6) => show CAlt w B T A n c l v ns g i cl inG (.returned (.int .i64 (yn : Int))) w6 from
          .inl ⟨(yn : Int), v6, ns', g2, i2, cl2, ns1, ps1, bs, rfl, hok, h6, k2.trans k6, by omega, by omega, q4, q5, he2, fun lv hlv => ⟨by simp only [altsE, branE, hc]; exact hch, q6 lv hlv⟩⟩)
        clear h2 k2 p2 q1 q2 q3 q4 q5 q6 hc he hn hok hlen hch he2 hL
        generalize (bs ++ [x]).length = M at *
        go_wp2_with (first
          | (go_at_call 24; (with_reducible refine (hF.out).mono ?_); rintro y w9 ⟨rfl, rfl⟩)
          | (go_at_call 24; refine (hF2.out _ hb3.out).mono ?_; rintro y w8 ⟨rfl, rfl⟩)
          | (go_at_call 26; refine (hN.out).mono ?_; rintro y w3 ⟨rfl, hb3⟩; have hbd := Lib.hid hb3.drew; replace hb3 := Lib.hid hb3)
          | (go_region_with (first
              | (go_at_call 37; refine (hC.out _ hbd.out).mono ?_; rintro y w7 ⟨v7, rfl, h7, k7⟩; replace h7 := Lib.hid h7; replace k7 := Lib.hid ((ChP.of_below hbd.out).trans k7))
              | (go_at_call 27; refine (put_yes T yn _).mono ?_; rintro y w8 ⟨rfl, rfl⟩))))
        all_goals
          go_ret
          exact hfin.out _ _ h7.out k7.out
    · have hF := Lib.hid (fine_any h2)
      rw [decide_eq_false he] at hF
      have hfin := Lib.hid (show CAlt w B T A n c l v ns g i cl inG (.returned (.int .i64 (-1))) wr from .inr ⟨-1, v2, ns2, g2, i2, cl2, ee, he, rfl, h2, k2, q6⟩)
      clear h2 k2 q6 he
      go_wp2_with (go_at_call 24; refine (hF.out).mono ?_; rintro y w9 ⟨rfl, rfl⟩)
      go_ret
      exact hfin.out
end
theorem calt_all : ∀ k, CAltOK k := by
  intro k
  induction k using Nat.strongRecOn with
  | ind k ih =>
    intro inG w B T A n c l v ns g i cl h hsm hrm hk
    exact calternatives h hsm hrm fun k' hk' => ih k' (by omega)
end Go.Proofs.YtnfbgpjadnlgbaaGreat

set_option linter.unusedVariables false
set_option maxRecDepth 100000
namespace Go.Proofs.YtnfbgpjadnlgbaaGreat
open Go.RowKit

/-- How an extended text ends. -/
def EndX (l : List UInt8) (r : Rx) : Prop := (l = [] ∧ r = .fin [emptyN] 0) ∨ (l ≠ [] ∧ EndsE l ce0 r)
theorem EndX.det {l : List UInt8} {r s : Rx} (h : EndX l r) (k : EndX l s) : r = s := by
  rcases h with ⟨h1, h2⟩ | ⟨h1, h2⟩
  · rcases k with ⟨k1, k2⟩ | ⟨k1, k2⟩
    · rw [h2, k2]
    · exact absurd h1 k1
  · rcases k with ⟨k1, k2⟩ | ⟨k1, k2⟩
    · exact absurd k1 h1
    · exact h2.det k2
/-- What Parse answers. -/
def PResE (w : World) (l : List UInt8) (e : Ending) (w' : World) : Prop :=
  (∃ v ns g, e = .returned (.tuple #[.agg #[v, .int .i64 ((g : Nat) : Int)], .int .i64 0, .int .i64 0]) ∧ EndX l (.fin ns g) ∧ rightN ns (g : Int) = true ∧ w'.ownsRow w.heap.size 39 10 v ns.length (nodsL ns) ∧ Below w.heap.size w w') ∨
  (∃ p q : Nat, q ≠ 0 ∧ e = .returned (.tuple #[.agg #[.slice none 0 0, .int .i64 0], .int .i64 (p : Int), .int .i64 (q : Int)]) ∧ EndX l (.bad p q) ∧ Below w.heap.size w w')
theorem right_empty : rightN [emptyN] (0 : Int) = true := by
  have h := Fo.node (nd := emptyN) (P := []) (R := []) (Fo.nil_ 0) rfl (fits_plain 0 (.inl rfl) _ _)
  have h2 := rightN_end (ns := [emptyN]) (g := (0 : Int)) ⟨by simp, by simp, by omega, by omega⟩ h.fit
  rw [h2, onceL_yes, onceL_yes]
  · rfl
  · intro k hk
    simp at hk
  · intro k hk
    rw [List.length_map, List.length_range] at hk
    simp at hk
set_option maxHeartbeats 8000000 in
theorem eparse_nil {A : Option Addr} {n c : Nat} {l : List UInt8} {w : World} (h : Inp w A n c l) (h0 : n = 0) :
    Calls Tryz.prog 11 #[.slice A n c] w (PResE w l) := by
  have hb1 : Below w.heap.size w (w.alloc (.cells #[.slice none 0 0, .int .i64 0] 26)) := (Below.refl _ _).alloc (Nat.le_refl _) _
  have hR := Lib.hid (held_new w 26 #[.slice none 0 0, .int .i64 0])
  have hN := Lib.hid (new_any A n c (w.alloc (.cells #[.slice none 0 0, .int .i64 0] 26)))
  have hsz : w.heap.size < (w.alloc (.cells #[.slice none 0 0, .int .i64 0] 26)).heap.size := by simp
  have hPn := Lib.hid (fun (w1 : World) (hb : Below w.heap.size w w1) => psr_new h hb 58 (by decide) (by decide))
  have hEn := Lib.hid (fun (w2 : World) (B T : Nat) (hP : Psr w2 B T A n c l (.slice none 0 0) [] 0 0 noCl 0) => ends_any hP)
  have hl0 : l = [] := List.length_eq_zero_iff.1 (by have := h.1; omega)
  have hEm := Lib.hid (fun (w2 : World) (B T : Nat) (hP : Psr w2 B T A n c l (.slice none 0 0) [] 0 0 noCl 0) => empty_any B T 0 _ [] 0 w2 hP.bldr)
  have hfin := Lib.hid (show EndX l (.fin [emptyN] 0) from .inl ⟨hl0, rfl⟩)
  rw [decide_eq_true (show 0 = n from h0.symm)] at hEn
  replace hb1 := Lib.hid hb1
  clear h hl0 h0
  unfold psrC noCl at hN hPn
  go_enter Tryz.func11, Tryz.ntmps11
  go_wp2_with (first
    | (go_at_call 13; refine (hN.out).mono ?_; rintro e w1 ⟨rfl, hb⟩; have hbw := hb1.out.trans (hb.mono hb1.out.size); have hP1 := Lib.hid (hPn.out w1 hbw); have hTR : w.heap.size < w1.heap.size := Nat.lt_of_lt_of_le hsz hb.size; have hRk := Lib.hid ((hR.out.keep hb).alloc (.cells #[.slice none 0 0, .int .i64 0, .slice A n c, .int .i64 0, .bool false, .bool false, .bool false, .bool false, .bool false, .bool false, .bool false, .bool false, .bool false, .bool false, .int .i64 0] 58)); replace hbw := Lib.hid (hbw.alloc hbw.size (.cells #[.slice none 0 0, .int .i64 0, .slice A n c, .int .i64 0, .bool false, .bool false, .bool false, .bool false, .bool false, .bool false, .bool false, .bool false, .bool false, .bool false, .int .i64 0] 58)); clear hb)
    | (go_at_call 19; refine (hEn.out _ _ _ hP1.out).mono ?_; rintro e w2 ⟨rfl, hb⟩; replace hP1 := Lib.hid (hP1.out.keep hb); replace hRk := Lib.hid (hRk.out.keep hb); replace hbw := Lib.hid (hbw.out.trans (hb.mono hbw.out.size)); clear hb)
    | (go_at_call 20; refine (hEm.out _ _ _ hP1.out).mono ?_; intro x w3 hx2; obtain ⟨v2, rfl, h2, k2⟩ := hP1.out.room (by decide) (fits_plain 0 (.inl rfl) _ _) hx2; clear hx2; have hTo := Lib.hid (told_ok h2 right_empty (by decide) 0 rfl); have hR3 := Lib.hid (hRk.out.chp k2 (by omega) (by intro e; cases e)); have hb3 := Lib.hid (hbw.out.trans (k2.below (by have := hbw.out.size; omega) (by omega) (fun k e => by cases e))); clear h2 k2)
    | (go_at_call 14; refine (hTo.out).mono ?_; intro y w4 hy; first
       | (obtain ⟨v4, rfl, ho4, hb4⟩ := hy; obtain ⟨A4, c4, rfl, -, -, -, -⟩ := own_nods ho4; replace ho4 := Lib.hid ho4; have hR4 := Lib.hid (hR3.out.keep hb4); have z := hR4.out.at_ (i := 0) rfl; have z1 := hR4.out.at_ (i := 1) rfl; have y0 := hR4.out.thawed 0; have y1 := hR4.out.thawed 1; replace hb4 := Lib.hid (hb3.out.trans (hb4.mono hb3.out.size)))
       | (obtain ⟨rfl, hb4⟩ := hy; have hR4 := Lib.hid (hR3.out.keep hb4); have z := hR4.out.at_ (i := 0) rfl; have z1 := hR4.out.at_ (i := 1) rfl; have y0 := hR4.out.thawed 0; have y1 := hR4.out.thawed 1; replace hb4 := Lib.hid (hb3.out.trans (hb4.mono hb3.out.size)))))
  have hown : (w4.setCell ⟨w.heap.size, 0, none⟩ (.slice A4 1 c4)).setCell ⟨w.heap.size, 1, none⟩ (.int .i64 0) |>.ownsRow w.heap.size 39 10 (.slice A4 1 c4) 1 (nodsL [emptyN]) :=
    own_low (own_far (hR4.out.put 0 (.slice A4 1 c4)) (by decide) (own_far hR4.out (by decide) ho4.out 0 _) 1 _) hb3.out.size
  exact bodyPost_ret (v := .tuple #[.agg #[.slice A4 1 c4, .int .i64 0], .int .i64 0, .int .i64 0]) (results_cell_three Tryz.results11 _ _ w.heap.size 26 #[.slice A4 1 c4, .int .i64 0] (0, 0) _ rfl rfl rfl ((hR4.out.put 0 _).put 1 _) Tryz.underlying26 rfl (by kernel_rfl)) rfl
    (.inl ⟨_, [emptyN], 0, rfl, hfin.out, right_empty, hown, (hb4.out.setCell (p := ⟨w.heap.size, 0, none⟩) (Nat.le_refl _) _).setCell (p := ⟨w.heap.size, 1, none⟩) (Nat.le_refl _) _⟩)

set_option maxHeartbeats 8000000 in
theorem eparse_any {A : Option Addr} {n c : Nat} {l : List UInt8} {w : World} (h : Inp w A n c l) (hsm : n ≤ 300) :
    Calls Tryz.prog 11 #[.slice A n c] w (PResE w l) := by
  by_cases h0 : n = 0
  · exact eparse_nil h h0
  have hb1 : Below w.heap.size w (w.alloc (.cells #[.slice none 0 0, .int .i64 0] 26)) := (Below.refl _ _).alloc (Nat.le_refl _) _
  have hR := Lib.hid (held_new w 26 #[.slice none 0 0, .int .i64 0])
  have hN := Lib.hid (new_any A n c (w.alloc (.cells #[.slice none 0 0, .int .i64 0] 26)))
  have hsz : w.heap.size < (w.alloc (.cells #[.slice none 0 0, .int .i64 0] 26)).heap.size := by simp
  have hPn := Lib.hid (fun (w1 : World) (hb : Below w.heap.size w w1) => psr_new h hb 58 (by decide) (by decide))
  have hEn := Lib.hid (fun (w2 : World) (B T : Nat) (hP : Psr w2 B T A n c l (.slice none 0 0) [] 0 0 noCl 0) => ends_any hP)
  have hl0 : l ≠ [] := fun e => h0 (by have := h.1; rw [e] at this; simpa using this)
  have hBr := Lib.hid (fun (w2 : World) (B T : Nat) (hP : Psr w2 B T A n c l (.slice none 0 0) [] 0 0 noCl 0) => calt_all n false w2 B T A n c l _ [] 0 0 noCl hP hsm (by simp) (by omega))
  have hn := Lib.hid h.1
  rw [decide_eq_false (show ¬ 0 = n from fun e => h0 e.symm)] at hEn
  replace hb1 := Lib.hid hb1
  replace hl0 := Lib.hid hl0
  clear h h0
  unfold psrC noCl at hN hPn
  go_enter Tryz.func11, Tryz.ntmps11
  go_wp2_with (first
    | (go_at_call 13; refine (hN.out).mono ?_; rintro e w1 ⟨rfl, hb⟩; have hbw := hb1.out.trans (hb.mono hb1.out.size); have hP1 := Lib.hid (hPn.out w1 hbw); have hTR : w.heap.size < w1.heap.size := Nat.lt_of_lt_of_le hsz hb.size; have hRk := Lib.hid ((hR.out.keep hb).alloc (.cells #[.slice none 0 0, .int .i64 0, .slice A n c, .int .i64 0, .bool false, .bool false, .bool false, .bool false, .bool false, .bool false, .bool false, .bool false, .bool false, .bool false, .int .i64 0] 58)); replace hbw := Lib.hid (hbw.alloc hbw.size (.cells #[.slice none 0 0, .int .i64 0, .slice A n c, .int .i64 0, .bool false, .bool false, .bool false, .bool false, .bool false, .bool false, .bool false, .bool false, .bool false, .bool false, .int .i64 0] 58)); clear hb)
    | (go_at_call 19; refine (hEn.out _ _ _ hP1.out).mono ?_; rintro e w2 ⟨rfl, hb⟩; replace hP1 := Lib.hid (hP1.out.keep hb); replace hRk := Lib.hid (hRk.out.keep hb); replace hbw := Lib.hid (hbw.out.trans (hb.mono hbw.out.size)); clear hb)
    | (go_at_call 21; refine (hBr.out _ _ _ hP1.out).mono ?_; intro y w3 hy; rcases hy with ⟨x, v2, ns2, g2, i2, cl2, ns1, ps1, bs1, rfl, ok2, h2, k2, q1, q2, q3, q4, q5, q6⟩ | ⟨x, v2, ns2, g2, i2, cl2, e2, he2, rfl, h2, k2, q6⟩
       all_goals first
         | (obtain ⟨hal, hst⟩ := q6 [] rfl
            have hir := (hst.inv invE0).right hal h2.len
            have hen := Lib.hid (show EndX l (.fin ns2 g2) from .inr ⟨hl0.out, hst.ends (.fin (by
              show stepEL l _ = _
              have hq5 : i2 = n := by simpa using q5
              simp only [stepEL]
              rw [if_pos (by rw [hq5, hn.out]; exact Nat.le_refl _), hal]))⟩)
            have hr := Lib.hid hir.1
            have hTo := Lib.hid (told_ok h2 hir.1 hir.2.2.1 x hir.2.1)
            have hR3 := Lib.hid (hRk.out.chp k2 (by omega) (by intro e; cases e))
            have hb3 := Lib.hid (hbw.out.trans (k2.below (by have := hbw.out.size; omega) (by omega) (fun k e => by cases e)))
            clear h2 k2 q1 q2 q3 q4 q5 q6 hst hir ok2 hal)
         | (have hTo := Lib.hid (told_bad h2 he2 x)
            have hR3 := Lib.hid (hRk.out.chp k2 (by omega) (by intro e; cases e))
            have hb3 := Lib.hid (hbw.out.trans (k2.below (by have := hbw.out.size; omega) (by omega) (fun k e => by cases e)))
            have hen := Lib.hid (show EndX l (.bad i2 e2) from .inr ⟨hl0.out, q6 [] rfl⟩)
            replace he2 := Lib.hid he2
            clear h2 k2 q6))
    | (go_at_call 14; refine (hTo.out).mono ?_; intro y w4 hy; first
       | (obtain ⟨v4, rfl, ho4, hb4⟩ := hy; obtain ⟨A4, c4, rfl, -, -, -, -⟩ := own_nods ho4; replace ho4 := Lib.hid ho4; have hR4 := Lib.hid (hR3.out.keep hb4); have z := hR4.out.at_ (i := 0) rfl; have z1 := hR4.out.at_ (i := 1) rfl; have y0 := hR4.out.thawed 0; have y1 := hR4.out.thawed 1; replace hb4 := Lib.hid (hb3.out.trans (hb4.mono hb3.out.size)))
       | (obtain ⟨rfl, hb4⟩ := hy; have hR4 := Lib.hid (hR3.out.keep hb4); have z := hR4.out.at_ (i := 0) rfl; have z1 := hR4.out.at_ (i := 1) rfl; have y0 := hR4.out.thawed 0; have y1 := hR4.out.thawed 1; replace hb4 := Lib.hid (hb3.out.trans (hb4.mono hb3.out.size)))))
  · have hown : (w4.setCell ⟨w.heap.size, 0, none⟩ (.slice A4 ns2.length c4)).setCell ⟨w.heap.size, 1, none⟩ (.int .i64 (g2 : Int)) |>.ownsRow w.heap.size 39 10 (.slice A4 ns2.length c4) ns2.length (nodsL ns2) :=
      own_low (own_far (hR4.out.put 0 (.slice A4 ns2.length c4)) (by decide) (own_far hR4.out (by decide) ho4.out 0 _) 1 _) hb3.out.size
    exact bodyPost_ret (v := .tuple #[.agg #[.slice A4 ns2.length c4, .int .i64 (g2 : Int)], .int .i64 0, .int .i64 0]) (results_cell_three Tryz.results11 _ _ w.heap.size 26 #[.slice A4 ns2.length c4, .int .i64 (g2 : Int)] (0, 0) _ rfl rfl rfl ((hR4.out.put 0 _).put 1 _) Tryz.underlying26 rfl (by kernel_rfl)) rfl
      (.inl ⟨_, ns2, g2, rfl, hen.out, hr.out, hown, (hb4.out.setCell (p := ⟨w.heap.size, 0, none⟩) (Nat.le_refl _) _).setCell (p := ⟨w.heap.size, 1, none⟩) (Nat.le_refl _) _⟩)
  · exact bodyPost_ret (v := .tuple #[.agg #[.slice none 0 0, .int .i64 0], .int .i64 (i2 : Int), .int .i64 (e2 : Int)]) (results_cell_three Tryz.results11 _ _ w.heap.size 26 #[.slice none 0 0, .int .i64 0] (0, 0) _ rfl rfl rfl ((hR4.out.put 0 _).put 1 _) Tryz.underlying26 rfl (by kernel_rfl)) rfl
      (.inr ⟨i2, e2, he2.out, rfl, hen.out, (hb4.out.setCell (p := ⟨w.heap.size, 0, none⟩) (Nat.le_refl _) _).setCell (p := ⟨w.heap.size, 1, none⟩) (Nat.le_refl _) _⟩)
def runE : Nat → List UInt8 → Ce → Rx
  | 0, _, c => .go c
  | k + 1, t, c => match stepE t c with
    | .go c' => runE k t c'
    | .bad i e => .bad i e
    | .fin ns g => .fin ns g
theorem runE_ends : ∀ (k : Nat) (t : List UInt8) (c : Ce) (r : Rx), runE k t c = r → (∀ c2, r ≠ .go c2) → EndsE t c r
  | 0, t, c, r, h, hr => absurd h.symm (hr c)
  | k + 1, t, c, r, h, hr => by
    unfold runE at h
    cases hs : stepE t c with
    | go c' =>
      rw [hs] at h
      obtain ⟨c2, h1, h2, h3⟩ := runE_ends k t c' r h hr
      exact ⟨c2, .head hs h1, h2, h3⟩
    | bad i e => rw [hs] at h; exact ⟨c, .refl c, by rw [hs]; exact h, hr⟩
    | fin ns g => rw [hs] at h; exact ⟨c, .refl c, by rw [hs]; exact h, hr⟩
theorem endX_fin {k : Nat} {t : List UInt8} {ns : List Nod} {g : Nat} (ht : t ≠ []) (h : runE k t ce0 = .fin ns g) : EndX t (.fin ns g) := .inr ⟨ht, runE_ends k t ce0 _ h fun _ => by simp⟩
theorem endX_bad {k : Nat} {t : List UInt8} {p q : Nat} (ht : t ≠ []) (h : runE k t ce0 = .bad p q) : EndX t (.bad p q) := .inr ⟨ht, runE_ends k t ce0 _ h fun _ => by simp⟩
theorem eparse_fin {A : Option Addr} {n c : Nat} {l : List UInt8} {w : World} (h : Inp w A n c l) (hsm : n ≤ 300) {ns : List Nod} {g k : Nat} (he : EndX l (.fin ns g)) (hk : ns.length = k) :
    Calls Tryz.prog 11 #[.slice A n c] w (FinR w ns g k) := by
  subst hk
  refine (eparse_any h hsm).mono fun e w' hh => ?_
  rcases hh with ⟨v, ns', g', e1, h1, h2, h3, h4⟩ | ⟨p, q, _, _, h1, _⟩
  · have := h1.det he
    injection this with e2 e3
    subst e2
    subst e3
    obtain ⟨q, cap, rfl, _, h5, h6⟩ := own_at h3 (rightN_len h2).1
    exact ⟨q, cap, e1, h3, h4, h5, h6⟩
  · cases h1.det he
theorem eparse_bad {A : Option Addr} {n c : Nat} {l : List UInt8} {w : World} (h : Inp w A n c l) (hsm : n ≤ 300) {p q : Nat} (he : EndX l (.bad p q)) :
    Calls Tryz.prog 11 #[.slice A n c] w fun e w' => e = .returned (.tuple #[.agg #[.slice none 0 0, .int .i64 0], .int .i64 (p : Int), .int .i64 (q : Int)]) ∧ Below w.heap.size w w' := by
  refine (eparse_any h hsm).mono fun e w' hh => ?_
  rcases hh with ⟨v, ns', g', e1, h1, h2, h3, h4⟩ | ⟨p', q', _, e1, h1, hb⟩
  · cases h1.det he
  · have := h1.det he
    injection this with e2 e3
    subst e2
    subst e3
    exact ⟨e1, hb⟩
end Go.Proofs.YtnfbgpjadnlgbaaGreat
