/- Contracts of the parser of extended texts: repeated, piece, given those of alternatives. -/
import Derived.Test.YtnfbgpjadnlgbabM46
set_option linter.unusedVariables false
set_option maxRecDepth 100000
namespace Go.Proofs.Ytnfbgpjadnlgbab
open Go.RowKit

theorem ivE_size {t : List UInt8} {i : Nat} (h : i + 1 ≤ t.length) {lo hi : Int} {j : Nat} (hv : ivE t i = some (lo, hi, j)) : i < j := by
  unfold ivE at hv
  cases hr : rivI t (i + 1) with
  | none => rw [hr] at hv; cases hv
  | some p =>
    obtain ⟨a, b, k⟩ := p
    rw [hr] at hv
    simp only at hv
    split at hv
    · have := riv_in h hr
      simp only [Option.some.injEq, Prod.mk.injEq] at hv
      omega
    · cases hv
section
variable {w : World} {B T : Nat} {A : Option Addr} {n c : Nat} {l : List UInt8} {v : Value} {ns : List Nod} {g i : Nat} {cl : Nat → Bool} {inG : Bool}
set_option maxHeartbeats 16000000 in
theorem crepeated {w1 : World} {z0 : Int} (hy : CNode false w B T A n c l v ns g i cl inG (.returned (.int .i64 z0)) w1) (hsm : n ≤ 300) (hrm : ns.length ≤ 2 * i) :
    Calls Try.prog 36 #[.pointer (some ⟨T, 0, none⟩), .int .i64 z0] w1 (CNode true w B T A n c l v ns g i cl inG) := by
  replace hy := Lib.hid hy
  go_enter Try.func36, Try.ntmps36
  go_wp2
  go_loopw [1] (fun a wr => CNode false w B T A n c l v ns g i cl inG (.returned a) wr) (fun _ wr => leftP n T wr)
  case atStart => exact hy.out
  case round =>
    clear hy
    rcases hrel with ⟨x, v2, ns2, g2, i2, cl2, ea, ok2, h2, k2, q1, q0, q2, q3, q4⟩ | ⟨x, v2, ns2, g2, i2, cl2, e2, he2, ea, h2, k2, q4⟩
    · obtain rfl := (Ending.returned.inj ea)
      clear ea
      have hF := Lib.hid (fine_any h2)
      rw [decide_eq_true rfl] at hF
      have hP := Lib.hid (fun w3 (hb : Below wr.heap.size wr w3) => h2.keep hb)
      have hb0 := Lib.hid (Below.refl wr.heap.size wr)
      have hnl := h2.hn
      have hle := h2.le
      have hl : ns2.length < 1000 := by omega
      by_cases hx : nx l i2 = 42
      · have hY := Lib.hid (fun w3 (hb : Below wr.heap.size wr w3) => take_yes (hP.out _ hb) ⟨#[42]⟩ (bg_nx 42 true (decide_eq_true (by rw [hx]; rfl))) 1 rfl (by decide))
        have hR := Lib.hid (fun (w4 : World) (h4 : Psr w4 B T A n c l v2 ns2 g2 (i2 + 1) cl2 0) => rep_any B T 0 v2 ns2 g2 w4 h4.bldr x 0 (-1))
        have hf := Lib.hid (fits_rep (g := (g2 : Int)) ok2 (show timesN 0 (-1) = true by decide))
        have hpo := Lib.hid (fun (w4 : World) (h4 : Psr w4 B T A n c l v2 ns2 g2 (i2 + 1) cl2 0) (y : Ending) (w5 : World) => put_of h4 hf.out (x := y) (w2 := w5))
        have hdone := Lib.hid (fun (w5 : World) (z : Int) (y : YPut wr B T A n c l v2 ns2 g2 cl2 (i2 + 1) (repN x 0 (-1)) (.returned (.int .i64 z)) w5) => crep_next (inG := inG) h2 (fun _ => trivial) k2 q1 q0 q2 q3 hl q4 (Nat.lt_succ_self i2) (fun ps bs lv => stepE_star hx) y)
        clear h2 k2 q1 q0 q2 q3 q4 ok2 hx hnl hle hl
        go_wp2_with (first
          | (go_at_call 13; refine (hF.out).mono ?_; rintro y w9 ⟨rfl, rfl⟩)
          | (go_at_call 17; with_reducible show Calls _ _ #[_, Value.string {data := #[42]}] _ _; refine (hY.out _ hb0.out).mono ?_; rintro y w3 ⟨rfl, -, h3, k3⟩; have h3d := Lib.hid (h3.keep (Below.refl _ _).drew); have k3d := Lib.hid (((ChP.of_below hb0.out).trans k3).trans (ChP.of_below (Below.refl _ _).drew)); clear h3 k3)
          | (go_region_with (first
              | (go_at_call 42; refine (hR.out _ h3d.out).mono ?_; intro y w7 hx0; obtain ⟨z, rfl, hx⟩ := hpo.out _ h3d.out _ _ hx0; clear hx0; replace hx := Lib.hid hx)
              | (go_at_call 18; refine (hx.out).mono ?_; intro y w8 hy; obtain ⟨z, rfl, hy⟩ := hy.ret; replace hy := Lib.hid (hdone.out _ _ (hy.from k3d.out))))))
        all_goals
          refine ⟨?_, hy.out.2⟩
          (repeat apply Exists.intro)
          exact ⟨hy.out.1, rfl⟩
      by_cases hx1 : nx l i2 = 43
      · have hN42 := Lib.hid (fun w3 (hb : Below wr.heap.size wr w3) => take_no (hP.out _ hb) ⟨#[42]⟩ (bg_nx 42 false (decide_eq_false (by rw [hx1]; decide))))
        have hY := Lib.hid (fun w3 (hb : Below wr.heap.size wr w3) => take_yes (hP.out _ hb) ⟨#[43]⟩ (bg_nx 43 true (decide_eq_true (by rw [hx1]; rfl))) 1 rfl (by decide))
        have hR := Lib.hid (fun (w4 : World) (h4 : Psr w4 B T A n c l v2 ns2 g2 (i2 + 1) cl2 0) => rep_any B T 0 v2 ns2 g2 w4 h4.bldr x 1 (-1))
        have hf := Lib.hid (fits_rep (g := (g2 : Int)) ok2 (show timesN 1 (-1) = true by decide))
        have hpo := Lib.hid (fun (w4 : World) (h4 : Psr w4 B T A n c l v2 ns2 g2 (i2 + 1) cl2 0) (y : Ending) (w5 : World) => put_of h4 hf.out (x := y) (w2 := w5))
        have hdone := Lib.hid (fun (w5 : World) (z : Int) (y : YPut wr B T A n c l v2 ns2 g2 cl2 (i2 + 1) (repN x 1 (-1)) (.returned (.int .i64 z)) w5) => crep_next (inG := inG) h2 (fun _ => trivial) k2 q1 q0 q2 q3 hl q4 (Nat.lt_succ_self i2) (fun ps bs lv => stepE_plus hx1) y)
        clear h2 k2 q1 q0 q2 q3 q4 ok2 hx hx1 hnl hle hl
        go_wp2_with (first
          | (go_at_call 13; refine (hF.out).mono ?_; rintro y w9 ⟨rfl, rfl⟩)
          | (go_at_call 17; with_reducible show Calls _ _ #[_, Value.string {data := #[42]}] _ _; refine (hN42.out _ hb0.out).mono ?_; rintro y wn1 ⟨rfl, hb⟩; have hb1 := Lib.hid (hb0.out.trans (hb.mono hb0.out.size)); clear hb)
          | (go_at_call 17; with_reducible show Calls _ _ #[_, Value.string {data := #[43]}] _ _; refine (hY.out _ hb1.out).mono ?_; rintro y w3 ⟨rfl, -, h3, k3⟩; have h3d := Lib.hid (h3.keep (Below.refl _ _).drew); have k3d := Lib.hid (((ChP.of_below hb1.out).trans k3).trans (ChP.of_below (Below.refl _ _).drew)); clear h3 k3)
          | (go_region_with (first
              | (go_at_call 42; refine (hR.out _ h3d.out).mono ?_; intro y w7 hx0; obtain ⟨z, rfl, hx⟩ := hpo.out _ h3d.out _ _ hx0; clear hx0; replace hx := Lib.hid hx)
              | (go_at_call 18; refine (hx.out).mono ?_; intro y w8 hy; obtain ⟨z, rfl, hy⟩ := hy.ret; replace hy := Lib.hid (hdone.out _ _ (hy.from k3d.out))))))
        all_goals
          refine ⟨?_, hy.out.2⟩
          (repeat apply Exists.intro)
          exact ⟨hy.out.1, rfl⟩
      by_cases hx2 : nx l i2 = 63
      · have hN42 := Lib.hid (fun w3 (hb : Below wr.heap.size wr w3) => take_no (hP.out _ hb) ⟨#[42]⟩ (bg_nx 42 false (decide_eq_false (by rw [hx2]; decide))))
        have hN43 := Lib.hid (fun w3 (hb : Below wr.heap.size wr w3) => take_no (hP.out _ hb) ⟨#[43]⟩ (bg_nx 43 false (decide_eq_false (by rw [hx2]; decide))))
        have hY := Lib.hid (fun w3 (hb : Below wr.heap.size wr w3) => take_yes (hP.out _ hb) ⟨#[63]⟩ (bg_nx 63 true (decide_eq_true (by rw [hx2]; rfl))) 1 rfl (by decide))
        have hR := Lib.hid (fun (w4 : World) (h4 : Psr w4 B T A n c l v2 ns2 g2 (i2 + 1) cl2 0) => rep_any B T 0 v2 ns2 g2 w4 h4.bldr x 0 1)
        have hf := Lib.hid (fits_rep (g := (g2 : Int)) ok2 (show timesN 0 1 = true by decide))
        have hpo := Lib.hid (fun (w4 : World) (h4 : Psr w4 B T A n c l v2 ns2 g2 (i2 + 1) cl2 0) (y : Ending) (w5 : World) => put_of h4 hf.out (x := y) (w2 := w5))
        have hdone := Lib.hid (fun (w5 : World) (z : Int) (y : YPut wr B T A n c l v2 ns2 g2 cl2 (i2 + 1) (repN x 0 1) (.returned (.int .i64 z)) w5) => crep_next (inG := inG) h2 (fun _ => trivial) k2 q1 q0 q2 q3 hl q4 (Nat.lt_succ_self i2) (fun ps bs lv => stepE_qm hx2) y)
        clear h2 k2 q1 q0 q2 q3 q4 ok2 hx hx1 hx2 hnl hle hl
        go_wp2_with (first
          | (go_at_call 13; refine (hF.out).mono ?_; rintro y w9 ⟨rfl, rfl⟩)
          | (go_at_call 17; with_reducible show Calls _ _ #[_, Value.string {data := #[42]}] _ _; refine (hN42.out _ hb0.out).mono ?_; rintro y wn1 ⟨rfl, hb⟩; have hb1 := Lib.hid (hb0.out.trans (hb.mono hb0.out.size)); clear hb)
          | (go_at_call 17; with_reducible show Calls _ _ #[_, Value.string {data := #[43]}] _ _; refine (hN43.out _ hb1.out).mono ?_; rintro y wn2 ⟨rfl, hb⟩; have hb2 := Lib.hid (hb1.out.trans (hb.mono hb1.out.size)); clear hb)
          | (go_at_call 17; with_reducible show Calls _ _ #[_, Value.string {data := #[63]}] _ _; refine (hY.out _ hb2.out).mono ?_; rintro y w3 ⟨rfl, -, h3, k3⟩; have h3d := Lib.hid (h3.keep (Below.refl _ _).drew); have k3d := Lib.hid (((ChP.of_below hb2.out).trans k3).trans (ChP.of_below (Below.refl _ _).drew)); clear h3 k3)
          | (go_region_with (first
              | (go_at_call 42; refine (hR.out _ h3d.out).mono ?_; intro y w7 hx0; obtain ⟨z, rfl, hx⟩ := hpo.out _ h3d.out _ _ hx0; clear hx0; replace hx := Lib.hid hx)
              | (go_at_call 18; refine (hx.out).mono ?_; intro y w8 hy; obtain ⟨z, rfl, hy⟩ := hy.ret; replace hy := Lib.hid (hdone.out _ _ (hy.from k3d.out))))))
        all_goals
          refine ⟨?_, hy.out.2⟩
          (repeat apply Exists.intro)
          exact ⟨hy.out.1, rfl⟩
      have hN42 := Lib.hid (fun w3 (hb : Below wr.heap.size wr w3) => take_no (hP.out _ hb) ⟨#[42]⟩ (bg_nx 42 false (decide_eq_false hx)))
      have hN43 := Lib.hid (fun w3 (hb : Below wr.heap.size wr w3) => take_no (hP.out _ hb) ⟨#[43]⟩ (bg_nx 43 false (decide_eq_false hx1)))
      have hN63 := Lib.hid (fun w3 (hb : Below wr.heap.size wr w3) => take_no (hP.out _ hb) ⟨#[63]⟩ (bg_nx 63 false (decide_eq_false hx2)))
      by_cases hx3 : nx l i2 = 123
      · have hil := nx_lt (l := l) (i := i2) (by omega)
        have hC := Lib.hid (fun w3 (hb : Below wr.heap.size wr w3) => comes_is (hP.out _ hb) ⟨#[123]⟩ true (bg_nx 123 true (decide_eq_true (by rw [hx3]; rfl))))
        cases hv : ivE l i2 with
        | none =>
          have hT := Lib.hid (fun w3 (hb : Below wr.heap.size wr w3) => times_no (hP.out _ hb) ⟨#[123]⟩ ⟨#[125]⟩ (by decide) (by decide) (by decide) x ((ivE_ivl hil).trans hv))
          have hst := Lib.hid (fun ps bs lv => stepE_ivl_bad (ns := ns2) (g := g2) (cl := cl2) (ps := ps) (bs := bs) (lv := lv) (x := x) hx3 hv)
          have h2' := Lib.hid h2
          have k2' := Lib.hid k2
          have q4' := Lib.hid q4
          clear hv hnl h2 k2 q4 q1 q0 q2 q3 ok2 hx hx1 hx2 hx3 hil hl
          go_wp2_with (first
            | (go_at_call 13; refine (hF.out).mono ?_; rintro y w9 ⟨rfl, rfl⟩)
            | (go_at_call 17; with_reducible show Calls _ _ #[_, Value.string {data := #[42]}] _ _; refine (hN42.out _ hb0.out).mono ?_; rintro y wn1 ⟨rfl, hb⟩; have hb1 := Lib.hid (hb0.out.trans (hb.mono hb0.out.size)); clear hb)
            | (go_at_call 17; with_reducible show Calls _ _ #[_, Value.string {data := #[43]}] _ _; refine (hN43.out _ hb1.out).mono ?_; rintro y wn2 ⟨rfl, hb⟩; have hb2 := Lib.hid (hb1.out.trans (hb.mono hb1.out.size)); clear hb)
            | (go_at_call 17; with_reducible show Calls _ _ #[_, Value.string {data := #[63]}] _ _; refine (hN63.out _ hb2.out).mono ?_; rintro y wn3 ⟨rfl, hb⟩; have hb3 := Lib.hid (hb2.out.trans (hb.mono hb2.out.size)); clear hb)
            | (go_at_call 28; refine (hC.out _ hb3.out).mono ?_; rintro y w4 ⟨rfl, hb4⟩; replace hb4 := Lib.hid (hb3.out.trans (hb4.mono hb3.out.size)))
            | (go_at_call 43; refine (hT.out _ hb4.out).mono ?_; intro y w5 hy; obtain ⟨v5, ns5, g5, cl5, rfl, h5, k5⟩ := hy; replace h5 := Lib.hid h5; replace k5 := Lib.hid ((ChP.of_below hb4.out).trans k5)))
          have hfin := Lib.hid (show CNode false w B T A n c l v ns g i cl inG (.returned (.int .i64 (-1))) w5 ∧ leftP n T w5 < leftP n T wr from
            ⟨.inr ⟨-1, v5, ns5, g5, i2, cl5, 13, by decide, rfl, h5.out, k2'.out.trans k5.out, fun ct ps bs lv hct hlv => (q4'.out ct ps bs lv hct hlv).ends (.bad (hst.out _ bs lv))⟩, by rw [h5.out.left0 (by decide), h2'.out.left]; omega⟩)
          go_roundw
          case rel => exact hfin.out.1
          case measure => exact hfin.out.2
        | some p =>
          obtain ⟨lo, hi', j⟩ := p
          have hsz := ivE_size hil hv
          have hT := Lib.hid (fun w3 (hb : Below wr.heap.size wr w3) => times_yes (hP.out _ hb) ⟨#[123]⟩ ⟨#[125]⟩ (by decide) (by decide) (by decide) x ok2 ((ivE_ivl hil).trans hv))
          have hdone := Lib.hid (fun (w5 : World) (z : Int) (y : YPut wr B T A n c l v2 ns2 g2 cl2 j (repN x lo hi') (.returned (.int .i64 z)) w5) => crep_next (inG := inG) h2 (fun _ => trivial) k2 q1 q0 q2 q3 hl q4 hsz (fun ps bs lv => stepE_ivl hx3 hv) y)
          clear hv hnl h2 k2 q4 q1 q0 q2 q3 ok2 hx hx1 hx2 hx3 hil hl hsz
          go_wp2_with (first
            | (go_at_call 13; refine (hF.out).mono ?_; rintro y w9 ⟨rfl, rfl⟩)
            | (go_at_call 17; with_reducible show Calls _ _ #[_, Value.string {data := #[42]}] _ _; refine (hN42.out _ hb0.out).mono ?_; rintro y wn1 ⟨rfl, hb⟩; have hb1 := Lib.hid (hb0.out.trans (hb.mono hb0.out.size)); clear hb)
            | (go_at_call 17; with_reducible show Calls _ _ #[_, Value.string {data := #[43]}] _ _; refine (hN43.out _ hb1.out).mono ?_; rintro y wn2 ⟨rfl, hb⟩; have hb2 := Lib.hid (hb1.out.trans (hb.mono hb1.out.size)); clear hb)
            | (go_at_call 17; with_reducible show Calls _ _ #[_, Value.string {data := #[63]}] _ _; refine (hN63.out _ hb2.out).mono ?_; rintro y wn3 ⟨rfl, hb⟩; have hb3 := Lib.hid (hb2.out.trans (hb.mono hb2.out.size)); clear hb)
            | (go_at_call 28; refine (hC.out _ hb3.out).mono ?_; rintro y w4 ⟨rfl, hb4⟩; replace hb4 := Lib.hid (hb3.out.trans (hb4.mono hb3.out.size)))
            | (go_at_call 43; refine (hT.out _ hb4.out).mono ?_; intro y w5 hy; obtain ⟨z, rfl, hy⟩ := hy.ret; replace hy := Lib.hid (hdone.out _ _ (hy.from (ChP.of_below hb4.out)))))
          go_roundw
          case rel => exact hy.out.1
          case measure => exact hy.out.2
      · have hC := Lib.hid (fun w3 (hb : Below wr.heap.size wr w3) => comes_is (hP.out _ hb) ⟨#[123]⟩ false (bg_nx 123 false (decide_eq_false hx3)))
        have hfin := Lib.hid (fun (w4 : World) (hb : Below wr.heap.size wr w4) => show CNode true w B T A n c l v ns g i cl inG (.returned (.int .i64 x)) w4 from
          .inl ⟨x, v2, ns2, g2, i2, cl2, rfl, ok2, hP.out _ hb, k2.trans (ChP.of_below hb), q1, q0, q2, q3, fun ct ps bs lv hct hlv => (q4 ct ps bs lv hct hlv).snoc (stepE_off hx hx1 hx2 hx3)⟩)
        clear hnl h2 k2 q4 q1 q0 q2 q3 ok2 hx hx1 hx2 hx3 hl
        go_wp2_with (first
          | (go_at_call 13; refine (hF.out).mono ?_; rintro y w9 ⟨rfl, rfl⟩)
          | (go_at_call 17; with_reducible show Calls _ _ #[_, Value.string {data := #[42]}] _ _; refine (hN42.out _ hb0.out).mono ?_; rintro y wn1 ⟨rfl, hb⟩; have hb1 := Lib.hid (hb0.out.trans (hb.mono hb0.out.size)); clear hb)
            | (go_at_call 17; with_reducible show Calls _ _ #[_, Value.string {data := #[43]}] _ _; refine (hN43.out _ hb1.out).mono ?_; rintro y wn2 ⟨rfl, hb⟩; have hb2 := Lib.hid (hb1.out.trans (hb.mono hb1.out.size)); clear hb)
            | (go_at_call 17; with_reducible show Calls _ _ #[_, Value.string {data := #[63]}] _ _; refine (hN63.out _ hb2.out).mono ?_; rintro y wn3 ⟨rfl, hb⟩; have hb3 := Lib.hid (hb2.out.trans (hb.mono hb2.out.size)); clear hb)
          | (go_at_call 28; refine (hC.out _ hb3.out).mono ?_; rintro y w4 ⟨rfl, hb4⟩; replace hb4 := Lib.hid (hb3.out.trans (hb4.mono hb3.out.size))))
        go_ret
        exact hfin.out _ hb4.out
    · obtain rfl := (Ending.returned.inj ea)
      clear ea
      have hF := Lib.hid (fine_any h2)
      rw [decide_eq_false he2] at hF
      have hfin := Lib.hid (show CNode true w B T A n c l v ns g i cl inG (.returned (.int .i64 (-1))) wr from .inr ⟨-1, v2, ns2, g2, i2, cl2, e2, he2, rfl, h2, k2, q4⟩)
      clear h2 k2 q4 he2
      go_wp2_with (go_at_call 13; refine (hF.out).mono ?_; rintro y w9 ⟨rfl, rfl⟩)
      go_ret
      exact hfin.out
variable (h : Psr w B T A n c l v ns g i cl 0)
include h
set_option maxHeartbeats 8000000 in
theorem cpiece_bol (hx : nx l i = 94) (hp : PieAt l i inG) (hl : ns.length < 1000) :
    Calls Try.prog 26 #[.pointer (some ⟨T, 0, none⟩)] w (CNode true w B T A n c l v ns g i cl inG) := by
  have hb0 := Lib.hid (Below.refl w.heap.size w)
  have hY := Lib.hid (fun w3 (hb : Below w.heap.size w w3) => take_yes (h.keep hb) ⟨#[94]⟩ (bg_nx 94 true (decide_eq_true (by rw [hx]; rfl))) 1 rfl (by decide))
  have hR := Lib.hid (fun (w4 : World) (h4 : Psr w4 B T A n c l v ns g (i + 1) cl 0) => bol_any B T 0 v ns g w4 h4.bldr)
  have hpo := Lib.hid (fun (w4 : World) (h4 : Psr w4 B T A n c l v ns g (i + 1) cl 0) (y : Ending) (w5 : World) => put_of h4 (fits_plain 7 (.inr (.inl rfl)) _ _) (x := y) (w2 := w5))
  have hdone := Lib.hid (fun (w5 : World) (z : Int) (y : YPut w B T A n c l v ns g cl (i + 1) bolN (.returned (.int .i64 z)) w5) => YPut.canc (inG := inG) y hl hp (by obtain ⟨r, hr⟩ := pie_of (k := 94) hx; exact pie_bol hr))
  clear h hx hp hl
  go_enter Try.func26, Try.ntmps26
  go_wp2_with (first
    | (go_at_call 17; with_reducible show Calls _ _ #[_, Value.string {data := #[94]}] _ _; refine (hY.out _ hb0.out).mono ?_; rintro y w3 ⟨rfl, -, h3, k3⟩; have h3d := Lib.hid (h3.keep (Below.refl _ _).drew); have k3d := Lib.hid (((ChP.of_below hb0.out).trans k3).trans (ChP.of_below (Below.refl _ _).drew)); clear h3 k3)
    | (go_region_with (first
        | (go_at_call 34; refine (hR.out _ h3d.out).mono ?_; intro y w7 hx0; obtain ⟨z, rfl, hx⟩ := hpo.out _ h3d.out _ _ hx0; clear hx0; replace hx := Lib.hid hx)
        | (go_at_call 18; refine (hx.out).mono ?_; intro y w8 hy; obtain ⟨z, rfl, hy⟩ := hy.ret; replace hy := Lib.hid (hdone.out _ _ (hy.from k3d.out))))))
  all_goals
    go_ret
    exact hy.out
set_option maxHeartbeats 8000000 in
theorem cpiece_eol (hx : nx l i = 36) (hp : PieAt l i inG) (hl : ns.length < 1000) :
    Calls Try.prog 26 #[.pointer (some ⟨T, 0, none⟩)] w (CNode true w B T A n c l v ns g i cl inG) := by
  have hb0 := Lib.hid (Below.refl w.heap.size w)
  have hN94 := Lib.hid (fun w3 (hb : Below w.heap.size w w3) => take_no (h.keep hb) ⟨#[94]⟩ (bg_nx 94 false (decide_eq_false (by rw [hx]; decide))))
  have hY := Lib.hid (fun w3 (hb : Below w.heap.size w w3) => take_yes (h.keep hb) ⟨#[36]⟩ (bg_nx 36 true (decide_eq_true (by rw [hx]; rfl))) 1 rfl (by decide))
  have hR := Lib.hid (fun (w4 : World) (h4 : Psr w4 B T A n c l v ns g (i + 1) cl 0) => eol_any B T 0 v ns g w4 h4.bldr)
  have hpo := Lib.hid (fun (w4 : World) (h4 : Psr w4 B T A n c l v ns g (i + 1) cl 0) (y : Ending) (w5 : World) => put_of h4 (fits_plain 8 (.inr (.inr rfl)) _ _) (x := y) (w2 := w5))
  have hdone := Lib.hid (fun (w5 : World) (z : Int) (y : YPut w B T A n c l v ns g cl (i + 1) eolN (.returned (.int .i64 z)) w5) => YPut.canc (inG := inG) y hl hp (by obtain ⟨r, hr⟩ := pie_of (k := 36) hx; exact pie_eol hr))
  clear h hx hp hl
  go_enter Try.func26, Try.ntmps26
  go_wp2_with (first
    | (go_at_call 17; with_reducible show Calls _ _ #[_, Value.string {data := #[94]}] _ _; refine (hN94.out _ hb0.out).mono ?_; rintro y wn1 ⟨rfl, hb⟩; have hb1 := Lib.hid (hb0.out.trans (hb.mono hb0.out.size)); clear hb)
    | (go_at_call 17; with_reducible show Calls _ _ #[_, Value.string {data := #[36]}] _ _; refine (hY.out _ hb1.out).mono ?_; rintro y w3 ⟨rfl, -, h3, k3⟩; have h3d := Lib.hid (h3.keep (Below.refl _ _).drew); have k3d := Lib.hid (((ChP.of_below hb1.out).trans k3).trans (ChP.of_below (Below.refl _ _).drew)); clear h3 k3)
    | (go_region_with (first
        | (go_at_call 35; refine (hR.out _ h3d.out).mono ?_; intro y w7 hx0; obtain ⟨z, rfl, hx⟩ := hpo.out _ h3d.out _ _ hx0; clear hx0; replace hx := Lib.hid hx)
        | (go_at_call 18; refine (hx.out).mono ?_; intro y w8 hy; obtain ⟨z, rfl, hy⟩ := hy.ret; replace hy := Lib.hid (hdone.out _ _ (hy.from k3d.out))))))
  all_goals
    go_ret
    exact hy.out
set_option maxHeartbeats 4000000 in
theorem cpiece_any (hp : PieAt l i inG) (hsm : n ≤ 300) (hrm : ns.length ≤ 2 * i) (hB : ∀ k, k < n - i → CAltOK k) :
    Calls Try.prog 26 #[.pointer (some ⟨T, 0, none⟩)] w (CNode true w B T A n c l v ns g i cl inG) := by
  have hl : ns.length < 1000 := by have := h.le; omega
  by_cases x5 : nx l i = 94
  · exact cpiece_bol h x5 hp hl
  by_cases x6 : nx l i = 36
  · exact cpiece_eol h x6 hp hl
  have hb0 := Lib.hid (Below.refl w.heap.size w)
  have hN94 := Lib.hid (fun w3 (hb : Below w.heap.size w w3) => take_no (h.keep hb) ⟨#[94]⟩ (bg_nx 94 false (decide_eq_false x5)))
  have hN36 := Lib.hid (fun w3 (hb : Below w.heap.size w w3) => take_no (h.keep hb) ⟨#[36]⟩ (bg_nx 36 false (decide_eq_false x6)))
  have hA := Lib.hid (fun w3 (hb : Below w.heap.size w w3) => catom_any (inG := inG) (h.keep hb) hp x5 x6 hsm hrm hB)
  have hR := Lib.hid (fun (w3 : World) (z : Int) (y : CNode false w B T A n c l v ns g i cl inG (.returned (.int .i64 z)) w3) => crepeated y hsm hrm)
  clear h hp hB hl x5 x6
  go_enter Try.func26, Try.ntmps26
  go_wp2_with (first
    | (go_at_call 17; with_reducible show Calls _ _ #[_, Value.string {data := #[94]}] _ _; refine (hN94.out _ hb0.out).mono ?_; rintro y wn1 ⟨rfl, hb⟩; have hb1 := Lib.hid (hb0.out.trans (hb.mono hb0.out.size)); clear hb)
    | (go_at_call 17; with_reducible show Calls _ _ #[_, Value.string {data := #[36]}] _ _; refine (hN36.out _ hb1.out).mono ?_; rintro y wn2 ⟨rfl, hb⟩; have hb2 := Lib.hid (hb1.out.trans (hb.mono hb1.out.size)); clear hb)
    | (go_at_call 37; refine (hA.out _ hb2.out).mono ?_; intro y w5 hy; obtain ⟨z, rfl, hy⟩ := hy.ret; replace hy := Lib.hid (hy.from (ChP.of_below hb2.out)))
    | (go_at_call 36; refine (hR.out _ _ hy.out).mono ?_; intro y w6 hz; obtain ⟨z2, rfl, hz⟩ := hz.ret; replace hz := Lib.hid hz))
  go_ret
  exact hz.out
end
end Go.Proofs.Ytnfbgpjadnlgbab
