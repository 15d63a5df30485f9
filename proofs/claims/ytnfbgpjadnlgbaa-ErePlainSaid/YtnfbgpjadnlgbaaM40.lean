/- Contract of the parser of basic texts: piece, given those of branch. -/
import Derived.Test.YtnfbgpjadnlgbaaM39
import Derived.Test.YtnfbgpjadnlgbaaM38
set_option linter.unusedVariables false
set_option maxRecDepth 100000
namespace Go.Proofs.Ytnfbgpjadnlgbaa
open Go.RowKit

section
variable {t : List UInt8} {i : Nat} {ns : List Nod} {g : Nat} {cl : Nat → Bool} {ps : List Int} {lv : List (Nat × List Int)} {x : Int}
theorem step_star (hb : bg [42] (t.drop i) = true) (hl : ns.length < 1000) : step t ⟨.P x, i, ns, g, cl, ps, lv⟩ = .go ⟨.P (ns.length : Int), i + 1, ns ++ [repN x 0 (-1)], g, cl, ps, lv⟩ := by
  show stepP t _ x = _
  simp only [stepP, putS]
  rw [if_pos hb, if_pos hl]
theorem step_star_full (hb : bg [42] (t.drop i) = true) (hl : ¬ ns.length < 1000) : step t ⟨.P x, i, ns, g, cl, ps, lv⟩ = .bad (i + 1) 8 := by
  show stepP t _ x = _
  simp only [stepP, putS]
  rw [if_pos hb, if_neg hl]
theorem step_ivl (ha : bg [42] (t.drop i) = false) (hb : bg [92, 123] (t.drop i) = true) {lo hi : Int} {j : Nat} (hv : ivl t i = some (lo, hi, j)) (hl : ns.length < 1000) : step t ⟨.P x, i, ns, g, cl, ps, lv⟩ = .go ⟨.P (ns.length : Int), j, ns ++ [repN x lo hi], g, cl, ps, lv⟩ := by
  show stepP t _ x = _
  simp only [stepP, putS]
  rw [if_neg (by rw [ha]; decide), if_pos hb, hv]
  simp only
  rw [if_pos hl]
theorem step_ivl_full (ha : bg [42] (t.drop i) = false) (hb : bg [92, 123] (t.drop i) = true) {lo hi : Int} {j : Nat} (hv : ivl t i = some (lo, hi, j)) (hl : ¬ ns.length < 1000) : step t ⟨.P x, i, ns, g, cl, ps, lv⟩ = .bad j 8 := by
  show stepP t _ x = _
  simp only [stepP, putS]
  rw [if_neg (by rw [ha]; decide), if_pos hb, hv]
  simp only
  rw [if_neg hl]
theorem step_ivl_bad (ha : bg [42] (t.drop i) = false) (hb : bg [92, 123] (t.drop i) = true) (hv : ivl t i = none) : step t ⟨.P x, i, ns, g, cl, ps, lv⟩ = .bad i 13 := by
  show stepP t _ x = _
  simp only [stepP, putS]
  rw [if_neg (by rw [ha]; decide), if_pos hb, hv]
theorem step_off (ha : bg [42] (t.drop i) = false) (hb : bg [92, 123] (t.drop i) = false) : step t ⟨.P x, i, ns, g, cl, ps, lv⟩ = .go ⟨.L, i, ns, g, cl, ps ++ [x], lv⟩ := by
  show stepP t _ x = _
  simp only [stepP, putS]
  rw [if_neg (by rw [ha]; decide), if_neg (by rw [hb]; decide)]
theorem ivl_size {lo hi : Int} {j : Nat} (hv : ivl t i = some (lo, hi, j)) (hi' : i ≤ t.length) : i < j ∧ j ≤ t.length ∧ timesN lo hi = true := by
  unfold ivl at hv
  obtain ⟨⟨a, b, k⟩, h1, h2⟩ := Option.map_eq_some_iff.1 hv
  simp only [Prod.mk.injEq] at h2
  obtain ⟨rfl, rfl, rfl⟩ := h2
  have := ivB_ok h1
  rw [List.length_drop] at this
  exact ⟨by omega, by omega, this.2.1⟩
end

section
variable {w : World} {B T : Nat} {A : Option Addr} {n c : Nat} {l : List UInt8} {v : Value} {ns : List Nod} {g i : Nat} {cl : Nat → Bool} (h : Psr w B T A n c l v ns g i cl 0) {inG : Bool}
include h
/-- Behind a repetition. -/
theorem YPut.again {w0 w' : World} {v0 : Value} {ns0 : List Nod} {g0 i0 j : Nat} {cl0 : Nat → Bool} {nd : Nod} {x : Int} {e : Ending} (y : YPut w B T A n c l v ns g cl j nd e w') (h0 : ChP w0 w T v0 v) (hn : ns0.length ≤ ns.length) (hg : g0 ≤ g) (hi : i0 < i) (hj : i < j)
    (hs : ∀ ps lv, lv.isEmpty = !inG → Steps l ⟨.L, i0, ns0, g0, cl0, ps, lv⟩ ⟨.P x, i, ns, g, cl, ps, lv⟩)
    (hy : ∀ ps lv, ns.length < 1000 → step l ⟨.P x, i, ns, g, cl, ps, lv⟩ = .go ⟨.P (ns.length : Int), j, ns ++ [nd], g, cl, ps, lv⟩)
    (hz : ∀ ps lv, ¬ ns.length < 1000 → step l ⟨.P x, i, ns, g, cl, ps, lv⟩ = .bad j 8) : YNode false w0 B T A n c l v0 ns0 g0 i0 cl0 inG e w' ∧ leftP n T w' < leftP n T w := by
  have hle := h.le
  rcases y with ⟨hl, v', rfl, k, m⟩ | ⟨hl, v', rfl, k, m⟩
  · refine ⟨.inl ⟨_, v', _, _, _, _, rfl, ?_, k, h0.trans m, ?_, hg, by omega, fun ps lv hlv => (hs ps lv hlv).snoc (hy ps lv hl)⟩, ?_⟩
    · rw [List.length_append]; exact okP_last _
    · rw [List.length_append]; omega
    · rw [k.left, h.left]; omega
  · refine ⟨.inr ⟨v', _, _, _, _, _, by decide, rfl, k, h0.trans m, fun ps lv hlv => (hs ps lv hlv).ends (.bad (hz ps lv hl))⟩, ?_⟩
    rw [k.left0 (by decide), h.left]; omega

set_option maxHeartbeats 16000000 in
theorem piece_any (hi : i < n) (hc : inG = true → bg [92, 41] (l.drop i) = false) (hB : ∀ k, k < n - i → BrOK k) :
    Calls Try.prog 27 #[.pointer (some ⟨T, 0, none⟩)] w (YNode true w B T A n c l v ns g i cl inG) := by
  have hA := Lib.hid (atom_any h hi hc hB)
  have hns : n ≤ 100000 := h.txt.2.2.2.1
  clear h hi hc hB
  go_enter Try.func27, Try.ntmps27
  go_wp2_with (go_at_call 37; refine (hA.out).mono ?_; intro y w1 hy; obtain ⟨z, rfl, hy⟩ := hy.ret; replace hy := Lib.hid hy)
  go_loopw [3] (fun a wr => YNode false w B T A n c l v ns g i cl inG (.returned a) wr) (fun _ wr => leftP n T wr)
  case atStart => exact hy.out
  case round =>
    clear hA hy
    rcases hrel with ⟨x, v2, ns2, g2, i2, cl2, ea, ok2, h2, k2, q1, q2, q3, q4⟩ | ⟨v2, ns2, g2, i2, cl2, e2, he2, ea, h2, k2, q4⟩
    · obtain rfl := (Ending.returned.inj ea)
      clear ea
      have hF := Lib.hid (fine_any h2)
      rw [decide_eq_true rfl] at hF
      have hP := Lib.hid (fun w3 (hb : Below wr.heap.size wr w3) => h2.keep hb)
      have hnl := h2.hn
      have hle := h2.le
      cases hb1 : bg [42] (l.drop i2) with
      | true =>
        have hC := Lib.hid (take_yes h2 ⟨#[42]⟩ hb1 1 rfl (by decide))
        have hR := Lib.hid (fun (w4 : World) (h4 : Psr w4 B T A n c l v2 ns2 g2 (i2 + 1) cl2 0) => rep_any B T 0 v2 ns2 g2 w4 h4.bldr x 0 (-1))
        have hf := Lib.hid (fits_rep (g := (g2 : Int)) ok2 (show timesN 0 (-1) = true by decide))
        have hpo := Lib.hid (fun (w4 : World) (h4 : Psr w4 B T A n c l v2 ns2 g2 (i2 + 1) cl2 0) (y : Ending) (w5 : World) => put_of h4 hf.out (x := y) (w2 := w5))
        have hagain := Lib.hid (fun (w5 : World) (y : Ending) (z : YPut wr B T A n c l v2 ns2 g2 cl2 (i2 + 1) (repN x 0 (-1)) y w5) => YPut.again (inG := inG) h2 z k2 q1 q2 q3 (Nat.lt_succ_self i2) q4 (fun ps lv hl => step_star hb1 hl) (fun ps lv hl => step_star_full hb1 hl))
        clear h2 k2 q1 q2 q3 q4 ok2 hb1 hnl hle
        go_wp2_with (first
          | (go_at_call 21; refine (hF.out).mono ?_; rintro y w9 ⟨rfl, rfl⟩)
          | (go_at_call 23; refine (hC.out).mono ?_; rintro y w3 ⟨rfl, -, h3, k3⟩; have h3d := Lib.hid (h3.keep (Below.refl _ _).drew); have k3d := Lib.hid (k3.trans (ChP.of_below (Below.refl _ _).drew)); clear h3 k3)
          | (go_region_with (first
              | (go_at_call 38; refine (hR.out _ h3d.out).mono ?_; intro y w7 hx0; obtain ⟨z, rfl, hx⟩ := hpo.out _ h3d.out _ _ hx0; clear hx0; replace hx := Lib.hid hx)
              | (go_at_call 24; refine (hx.out).mono ?_; intro y w8 hy; obtain ⟨z, rfl, hy⟩ := hy.ret; replace hy := Lib.hid (hagain.out _ _ (hy.from k3d.out))))))
        all_goals
          refine ⟨?_, hy.out.2⟩
          (repeat apply Exists.intro)
          exact ⟨hy.out.1, rfl⟩
      | false =>
        have hC := Lib.hid (take_no h2 ⟨#[42]⟩ hb1)
        cases hb2 : bg [92, 123] (l.drop i2) with
        | true =>
          have hC2 := Lib.hid (fun w3 (hb : Below wr.heap.size wr w3) => comes_is (hP.out _ hb) ⟨#[92, 123]⟩ true hb2)
          cases hv : ivl l i2 with
          | none =>
            have hT := Lib.hid (fun w3 (hb : Below wr.heap.size wr w3) => times_no (hP.out _ hb) ⟨#[92, 123]⟩ ⟨#[92, 125]⟩ (by decide) (by decide) (by decide) x hv)
            have hst := Lib.hid (fun ps lv => step_ivl_bad (ns := ns2) (g := g2) (cl := cl2) (ps := ps) (lv := lv) (x := x) hb1 hb2 hv)
            have h2' := Lib.hid h2
            have k2' := Lib.hid k2
            have q4' := Lib.hid q4
            clear hb1 hb2 hv hnl h2 k2 q4 q1 q2 q3 ok2
            go_wp2_with (first
              | (go_at_call 21; refine (hF.out).mono ?_; rintro y w9 ⟨rfl, rfl⟩)
              | (go_at_call 23; refine (hC.out).mono ?_; rintro y w3 ⟨rfl, hb3⟩; replace hb3 := Lib.hid hb3)
              | (go_at_call 26; refine (hC2.out _ hb3.out).mono ?_; rintro y w4 ⟨rfl, hb4⟩; replace hb4 := Lib.hid (hb3.out.trans (hb4.mono hb3.out.size)))
              | (go_at_call 39; refine (hT.out _ hb4.out).mono ?_; intro y w5 hy; obtain ⟨v5, ns5, g5, cl5, rfl, h5, k5⟩ := hy; replace h5 := Lib.hid h5; replace k5 := Lib.hid ((ChP.of_below hb4.out).trans k5)))
            have hfin := Lib.hid (show YNode false w B T A n c l v ns g i cl inG (.returned (.int .i64 (-1))) w5 ∧ leftP n T w5 < leftP n T wr from
              ⟨.inr ⟨v5, ns5, g5, i2, cl5, 13, by decide, rfl, h5.out, k2'.out.trans k5.out, fun ps lv hlv => (q4'.out ps lv hlv).ends (.bad (hst.out ps lv))⟩, by rw [h5.out.left0 (by decide), h2'.out.left]; omega⟩)
            go_roundw
            case rel => exact hfin.out.1
            case measure => exact hfin.out.2
          | some p =>
            obtain ⟨lo, hi', j⟩ := p
            have hsz := ivl_size hv (by omega)
            have hT := Lib.hid (fun w3 (hb : Below wr.heap.size wr w3) => times_yes (hP.out _ hb) ⟨#[92, 123]⟩ ⟨#[92, 125]⟩ (by decide) (by decide) (by decide) x ok2 hv)
            have hagain := Lib.hid (fun (w5 : World) (y : Ending) (z : YPut wr B T A n c l v2 ns2 g2 cl2 j (repN x lo hi') y w5) => YPut.again (inG := inG) h2 z k2 q1 q2 q3 hsz.1 q4 (fun ps lv hl => step_ivl hb1 hb2 hv hl) (fun ps lv hl => step_ivl_full hb1 hb2 hv hl))
            clear hb1 hb2 hv hnl hsz h2 k2 q1 q2 q3 q4 ok2
            go_wp2_with (first
              | (go_at_call 21; refine (hF.out).mono ?_; rintro y w9 ⟨rfl, rfl⟩)
              | (go_at_call 23; refine (hC.out).mono ?_; rintro y w3 ⟨rfl, hb3⟩; replace hb3 := Lib.hid hb3)
              | (go_at_call 26; refine (hC2.out _ hb3.out).mono ?_; rintro y w4 ⟨rfl, hb4⟩; replace hb4 := Lib.hid (hb3.out.trans (hb4.mono hb3.out.size)))
              | (go_at_call 39; refine (hT.out _ hb4.out).mono ?_; intro y w5 hy; obtain ⟨z, rfl, hy⟩ := hy.ret; replace hy := Lib.hid (hagain.out _ _ (hy.from (ChP.of_below hb4.out)))))
            go_roundw
            case rel => exact hy.out.1
            case measure => exact hy.out.2
        | false =>
          have hC2 := Lib.hid (fun w3 (hb : Below wr.heap.size wr w3) => comes_is (hP.out _ hb) ⟨#[92, 123]⟩ false hb2)
          have hst := Lib.hid (fun ps lv => step_off (ns := ns2) (g := g2) (cl := cl2) (ps := ps) (lv := lv) (x := x) hb1 hb2)
          have k2' := Lib.hid k2
          have q1' := Lib.hid q1
          have q2' := Lib.hid q2
          have q3' := Lib.hid q3
          have q4' := Lib.hid q4
          have ok2' := Lib.hid ok2
          clear hb1 hb2 hnl h2 k2 q1 q2 q3 q4 ok2
          go_wp2_with (first
            | (go_at_call 21; refine (hF.out).mono ?_; rintro y w9 ⟨rfl, rfl⟩)
            | (go_at_call 23; refine (hC.out).mono ?_; rintro y w3 ⟨rfl, hb3⟩; replace hb3 := Lib.hid hb3)
            | (go_at_call 26; refine (hC2.out _ hb3.out).mono ?_; rintro y w4 ⟨rfl, hb4⟩; replace hb4 := Lib.hid (hb3.out.trans (hb4.mono hb3.out.size))))
          go_ret
          exact .inl ⟨x, v2, ns2, g2, i2, cl2, rfl, ok2'.out, hP.out _ hb4.out, k2'.out.trans (ChP.of_below hb4.out), q1'.out, q2'.out, q3'.out, fun ps lv hlv => (q4'.out ps lv hlv).snoc (hst.out ps lv)⟩
    · obtain rfl := (Ending.returned.inj ea)
      clear ea
      have hF := Lib.hid (fine_any h2)
      rw [decide_eq_false he2] at hF
      have hfin := Lib.hid (show YNode true w B T A n c l v ns g i cl inG (.returned (.int .i64 (-1))) wr from .inr ⟨v2, ns2, g2, i2, cl2, e2, he2, rfl, h2, k2, q4⟩)
      clear h2 k2 q4 he2
      go_wp2_with (go_at_call 21; refine (hF.out).mono ?_; rintro y w9 ⟨rfl, rfl⟩)
      go_ret
      exact hfin.out
end
end Go.Proofs.Ytnfbgpjadnlgbaa
