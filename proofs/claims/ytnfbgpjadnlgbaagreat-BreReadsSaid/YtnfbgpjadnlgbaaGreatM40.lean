/- Contract of the reference's piece, given those of branch. -/
import Derived.Test.YtnfbgpjadnlgbaaGreatM38
import Derived.Test.YtnfbgpjadnlgbaaGreatM39
import Derived.Deep.CutRange
import Derived.Deep.CutBlock
set_option linter.unusedVariables false
set_option maxRecDepth 100000
namespace Go.Proofs.YtnfbgpjadnlgbaaGreat
open Go.RowKit

/-- What is left, by the reader's own cells. -/
def leftR (n T : Nat) (w : World) : Nat :=
  match w.cell? ⟨T, 2, none⟩, w.cell? ⟨T, 1, none⟩ with
  | some (.int _ 0), some (.int _ i) => n + 1 - i.toNat
  | _, _ => 0
section
variable {w w' wr : World} {B T : Nat} {A : Option Addr} {n c : Nat} {l : List UInt8} {v v2 : Value} {ns ns2 : List Nod} {g g2 i i2 j : Nat} {cl cl2 : Nat → Bool} {e : Nat} {inG : Bool} {nd : Nod}
theorem Rdr.left (h : Rdr w B T A n c l v ns g i cl 0) : leftR n T w = n + 1 - i := by
  unfold leftR; rw [h.c2, h.c1]; simp
theorem Rdr.left0 (h : Rdr w B T A n c l v ns g i cl e) (he : e ≠ 0) : leftR n T w = 0 := by
  unfold leftR; rw [h.c2, h.c1]
  split
  · rename_i h1 _
    simp at h1; omega
  · rfl
/-- A repetition was put. -/
theorem rep_next {x z : Int} (h2 : Rdr wr B T A n c l v2 ns2 g2 i2 cl2 0) (k2 : ChP w wr T v v2) (q1 : ns.length ≤ ns2.length) (q2 : g ≤ g2) (q3 : i < i2)
    (q4 : ∀ ps lv, lv.isEmpty = !inG → Steps l ⟨.L, i, ns, g, cl, ps, lv⟩ ⟨toC false x, i2, ns2, g2, cl2, toP false x ps, lv⟩) (hj : i2 < j)
    (hs : ∀ (ps : List Int) (lv : List (Nat × List Int)), ns2.length < 1000 → step l ⟨.P x, i2, ns2, g2, cl2, ps, lv⟩ = .go ⟨.P (ns2.length : Int), j, ns2 ++ [nd], g2, cl2, ps, lv⟩)
    (hf : ∀ (ps : List Int) (lv : List (Nat × List Int)), ¬ ns2.length < 1000 → step l ⟨.P x, i2, ns2, g2, cl2, ps, lv⟩ = .bad j 8)
    (hy : RPut wr B T A n c l v2 ns2 g2 j cl2 nd (.returned (.int .i64 z)) w') : RNode false w B T A n c l v ns g i cl inG (.returned (.int .i64 z)) w' ∧ leftR n T w' < leftR n T wr := by
  have hle := h2.le
  rcases hy with ⟨hl, v', ez, h3, k3⟩ | ⟨hl, v', ez, h3, k3⟩
  · refine ⟨.inl ⟨_, v', _, g2, j, cl2, ez, by rw [List.length_append]; exact okP_last _, h3, k2.trans k3, by rw [List.length_append]; omega, q2, by omega, (fun e => by cases e), fun ps lv hlv => (q4 ps lv hlv).snoc (hs ps lv hl)⟩, ?_⟩
    have := h3.le
    rw [h3.left, h2.left]; omega
  · refine ⟨.inr ⟨_, v', _, g2, j, cl2, 8, by decide, ez, h3, k2.trans k3, fun ps lv hlv => (q4 ps lv hlv).ends (.bad (hf ps lv hl))⟩, ?_⟩
    rw [h3.left0 (by decide), h2.left]; omega
theorem two_bg {t : List UInt8} {k : Nat} (h1 : nx t k = 92) (h2 : nx t (k + 1) = 123) : bg [92, 123] (t.drop k) = true := by
  have a := (nx_bg t k 92).1 h1
  have b := (nx_bg t (k + 1) 123).1 h2
  cases hd : t.drop k with
  | nil => rw [hd] at a; cases a
  | cons x r =>
    have hr : t.drop (k + 1) = r := by
      have := congrArg (List.drop 1) hd
      rwa [List.drop_drop] at this
    rw [hd, bg_cons, bg_nil, Bool.and_true] at a
    rw [hr] at b
    rw [bg_cons, a, b]; rfl
end
section
variable {w : World} {B T : Nat} {A : Option Addr} {n c : Nat} {l : List UInt8} {v : Value} {ns : List Nod} {g i : Nat} {cl : Nat → Bool} (h : Rdr w B T A n c l v ns g i cl 0) {inG : Bool}
include h
set_option maxHeartbeats 4000000 in
theorem rpiece_brace (hb : bg [92, 123] (l.drop i) = true) (hc : inG = true → bg [92, 41] (l.drop i) = false) : Calls Tryz.prog 33 #[.pointer (some ⟨T, 0, none⟩), .bool true] w (RNode true w B T A n c l v ns g i cl inG) := by
  obtain ⟨r2, hr2⟩ := drop_two hb
  have hrm := bg_room hb
  simp at hrm
  have hnl := h.hn
  have hP := Lib.hid (fun w3 (hb : Below w.heap.size w w3) => h.keep hb)
  have hN0 := Lib.hid (next_at h 0 0 rfl (by decide))
  have hN1 := Lib.hid (fun w3 (hb : Below w.heap.size w w3) => next_at (h.keep hb) 1 1 rfl (by decide))
  rw [show nx l (i + 0) = 92 from by rw [nx_drop, hr2]; rfl] at hN0
  rw [show nx l (i + 1) = 123 from by rw [nx_drop, hr2]; rfl] at hN1
  have hfin := Lib.hid (fun (w' : World) (x : Ending) (y : RBad w B T A n c l v i 13 x w') => y.node (pc := true) (inG := inG) (ns := ns) (g := g) (cl := cl) (by omega) hc (fun ps lv => by rw [atom_esc hr2]; rfl) (by decide))
  clear h hr2 hrm hnl hb
  go_enter Tryz.func33, Tryz.ntmps33
  go_wp2_with (first
    | (go_at_call 32; (with_reducible show Calls _ _ _ w _); refine (hN0.out).mono ?_; rintro e w1 ⟨rfl, hb1⟩; replace hb1 := Lib.hid hb1)
    | (go_at_call 32; (with_reducible show Calls _ _ _ w1 _); refine (hN1.out _ hb1.out).mono ?_; rintro e w2 ⟨rfl, hb2⟩; replace hb2 := hb1.out.trans (hb2.mono hb1.out.size); have h2 := hP.out _ hb2; have c2 := h2.c2; have t2 := h2.thawed 2; have h3 := Lib.hid (h2.erred 13 (z := 13) rfl); have k3 := Lib.hid ((ChP.of_below (T := T) (v := v) hb2).trans (ChP.store w2 T 2 (.int .i64 13) v)); clear h2))
  go_ret
  exact hfin.out _ _ ⟨0, v, _, _, _, rfl, h3.out, k3.out⟩

set_option maxHeartbeats 16000000 in
theorem rpiece_esc {first : Bool} {r : List UInt8} (hx : l.drop i = 92 :: r) (h41 : bg [41] r = false) (h123 : bg [123] r = false) (hB : ∀ k, k < n - i → RBrOK k) :
    Calls Tryz.prog 33 #[.pointer (some ⟨T, 0, none⟩), .bool first] w (RNode true w B T A n c l v ns g i cl inG) := by
  obtain ⟨hi, hx1, hd⟩ := drop_at hx
  have hns : n ≤ 100000 := h.txt.2.2.2.1
  have hc : inG = true → bg [92, 41] (l.drop i) = false := fun _ => by rw [hx, bg_cons, h41]; rfl
  have hN0 := Lib.hid (next_at h 0 0 rfl (by decide))
  have hN1 := Lib.hid (fun w3 (hb : Below w.heap.size w w3) => next_at (h.keep hb) 1 1 rfl (by decide))
  rw [show nx l (i + 0) = 92 from by rw [nx_drop, hx]; rfl] at hN0
  have hn1 : nx l (i + 1) = nx r 0 := by rw [nx_drop, hx, nx_succ]
  rw [hn1] at hN1
  have e123 : (nx r 0 == 123) = false := by rw [beq_eq_false_iff_ne]; intro e; have := (nx_eq r 123).mp e; rw [h123] at this; cases this
  have hG := Lib.hid (fun (hg : bg [40] r = true) w3 (hb : Below w.heap.size w w3) => rgroup_any (inG := inG) (h.keep hb) (by rw [hx, bg_cons, hg]; rfl) hB)
  have hE := Lib.hid (fun (hg : bg [40] r = false) w3 (hb : Below w.heap.size w w3) => rescape_any (inG := inG) (h.keep hb) hx hc hg h41 h123)
  have e40 : (nx r 0 == 40) = bg [40] r := by
    rw [Bool.eq_iff_iff, beq_iff_eq]
    exact iff_of_eq (nx_eq r 40)
  generalize hb40 : bg [40] r = b40 at *
  generalize nx r 0 = z1 at *
  clear h hx hx1 hd hi hc h41 h123 hb40 hn1 hB
  go_enter Tryz.func33, Tryz.ntmps33
  go_upto_if 33 with (first
    | (go_at_call 32; (with_reducible show Calls _ _ _ w _); refine (hN0.out).mono ?_; rintro e w1 ⟨rfl, hb1⟩; replace hb1 := Lib.hid hb1)
    | (go_at_call 32; (with_reducible show Calls _ _ _ w1 _); refine (hN1.out _ hb1.out).mono ?_; rintro e w2 ⟨rfl, hb2⟩; replace hb2 := Lib.hid (hb1.out.trans (hb2.mono hb1.out.size)))
    | (go_at_call 32; (with_reducible show Calls _ _ _ w2 _); refine (hN1.out _ hb2.out).mono ?_; rintro e w3 ⟨rfl, hb3⟩; replace hb3 := Lib.hid (hb2.out.trans (hb3.mono hb2.out.size))))
  clear hN0 hN1
  go_cut [6, 7] from 34 to 80 (fun s6 s7 wx => RNode false w B T A n c l v ns g i cl inG (.returned s6) wx)
  case first =>
    cases b40 with
    | true =>
      replace hG := Lib.hid (hG.out rfl _ hb3.out)
      clear hE
      go_wp2_with (go_at_call 49; refine (hG.out).mono ?_; intro x w4 hy; obtain ⟨z, rfl, hy⟩ := hy.ret; replace hy := Lib.hid (hy.from (ChP.of_below hb3.out)))
      go_meet
      exact hy.out
    | false =>
      replace hE := Lib.hid (hE.out rfl _ hb3.out)
      clear hG
      go_wp2_with (go_at_call 50; refine (hE.out).mono ?_; intro x w4 hy; obtain ⟨z, rfl, hy⟩ := hy.ret; replace hy := Lib.hid (hy.from (ChP.of_below hb3.out)))
      go_meet
      exact hy.out

  case rest =>
    clear hG hE e40 e123
    replace hcut := Lib.hid hcut
    go_wp2
    go_loopw [6, 8, 9, 10, 11] (fun a _ _ _ _ wr => RNode false w B T A n c l v ns g i cl inG (.returned a) wr) (fun _ _ _ _ _ wr => leftR n T wr)
    case atStart => exact hcut.out
    case round =>
      clear hcut
      rcases hrel with ⟨x, v2, ns2, g2, i2, cl2, ea, ok2, h2, k2, q1, q2, q3, -, q4⟩ | ⟨x, v2, ns2, g2, i2, cl2, e2, he2, ea, h2, k2, q4⟩
      · obtain rfl := (Ending.returned.inj ea)
        clear ea
        have c2 := h2.c2
        have hle := h2.le
        have hi2 : (i2 : Int) ≤ 100000 := by omega
        have hnl := h2.hn
        have hP := Lib.hid (fun w3 (hb : Below wr.heap.size wr w3) => h2.keep hb)
        have hN0 := Lib.hid (fun w3 (hb : Below wr.heap.size wr w3) => next_at (h2.keep hb) 0 0 rfl (by decide))
        have hN1 := Lib.hid (fun w3 (hb : Below wr.heap.size wr w3) => next_at (h2.keep hb) 1 1 rfl (by decide))
        rw [Nat.add_zero] at hN0
        have hx0 := Lib.hid (show Below wr.heap.size wr wr from Below.refl _ _)
        cases hb1 : bg [42] (l.drop i2) with
        | true =>
          have hi3 : i2 + 1 ≤ n := by have := bg_room hb1; simp at this; omega
          rw [show nx l i2 = 42 from (nx_bg l i2 42).2 hb1] at hN0
          have hU := Lib.hid (fun w3 (h3 : Rdr w3 B T A n c l v2 ns2 g2 (i2 + 1) cl2 0) => rput_any h3 (repN x 0 (-1)) (fits_rep ok2 (by decide)))
          rw [show nodV (repN x 0 (-1)) = _ from nodV_z 4 x 0 0 (-1) 0] at hU
          have hfin := Lib.hid (fun w' z (hy : RPut wr B T A n c l v2 ns2 g2 (i2 + 1) cl2 (repN x 0 (-1)) (.returned (.int .i64 z)) w') => rep_next h2 k2 q1 q2 q3 q4 (show i2 < i2 + 1 by omega) (fun ps lv hl => step_star hb1 hl) (fun ps lv hl => step_star_full hb1 hl) hy)
          clear h2 k2 q1 q2 q3 q4 ok2 hN1 hb1 hnl
          go_wp2_with (first
            | (go_at_call 32; (with_reducible show Calls _ _ _ wr _); refine (hN0.out _ hx0.out).mono ?_; rintro y w1 ⟨rfl, hb1⟩; have h1 := hP.out _ hb1; have c1 := h1.c1; have t1 := h1.thawed 1; have h3 := Lib.hid (h1.goto hi3 (z := (i2 : Int) + 1) (by omega)); have k3 := Lib.hid ((ChP.of_below (T := T) (v := v2) hb1).trans (ChP.store w1 T 1 (.int .i64 ((i2 : Int) + 1)) v2)); clear h1 hb1)
            | (go_at_call 22; refine (hU.out _ h3.out).mono ?_; intro y w4 hy; obtain ⟨z, rfl, hy⟩ := hy.ret; replace hy := Lib.hid (hfin.out _ _ (hy.from k3.out))))
          go_roundw
          case rel => exact hy.out.1
          case measure => exact hy.out.2
        | false =>
          have hz42 : (nx l i2 == 42) = false := by rw [beq_eq_false_iff_ne]; intro e; rw [(nx_bg l i2 42).1 e] at hb1; cases hb1
          cases hb2 : bg [92, 123] (l.drop i2) with
          | false =>
            have hfin := Lib.hid (show ∀ w', Below wr.heap.size wr w' → RNode true w B T A n c l v ns g i cl inG (.returned (.int .i64 x)) w' from fun w' hb => .inl ⟨x, v2, ns2, g2, i2, cl2, rfl, ok2, h2.keep hb, k2.trans (ChP.of_below hb), q1, q2, q3, fun _ => hb2, fun ps lv hlv => (q4 ps lv hlv).snoc (step_off hb1 hb2)⟩)
            by_cases h92 : nx l i2 = 92
            · have h123 : (nx l (i2 + 1) != 123) = true := by
                rw [bne_iff_ne]; intro e
                rw [two_bg h92 e] at hb2; cases hb2
              rw [h92] at hN0
              generalize nx l (i2 + 1) = z1 at *
              clear h2 k2 q1 q2 q3 q4 ok2 hb1 hb2 hnl hz42 h92
              go_wp2_with (first
                | (go_at_call 32; (with_reducible show Calls _ _ _ wr _); refine (hN0.out _ hx0.out).mono ?_; rintro y w1 ⟨rfl, hb1⟩; replace hb1 := Lib.hid hb1)
                | (go_at_call 32; (with_reducible show Calls _ _ _ w1 _); refine (hN0.out _ hb1.out).mono ?_; rintro y w3 ⟨rfl, hb3⟩; replace hb3 := Lib.hid (hb1.out.trans (hb3.mono hb1.out.size)))
                | (go_at_call 32; (with_reducible show Calls _ _ _ w3 _); refine (hN1.out _ hb3.out).mono ?_; rintro y w4 ⟨rfl, hb4⟩; replace hb4 := Lib.hid (hb3.out.trans (hb4.mono hb3.out.size))))
              go_ret
              exact hfin.out _ hb4.out
            · have hz92 : (nx l i2 != 92) = true := by rw [bne_iff_ne]; exact h92
              generalize nx l i2 = z0 at *
              clear h2 k2 q1 q2 q3 q4 ok2 hb1 hb2 hnl h92 hN1
              go_wp2_with (first
                | (go_at_call 32; (with_reducible show Calls _ _ _ wr _); refine (hN0.out _ hx0.out).mono ?_; rintro y w1 ⟨rfl, hb1⟩; replace hb1 := Lib.hid hb1)
                | (go_at_call 32; (with_reducible show Calls _ _ _ w1 _); refine (hN0.out _ hb1.out).mono ?_; rintro y w3 ⟨rfl, hb3⟩; replace hb3 := Lib.hid (hb1.out.trans (hb3.mono hb1.out.size))))
              go_ret
              exact hfin.out _ hb3.out
          | true =>
            obtain ⟨r2, hr2⟩ := drop_two hb2
            have hrm := bg_room hb2
            simp at hrm
            rw [show nx l i2 = 92 from by have := nx_drop l i2 0; rw [Nat.add_zero] at this; rw [this, hr2]; rfl] at hN0
            rw [show nx l (i2 + 1) = 123 from by rw [nx_drop, hr2]; rfl] at hN1
            obtain ⟨p, hp⟩ : ∃ p, p = i2 + 2 := ⟨_, rfl⟩
            have hwp : IntKind.i64.wrap ((i2 : Int) + 2) = (p : Int) := by rw [IntWalk.i64_in _ (by omega)]; omega
            have hIv := Lib.hid (fun w3 (hb : Below wr.heap.size wr w3) => rinterval_any (h2.keep hb) (a := p) (by omega))
            have hiv := ivl_riv hb2
            rw [← hp] at hiv
            clear hz42 hr2
            cases hv : rivI l p with
            | none =>
              rw [hv] at hIv hiv
              unfold rivR at hIv
              have hfin := Lib.hid (show ∀ w' v', Rdr w' B T A n c l v' ns2 g2 i2 cl2 13 → ChP wr w' T v2 v' → RNode true w B T A n c l v ns g i cl inG (.returned (.int .i64 x)) w' from fun w' v' h3 k3 => .inr ⟨x, v', ns2, g2, i2, cl2, 13, by decide, rfl, h3, k2.trans k3, fun ps lv hlv => (q4 ps lv hlv).ends (.bad (step_ivl_bad hb1 hb2 hiv))⟩)
              clear h2 k2 q1 q2 q3 q4 ok2 hb1 hb2 hnl hiv hv hp
              go_wp2_with (first
                | (go_at_call 32; (with_reducible show Calls _ _ _ wr _); refine (hN0.out _ hx0.out).mono ?_; rintro y w1 ⟨rfl, hb1⟩; replace hb1 := Lib.hid hb1)
                | (go_at_call 32; (with_reducible show Calls _ _ _ w1 _); refine (hN0.out _ hb1.out).mono ?_; rintro y w3 ⟨rfl, hb3⟩; replace hb3 := Lib.hid (hb1.out.trans (hb3.mono hb1.out.size)))
                | (go_at_call 32; (with_reducible show Calls _ _ _ w3 _); refine (hN1.out _ hb3.out).mono ?_; rintro y w4 ⟨rfl, hb4⟩; replace hb4 := hb3.out.trans (hb4.mono hb3.out.size); have h4 := hP.out _ hb4; have c1 := h4.c1; have c2b := h4.c2; have t2 := h4.thawed 2; have h5 := Lib.hid (h4.erred 13 (z := 13) rfl); have k5 := Lib.hid ((ChP.of_below (T := T) (v := v2) hb4).trans (ChP.store w4 T 2 (.int .i64 13) v2)); replace hb4 := Lib.hid hb4; clear h4)
                | (go_at_call 54; refine (hIv.out _ hb4.out).mono ?_; rintro y w5 ⟨rfl, rfl⟩))
              go_ret
              exact hfin.out _ _ h5.out k5.out
            | some t3 =>
              obtain ⟨lo, hi, k⟩ := t3
              rw [hv] at hIv hiv
              unfold rivR at hIv
              have hkin := riv_in (show p ≤ l.length by omega) hv
              have hk0 : (k : Int) ≤ 100000 := by omega
              have hk00 : (0 : Int) ≤ (k : Int) := by omega
              obtain ⟨m, hm⟩ : ∃ m, m = k + 1 := ⟨_, rfl⟩
              have hwm : IntKind.i64.wrap ((k : Int) + 1) = (m : Int) := by rw [IntWalk.i64_in _ (by omega)]; omega
              have hm00 : (0 : Int) ≤ (m : Int) := by omega
              simp only at hiv
              by_cases hb3 : bg [92, 125] (l.drop k) = true
              · rw [if_pos hb3] at hiv
                obtain ⟨r3, hr3⟩ := drop_two hb3
                have hrm3 := bg_room hb3
                simp at hrm3
                have hi3 : k + 2 ≤ n := by omega
                obtain ⟨hk1, hx1, hd1⟩ := drop_at hr3
                obtain ⟨hk2, hx2, -⟩ := drop_at hd1
                rw [← hm] at hx2
                obtain ⟨ad, hA, hcell1⟩ := h2.byte hx1
                obtain ⟨ad2, hA2, hcell2⟩ := h2.byte hx2
                subst hA
                cases hA2
                have hmn : ¬ (n : Int) ≤ (m : Int) := by omega
                have hmn2 : ¬ n ≤ m := by omega
                have hmn1 : (m : Int) < (n : Int) := by omega
                have hkn1 : (k : Int) < (n : Int) := by omega
                have htm := (ivl_size hiv (by omega)).2.2
                have hBy := Lib.hid (fun w3 (hb : Below wr.heap.size wr w3) => (show w3.cell? (ad.add k) = some (.int .u8 92) ∧ w3.cell? (ad.add m) = some (.int .u8 125) from by
                  obtain ⟨a1, e1, f1⟩ := (h2.keep hb).byte hx1
                  obtain ⟨a2, e2, f2⟩ := (h2.keep hb).byte hx2
                  cases e1
                  cases e2
                  exact ⟨f1, f2⟩))
                have hU := Lib.hid (fun w3 (h3 : Rdr w3 B T (some ad) n c l v2 ns2 g2 (k + 2) cl2 0) => rput_any h3 (repN x lo hi) (fits_rep ok2 htm))
                rw [show nodV (repN x lo hi) = _ from nodV_z 4 x 0 lo hi 0] at hU
                have hfin := Lib.hid (fun w' z (hy : RPut wr B T (some ad) n c l v2 ns2 g2 (k + 2) cl2 (repN x lo hi) (.returned (.int .i64 z)) w') => rep_next h2 k2 q1 q2 q3 q4 (show i2 < k + 2 by omega) (fun ps lv hl => step_ivl hb1 hb2 hiv hl) (fun ps lv hl => step_ivl_full hb1 hb2 hiv hl) hy)
                have hnc : n ≤ c := h2.inp.2.1
                clear h2 k2 q1 q2 q3 q4 ok2 hb1 hb2 hnl hiv hv hp hr3 hd1 hx1 hx2 hm hcell1 hcell2 hb3 htm hrm hrm3
                go_wp2_with (first
                  | (go_at_call 32; (with_reducible show Calls _ _ _ wr _); refine (hN0.out _ hx0.out).mono ?_; rintro y w1 ⟨rfl, hb1⟩; replace hb1 := Lib.hid hb1)
                  | (go_at_call 32; (with_reducible show Calls _ _ _ w1 _); refine (hN0.out _ hb1.out).mono ?_; rintro y w3 ⟨rfl, hb3⟩; replace hb3 := Lib.hid (hb1.out.trans (hb3.mono hb1.out.size)))
                  | (go_at_call 32; (with_reducible show Calls _ _ _ w3 _); refine (hN1.out _ hb3.out).mono ?_; rintro y w4 ⟨rfl, hb4⟩; replace hb4 := hb3.out.trans (hb4.mono hb3.out.size); have h4 := hP.out _ hb4; have c0 := h4.c0; have c1 := h4.c1; have t1 := h4.thawed 1; have hby := hBy.out _ hb4; have by1 := hby.1; have by2 := hby.2; have h5 := Lib.hid (h4.goto hi3 (z := (k : Int) + 2) (by omega)); have k5 := Lib.hid ((ChP.of_below (T := T) (v := v2) hb4).trans (ChP.store w4 T 1 (.int .i64 ((k : Int) + 2)) v2)); replace hb4 := Lib.hid hb4; clear h4 hby)
                  | (go_at_call 54; refine (hIv.out _ hb4.out).mono ?_; rintro y w5 ⟨rfl, rfl⟩)
                  | (go_at_call 22; refine (hU.out _ h5.out).mono ?_; intro y w6 hy; obtain ⟨z, rfl, hy⟩ := hy.ret; replace hy := Lib.hid (hfin.out _ _ (hy.from k5.out))))
                go_roundw
                case rel => exact hy.out.1
                case measure => exact hy.out.2
              · rw [if_neg hb3] at hiv
                have hfin := Lib.hid (show ∀ w' v', Rdr w' B T A n c l v' ns2 g2 i2 cl2 13 → ChP wr w' T v2 v' → RNode true w B T A n c l v ns g i cl inG (.returned (.int .i64 x)) w' from fun w' v' h3 k3 => .inr ⟨x, v', ns2, g2, i2, cl2, 13, by decide, rfl, h3, k2.trans k3, fun ps lv hlv => (q4 ps lv hlv).ends (.bad (step_ivl_bad hb1 hb2 hiv))⟩)
                by_cases hmn : m < n
                · have hx1 : l[k]? = some (l[k]'(by omega)) := List.getElem?_eq_getElem _
                  have hx2 : l[m]? = some (l[m]'(by omega)) := List.getElem?_eq_getElem _
                  have hno : l[k]'(by omega) ≠ 92 ∨ l[m]'(by omega) ≠ 125 := by
                    by_cases e1 : l[k]'(by omega) = 92
                    · refine .inr fun e2 => hb3 ?_
                      rw [List.drop_eq_getElem_cons (show k < l.length by omega), bg_cons, e1]
                      subst hm
                      rw [List.drop_eq_getElem_cons (show k + 1 < l.length by omega), bg_cons, e2]; rfl
                    · exact .inl e1
                  generalize l[k]'(by omega) = y1 at *
                  generalize l[m]'(by omega) = y2 at *
                  obtain ⟨ad, hA, hcell1⟩ := h2.byte hx1
                  obtain ⟨ad2, hA2, hcell2⟩ := h2.byte hx2
                  subst hA
                  cases hA2
                  have hmn3 : ¬ (n : Int) ≤ (m : Int) := by omega
                  have hmn2 : ¬ n ≤ m := by omega
                  have hmn1 : (m : Int) < (n : Int) := by omega
                  have hkn1 : (k : Int) < (n : Int) := by omega
                  have hBy := Lib.hid (fun w3 (hb : Below wr.heap.size wr w3) => (show w3.cell? (ad.add k) = some (.int .u8 (y1.toNat : Int)) ∧ w3.cell? (ad.add m) = some (.int .u8 (y2.toNat : Int)) from by
                    obtain ⟨a1, e1, f1⟩ := (h2.keep hb).byte hx1
                    obtain ⟨a2, e2, f2⟩ := (h2.keep hb).byte hx2
                    cases e1
                    cases e2
                    exact ⟨f1, f2⟩))
                  have hnc : n ≤ c := h2.inp.2.1
                  have hne1 : ((y1.toNat : Int) != 92) = true ∨ (((y1.toNat : Int) != 92) = false ∧ ((y2.toNat : Int) != 125) = true) := by
                    by_cases e1 : y1 = 92
                    · exact .inr ⟨by subst e1; rfl, by rw [bne_iff_ne]; intro e; exact (hno.resolve_left (fun k => k e1)) (UInt8.toNat_inj.1 (show y2.toNat = 125 by omega))⟩
                    · exact .inl (by rw [bne_iff_ne]; intro e; exact e1 (UInt8.toNat_inj.1 (show y1.toNat = 92 by omega)))
                  clear h2 k2 q1 q2 q3 q4 ok2 hb1 hb2 hnl hiv hv hp hx1 hx2 hm hcell1 hcell2 hb3 hrm hno hmn
                  generalize (y1.toNat : Int) = d1 at *
                  generalize (y2.toNat : Int) = d2 at *
                  rcases hne1 with hne1 | ⟨hne1, hne2⟩
                  all_goals
                    go_wp2_with (first
                      | (go_at_call 32; (with_reducible show Calls _ _ _ wr _); refine (hN0.out _ hx0.out).mono ?_; rintro y w1 ⟨rfl, hb1⟩; replace hb1 := Lib.hid hb1)
                      | (go_at_call 32; (with_reducible show Calls _ _ _ w1 _); refine (hN0.out _ hb1.out).mono ?_; rintro y w3 ⟨rfl, hb3⟩; replace hb3 := Lib.hid (hb1.out.trans (hb3.mono hb1.out.size)))
                      | (go_at_call 32; (with_reducible show Calls _ _ _ w3 _); refine (hN1.out _ hb3.out).mono ?_; rintro y w4 ⟨rfl, hb4⟩; replace hb4 := hb3.out.trans (hb4.mono hb3.out.size); have h4 := hP.out _ hb4; have c0 := h4.c0; have c1 := h4.c1; have c2b := h4.c2; have t2 := h4.thawed 2; have hby := hBy.out _ hb4; have by1 := hby.1; have by2 := hby.2; have h5 := Lib.hid (h4.erred 13 (z := 13) rfl); have k5 := Lib.hid ((ChP.of_below (T := T) (v := v2) hb4).trans (ChP.store w4 T 2 (.int .i64 13) v2)); replace hb4 := Lib.hid hb4; clear h4 hby)
                      | (go_at_call 54; refine (hIv.out _ hb4.out).mono ?_; rintro y w5 ⟨rfl, rfl⟩))
                    go_ret
                    exact hfin.out _ _ h5.out k5.out
                · have hmn3 : (n : Int) ≤ (m : Int) := by omega
                  have hmn2 : n ≤ m := by omega
                  clear h2 k2 q1 q2 q3 q4 ok2 hb1 hb2 hnl hiv hv hp hm hb3 hrm hmn
                  go_wp2_with (first
                    | (go_at_call 32; (with_reducible show Calls _ _ _ wr _); refine (hN0.out _ hx0.out).mono ?_; rintro y w1 ⟨rfl, hb1⟩; replace hb1 := Lib.hid hb1)
                    | (go_at_call 32; (with_reducible show Calls _ _ _ w1 _); refine (hN0.out _ hb1.out).mono ?_; rintro y w3 ⟨rfl, hb3⟩; replace hb3 := Lib.hid (hb1.out.trans (hb3.mono hb1.out.size)))
                    | (go_at_call 32; (with_reducible show Calls _ _ _ w3 _); refine (hN1.out _ hb3.out).mono ?_; rintro y w4 ⟨rfl, hb4⟩; replace hb4 := hb3.out.trans (hb4.mono hb3.out.size); have h4 := hP.out _ hb4; have c0 := h4.c0; have c1 := h4.c1; have c2b := h4.c2; have t2 := h4.thawed 2; have h5 := Lib.hid (h4.erred 13 (z := 13) rfl); have k5 := Lib.hid ((ChP.of_below (T := T) (v := v2) hb4).trans (ChP.store w4 T 2 (.int .i64 13) v2)); replace hb4 := Lib.hid hb4; clear h4)
                    | (go_at_call 54; refine (hIv.out _ hb4.out).mono ?_; rintro y w5 ⟨rfl, rfl⟩))
                  go_ret
                  exact hfin.out _ _ h5.out k5.out
      · obtain rfl := (Ending.returned.inj ea)
        clear ea
        have c2 := h2.c2
        have he : ((e2 : Int) == 0) = false := by rw [beq_eq_false_iff_ne]; omega
        have hfin := Lib.hid (show RNode true w B T A n c l v ns g i cl inG (.returned (.int .i64 x)) wr from .inr ⟨x, v2, ns2, g2, i2, cl2, e2, he2, rfl, h2, k2, q4⟩)
        clear h2 k2 q4 he2
        go_wp2
        go_ret
        exact hfin.out
end
end Go.Proofs.YtnfbgpjadnlgbaaGreat
