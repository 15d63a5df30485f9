/- FilesPlay. -/
import Derived.Test.YtkdhfjnfdcopdaaFrame
import Derived.Test.YtkdhfjnfdcopdaaL3PlayA
import Derived.Test.YtkdhfjnfdcopdaaFilO
import Derived.Deep.CutRange
import Derived.Deep.CutBlock
import Derived.Deep.DeepCutAuto
import Derived.Deep.LoopGhost
import Derived.Deep.RegionHeld3
set_option linter.unusedVariables false
namespace Go.Proofs.Ytkdhfjnfdcopdaa.Play
open Go.ChangeShapes Go.WideShapes Go.ChangeAt Go.RowKit

set_option maxHeartbeats 2000000 in
set_option maxRecDepth 100000 in
theorem core (W : World) (A : Option Addr) (n c : Nat) (fs : List Fil) (hn : n = fs.length) (hnc : n ≤ c) (hm : c ≤ maxLen) (hz : ∀ f ∈ fs, f.1.size ≤ maxLen) (h : Fils W (· < W.heap.size) A fs)
    (A2 : Option Addr) (m c2 : Nat) (l : List ActT) (hn2 : m = l.length) (hnc2 : m ≤ c2) (hm2 : c2 ≤ maxLen) (hz2 : ∀ a ∈ l, a.2.2.1.size ≤ maxLen) (h2 : Acts W (· < W.heap.size) A2 l) :
    Calls Try.prog 3 #[.slice A n c, .slice A2 m c2] W fun e W' => e = .returned (.bool true) ∧ Below W.heap.size W W' := by
  have hW := Lib.hid awake_any
  have hG := Lib.hid (great_any A n c fs A2 m c2 l _ _ W hn h hz hn2 h2 hz2)
  unfold maxLen at hm hm2
  by_cases hS : Small fs l
  rotate_left
  · replace hS := Lib.hid hS
    clear hn hn2 h h2
    go_enter Try.func3, Try.ntmps3
    go_wp2_with (first
      | (go_at_call 7; refine (hG.out).mono ?_; rintro e w' ⟨⟨b, rfl, hsm⟩, rfl⟩; cases b; exact absurd (hsm rfl) hS.out)
      | (go_at_call 8; refine (hW.out _).mono ?_; rintro e w5 ⟨rfl, hb5⟩))
    go_ret
    exact ⟨rfl, hb5⟩
  · have hR := Lib.hid (fun (w : World) (hb : Below W.heap.size W w) => refNew_any A n c fs w hn hnc hz ((h.belowB hb).mono fun k hk _ => Nat.lt_of_lt_of_le hk hb.size))
    by_cases h0 : (newF fs).2 = 0
    rotate_left
    · have hN := Lib.hid (new_no A n c fs W hn hnc hz h h0)
      unfold PutPost at hR
      generalize (newF fs).2 = e0 at *
      have hne : (e0 == 0) = false := by rw [beq_eq_false_iff_ne]; exact h0
      clear hn hn2 h h2 hS h0
      go_enter Try.func3, Try.ntmps3
      go_wp2_with (first
        | (go_at_call 7; refine (hG.out).mono ?_; rintro e w' ⟨⟨b, rfl, hsm⟩, rfl⟩; cases b)
        | (go_at_call 9; refine (hN.out).mono ?_; rintro e w3 ⟨rfl, hb3⟩)
        | (go_at_call 10; refine (hR.out _ hb3).mono ?_; rintro e w4 ⟨⟨A4, n4, c4, rfl, -, -, -, -⟩, hb4⟩)
        | (go_at_call 8; refine (hW.out _).mono ?_; rintro e w5 ⟨rfl, hb5⟩))
      all_goals go_ret
      all_goals first
        | exact ⟨rfl, ((hb3).trans (hb4.mono hb3.size)).trans (hb5.mono (Nat.le_trans hb3.size hb4.size))⟩
        | exact ⟨rfl, hb5⟩
    · have hN := Lib.hid (new_yes A n c fs W hn hnc hz h h0)
      have hok := Lib.hid (ok_new h0)
      have hR2 := hR.out
      clear hR
      rw [show newF fs = (fs, 0) from Prod.ext (newF_zero h0) h0] at hR2
      have hR := Lib.hid hR2
      clear hR2
      replace hn := Lib.hid hn
      replace hn2 := Lib.hid hn2
      replace h2 := Lib.hid h2
      replace hz2 := Lib.hid hz2
      replace hS := Lib.hid hS
      clear h h0
      go_enter Try.func3, Try.ntmps3
      go_wp2_with (first
        | (go_at_call 7; refine (hG.out).mono ?_; rintro e w' ⟨⟨b, rfl, hsm⟩, rfl⟩; clear hsm; cases b)
        | (go_at_call 9; refine (hN.out).mono ?_; rintro e w3 ⟨T, rfl, hT3, hb3⟩
           replace hT3 := Lib.hid hT3)
        | (go_at_call 10; refine (hR.out _ hb3).mono ?_; rintro e w4 ⟨⟨A4, n4, c4, rfl, q1, q2, q3, q4⟩, hb4⟩
           replace q1 := Lib.hid q1
           have hBoth : Hid (Both W fs (.pointer (some ⟨T, 0, none⟩)) (.slice A4 n4 c4) w4) := Lib.hid ⟨fun b => W.heap.size ≤ b ∧ b < w3.heap.size, T, A4, n4, c4, rfl, rfl, q1.out, q2, q3, hT3.out.kept (fun k hk _ => hb4.block k hk) (fun k hk hf => ⟨hf, hk⟩), fun b hb => hb.1, q4.mono (fun k hq _ hf => hq.elim id fun h => absurd hf.2 (Nat.not_lt_of_le h)), hb3.trans (hb4.mono hb3.size)⟩
           replace q4 := Lib.hid q4)
        | (go_at_call 8; refine (hW.out _).mono ?_; rintro e w5 ⟨rfl, hb5⟩))
      rotate_left
      · go_ret
        exact ⟨rfl, hb5⟩
      replace hb4 : Below W.heap.size W w4 := hb3.trans (hb4.mono hb3.size)
      clear hT3 hb3 hG hR hN q1 q2 q3 q4
      go_loopg [5, 7, 9] m (fun gg s5 s7 s9 wr => RelP W m gg s9 s5 s7 wr)
      case atStart => exact RelP.mk ⟨0, fs, by omega, by omega, rfl, hok, hBoth⟩
      case round =>
        clear hBoth hb4 hok
        obtain ⟨k, gs, hk, hgg, rfl, hok, hB⟩ := hrel
        by_cases hlt : k < m
        · have hlk : k < l.length := by have := hn2.out; omega
          obtain ⟨F, T, Ax, nx, cx, rfl, rfl, hnx, hcx, hmx, hT, hF, hX, hbr⟩ := hB.out.known
          obtain ⟨ad, A1, n1, c1, hA, hbk, d0, d1, d2, d3, hn1, hc1, hm1, hL⟩ := (h2.out.belowB hbr).at_ hlk
          subst hA
          have hsA := hS.out.2.2.2 _ (List.getElem_mem hlk)
          have hnm := hz2.out _ (List.getElem_mem hlk)
          generalize l[k]'hlk = a at *
          obtain ⟨z, q, nm, ls⟩ := a
          replace hn1 : n1 = ls.length := hn1
          replace hL : Bss wr (fun x => x < W.heap.size) A1 ls := hL
          replace hnm : nm.size ≤ maxLen := hnm
          replace d0 : wr.cell? (ad.add (k * 4)) = some (.int .i64 z) := d0
          replace d1 : wr.cell? ⟨(ad.add (k * 4)).block, (ad.add (k * 4)).off + 1, none⟩ = some (.int .i64 q) := d1
          replace d2 : wr.cell? ⟨(ad.add (k * 4)).block, (ad.add (k * 4)).off + 2, none⟩ = some (.string nm) := d2
          have hfl : ls.flatten.length ≤ 500 := by
            obtain ⟨h5, _, h100⟩ := hsA
            have h5 : ls.length ≤ 5 := h5
            have := flat_le h100
            have : ls.flatten.length ≤ ls.length * 100 := this
            omega
          replace hfl := Lib.hid hfl
          clear hsA
          unfold maxLen at hm1 hmx
          replace hnx := Lib.hid hnx
          replace hn1 := Lib.hid hn1
          replace hT := Lib.hid hT
          replace hX := Lib.hid hX
          replace hL := Lib.hid hL
          replace hF := Lib.hid hF
          replace hnm := Lib.hid hnm
          have hszW : wr.heap.size < (wr.alloc (.cells #[.int .i64 z, .int .i64 q, .string nm, .slice A1 n1 c1] 34)).heap.size := by rw [sizeA]; omega
          have hw0 : Below wr.heap.size wr (wr.alloc (.cells #[.int .i64 z, .int .i64 q, .string nm, .slice A1 n1 c1] 34)) := (Below.refl _ wr).alloc (Nat.le_refl _) _
          have hcell := fun (w' : World) (hb : Below (wr.heap.size + 1) (wr.alloc (.cells #[.int .i64 z, .int .i64 q, .string nm, .slice A1 n1 c1] 34)) w') =>
            act_cells wr w' z q nm A1 n1 c1 _ hb
          replace hcell := Lib.hid hcell
          replace hszW := Lib.hid hszW
          replace hw0 := Lib.hid hw0
          go_upto_block 2 with (fail)
          go_cut [5, 6, 7, 8, 11, 12] from 42 to 172 (fun s5 s6 s7 s8 _ _ wx => RelC W wr.heap.size nm s5 s6 s7 s8 wx)
          case first =>
            clear hW
            generalize hw0e : wr.alloc (.cells #[.int .i64 z, .int .i64 q, .string nm, .slice A1 n1 c1] 34) = w0 at *
            replace hw0e := Lib.hid hw0e
            obtain ⟨e0, e1, e2, e3⟩ := hcell.out w0 (Below.refl _ _)
            have hs0 : w0.heap.size = wr.heap.size + 1 := by rw [← hw0e.out, sizeA]
            have hw0s : Below wr.heap.size wr w0 := hw0.out
            have hLs := Lib.hid (fun (w' : World) (hb : Below wr.heap.size wr w') => (Bss.keep hL.out (fun p hp _ => hb.cell (Nat.lt_of_lt_of_le hp hbr.size)) (fun _ _ _ => trivial) : Bss w' (fun _ => True) A1 ls))
            have hXs := Lib.hid (fun (w' : World) (hb : Below wr.heap.size wr w') => Fils.below hX.out hb)
            have hTs := Lib.hid (fun (w' : World) (hb : Below wr.heap.size wr w') => tab_grow hT.out hb)
            have hmx' := Lib.hid (show cx ≤ maxLen from hmx)
            have hm1' := Lib.hid (show c1 ≤ maxLen from hm1)
            have hFlt := Lib.hid (fun b hb => (hF.out b hb).2)
            have hFge := Lib.hid (fun b hb => (hF.out b hb).1)
            have hs0' := Lib.hid hs0
            have hfrC := Lib.hid (fun (w2 w3 : World) (hb : Below wr.heap.size wr w2) (hl : wr.heap.size < w2.heap.size) (hf : Fr (Grow F w2.heap.size) w2 w3) => hf.cell (p := ⟨wr.heap.size, 2, none⟩) hl (fun hg => hg.elim (fun h => Nat.lt_irrefl _ (hFlt.out _ h)) (fun h => absurd h (Nat.not_le_of_lt hl))))
            clear hs0
            obtain ⟨fl, hfle⟩ : ∃ fl, Hid (ls.flatten = fl) := ⟨_, Lib.hid rfl⟩
            obtain ⟨fl2, hfle2⟩ : ∃ fl2, Hid (getF gs nm ++ ls.flatten = fl2) := ⟨_, Lib.hid rfl⟩
            by_cases hz0 : z = 0
            · subst hz0
              go_wp2_with (first
                | (go_at_call 11
                   have hq := lawAll_any none 0 0 [] A1 n1 c1 ls (fun _ => True) (fun _ => True) w0 rfl (fun k hk => absurd hk (by simp)) hn1.out hc1 hm1'.out (hLs.out w0 hw0s) (by have := hfl.out; simp only [List.length_nil]; omega)
                   rw [List.nil_append, hfle.out] at hq
                   refine hq.mono ?_; clear hq; rintro e w1 ⟨v1, rfl, ho1, hb1⟩
                   obtain ⟨Av, cv, rfl⟩ := own_slice ho1
                   have hbw1 := hw0s.trans (hb1.mono hw0s.size)
                   obtain ⟨f0, f1, f2, f3⟩ := hcell.out w1 (hb1.mono (Nat.le_of_eq hs0'.out.symm)))
                | (go_at_call 12
                   refine (refPut_any Ax nx cx gs nm Av fl.length cv fl (fun b => ¬ F b) (fun _ => True) w1 hnx.out hcx hmx'.out (hXs.out w1 hbw1) hok.out.1 hnm.out rfl (Byt.q ((own_byt' ho1).more (Nat.le_refl _)) (fun _ _ => trivial))).mono ?_; rintro e w2 ⟨⟨A9, n9, c9, rfl, r1, r2, r3, r4⟩, hb2⟩
                   replace r1 := Lib.hid r1
                   have hbw2 := hbw1.trans (hb2.mono hbw1.size)
                   obtain ⟨g0, g1, g2, g3⟩ := hcell.out w2 ((hb1.trans (hb2.mono hb1.size)).mono (Nat.le_of_eq hs0'.out.symm)))
                | (go_at_call 13
                   refine (put_any (Grow F w2.heap.size) T gs nm Av fl.length cv fl w2 (hTs.out w2 hbw2) hok.out (fun k h => .inr h) hnm.out rfl (own_cap ho1).1 (own_cap ho1).2 (byt_apart hFlt.out hw0s.size ho1 ⟨cv, rfl⟩ hb2)).mono ?_; rintro e w3 ⟨rfl, hT3, hF3⟩))
              all_goals go_meet
              have hl2 : wr.heap.size < w2.heap.size := by have := hszW.out; have := hb1.size; have := hb2.size; omega
              exact RelC.mk ⟨(putF gs nm fl).1, (putF gs nm fl).2, Lib.hid (putF_ok hok.out _ _), Lib.hid (Both.make hFge.out (hbr.trans (hbw2.mono hbr.size)) r1.out r2 r3 (fils_apart hFlt.out hbw1.size r4) hT3 hF3), rfl, rfl, (hfrC.out w2 w3 hbw2 hl2 hF3).trans g2, Nat.lt_of_lt_of_le hl2 hF3.size⟩
            · have hz0b : (z == 0) = false := by rw [beq_eq_false_iff_ne]; exact hz0
              clear hz0
              by_cases hz1 : z = 1
              · subst hz1
                have hw0d : Below wr.heap.size wr w0.drew := hw0s.drew
                go_wp2_with (fail)
                go_region_held3 (fun w' => w'.cell? ⟨wr.heap.size, 2, none⟩ = some (.string nm) ∧ w'.cell? ⟨wr.heap.size, 3, none⟩ = some (.slice A1 n1 c1)) (go_keep) (first
                  | (go_at_call 14
                     refine (refGet_any Ax nx cx gs nm (fun b => ¬ F b) w0.drew hnx.out hcx hmx'.out (hXs.out w0.drew hw0d)).mono ?_; rintro e w' ⟨⟨Ag, ng, cg, rfl, y1, y2, y3, y4⟩, rfl⟩
                     replace y1 := Lib.hid y1
                     replace y4 := Lib.hid y4)
                  | (go_at_call 11
                     have hq := lawAll_any Ag ng cg (getF gs nm) A1 n1 c1 ls (fun b => ¬ F b) (fun _ => True) w0.drew y1.out y4.out hn1.out hc1 hm1'.out (hLs.out w0.drew hw0d) (by have := hfl.out; have := getF_le hok.out nm; omega)
                     rw [hfle2.out] at hq
                     refine hq.mono ?_; clear hq; rintro e w1 ⟨v1, rfl, ho1, hb1⟩
                     obtain ⟨Av, cv, rfl⟩ := own_slice ho1
                     have hb01 : Below w0.heap.size w0 w1 := ((Below.refl _ w0).drew).trans hb1
                     have hbw1 := hw0s.trans (hb01.mono hw0s.size)
                     obtain ⟨f0, f1, f2, f3⟩ := hcell.out w1 (hb01.mono (Nat.le_of_eq hs0'.out.symm)))
                  | (go_at_call 12
                     refine (refPut_any Ax nx cx gs nm Av fl2.length cv fl2 (fun b => ¬ F b) (fun _ => True) w1 hnx.out hcx hmx'.out (hXs.out w1 hbw1) hok.out.1 hnm.out rfl (Byt.q ((own_byt' ho1).more (Nat.le_refl _)) (fun _ _ => trivial))).mono ?_; rintro e w2 ⟨⟨A9, n9, c9, rfl, r1, r2, r3, r4⟩, hb2⟩
                     replace r1 := Lib.hid r1
                     replace r4 := Lib.hid r4
                     have hbw2 := hbw1.trans (hb2.mono hbw1.size)
                     obtain ⟨g0, g1, g2, g3⟩ := hcell.out w2 ((hb01.trans (hb2.mono hb01.size)).mono (Nat.le_of_eq hs0'.out.symm))))
                go_wp2_with (first
                  | (go_at_call 15
                     have hq := add_any (Grow F w2.heap.size) T gs nm A1 n1 c1 ls w2 (hTs.out w2 hbw2) hok.out (fun k h => .inr h) hnm.out hn1.out hc1 hm1'.out (Bss.keep hL.out (fun p hp _ => hbw2.cell (Nat.lt_of_lt_of_le hp hbr.size)) (fun k hk hlt hg => hg.elim (fun h => by have := hFge.out k h; omega) (fun h => by have := hbw2.size; have h : w2.heap.size ≤ k := h; omega)))
                     have hpa : addF gs nm ls.flatten = putF gs nm fl2 := by rw [← hfle2.out]; rfl
                     rw [hpa] at hq
                     refine hq.mono ?_; clear hq; rintro e w3 ⟨rfl, hT3, hF3⟩))
                all_goals go_meet
                have hl2 : wr.heap.size < w2.heap.size := by have := hszW.out; have := hb01.size; have := hb2.size; omega
                exact RelC.mk ⟨(putF gs nm fl2).1, (putF gs nm fl2).2, Lib.hid (putF_ok hok.out _ _), Lib.hid (Both.make hFge.out (hbr.trans (hbw2.mono hbr.size)) r1.out r2 r3 (fils_apart hFlt.out hbw1.size r4.out) hT3 hF3), rfl, rfl, (hfrC.out w2 w3 hbw2 hl2 hF3).trans g2, Nat.lt_of_lt_of_le hl2 hF3.size⟩
              · have hz1b : (z == 1) = false := by rw [beq_eq_false_iff_ne]; exact hz1
                clear hz1
                by_cases hz2' : z = 2
                · subst hz2'
                  go_wp2_with (first
                    | (go_at_call 16
                       refine (refCut_any Ax nx cx gs nm q (fun b => ¬ F b) w0 hnx.out hcx hmx'.out (hXs.out w0 hw0s) hok.out hnm.out).mono ?_; rintro e w2 ⟨⟨A9, n9, c9, rfl, r1, r2, r3, r4⟩, hb2⟩
                       replace r1 := Lib.hid r1
                       replace r4 := Lib.hid r4
                       have hbw2 := hw0s.trans (hb2.mono hw0s.size)
                       obtain ⟨g0, g1, g2, g3⟩ := hcell.out w2 (hb2.mono (Nat.le_of_eq hs0'.out.symm)))
                    | (go_at_call 17
                       refine (cut_any (Grow F w2.heap.size) T gs nm q w2 (hTs.out w2 hbw2)).mono ?_; rintro e w3 ⟨rfl, hT3, hF3⟩))
                  all_goals go_meet
                  have hl2 : wr.heap.size < w2.heap.size := by have := hszW.out; have := hb2.size; omega
                  exact RelC.mk ⟨(cutF gs nm q).1, (cutF gs nm q).2, Lib.hid (cutF_ok hok.out _ _), Lib.hid (Both.make hFge.out (hbr.trans (hbw2.mono hbr.size)) r1.out r2 r3 (fils_apart hFlt.out hw0s.size r4.out) hT3 hF3), rfl, rfl, (hfrC.out w2 w3 hbw2 hl2 hF3).trans g2, Nat.lt_of_lt_of_le hl2 hF3.size⟩
                · have hz2b : (z == 2) = false := by rw [beq_eq_false_iff_ne]; exact hz2'
                  clear hz2'
                  by_cases hz4 : z = 4
                  · subst hz4
                    have kc := fun (w : World) (C : Array Value) (n c : Nat) => Lib.run_convert_bytes_const (P := Try.prog) w 35 5 C n c Try.underlying35 Try.underlying5
                    go_wp2_with (first
                      | (go_at_call 18
                         refine (copy_table F T gs w0 (hT.out.below hw0s) hok.out).mono ?_; rintro e w1 ⟨T', rfl, hT1, hb1⟩
                         replace hT1 := Lib.hid hT1
                         have hbw1 := hw0s.trans (hb1.mono hw0s.size)
                         obtain ⟨f0, f1, f2, f3⟩ := hcell.out w1 (hb1.mono (Nat.le_of_eq hs0'.out.symm)))
                      | (go_at_call 15
                         have hzz := bss_zz w1 35
                         have hbz : Below w1.heap.size w1 ((w1.alloc (.cells #[.int .u8 122, .int .u8 122] 5 (2, 3))).alloc (.cells #[.slice (some ⟨w1.heap.size, 0, none⟩) 2 2] 35)) := ((Below.refl _ w1).alloc (Nat.le_refl _) _).alloc (by rw [sizeA]; omega) _
                         have hsz : ((w1.alloc (.cells #[.int .u8 122, .int .u8 122] 5 (2, 3))).alloc (.cells #[.slice (some ⟨w1.heap.size, 0, none⟩) 2 2] 35)).heap.size = w1.heap.size + 2 := by rw [sizeA, sizeA]
                         generalize (w1.alloc (.cells #[.int .u8 122, .int .u8 122] 5 (2, 3))).alloc (.cells #[.slice (some ⟨w1.heap.size, 0, none⟩) 2 2] 35) = wz at *
                         replace hsz := Lib.hid hsz
                         have hbwz := hbw1.trans (hbz.mono hbw1.size)
                         have hlz : wr.heap.size < wz.heap.size := by have := hszW.out; have := hb1.size; have := hbz.size; omega
                         have hq := add_any (Grow F wz.heap.size) T gs nm (some ⟨w1.heap.size + 1, 0, none⟩) 1 1 [[122, 122]] wz (hTs.out wz hbwz) hok.out (fun k h => .inr h) hnm.out rfl (Nat.le_refl _) (by simp [maxLen]) (hzz.mono (fun k hk _ hg => hg.elim (fun h => by have := hFlt.out k h; have := hbw1.size; omega) (fun h => by have := hsz.out; have h : wz.heap.size ≤ k := h; omega)))
                         generalize addF gs nm ([[122, 122]] : List (List UInt8)).flatten = P at hq
                         refine hq.mono ?_; clear hq; rintro e w2 ⟨rfl, hT2, hF2⟩
                         replace hT2 := Lib.hid hT2
                         have g2 := (hfrC.out wz w2 hbwz hlz hF2).trans (hcell.out wz ((hb1.trans (hbz.mono hb1.size)).mono (Nat.le_of_eq hs0'.out.symm))).2.2.1
                         have hl2 := Nat.lt_of_lt_of_le hlz hF2.size)
                      | (go_at_call 17
                         refine (cut_any (Grow F wz.heap.size) T P.1 nm 0 w2 hT2.out).mono ?_; rintro e w3 ⟨rfl, -, hF3⟩
                         have hF23 := hF2.trans hF3))
                    all_goals go_meet
                    exact RelC.mk ⟨gs, 0, hok, Lib.hid (Both.copied hbr hw0s hb1 hbz hF.out hnx.out hcx hmx'.out hX.out hT1.out hF23), rfl, rfl, (hfrC.out wz w3 hbwz hlz hF23).trans (hcell.out wz ((hb1.trans (hbz.mono hb1.size)).mono (Nat.le_of_eq hs0'.out.symm))).2.2.1, Nat.lt_of_lt_of_le hlz hF23.size⟩
                  · have hz4b : (z == 4) = false := by rw [beq_eq_false_iff_ne]; exact hz4
                    clear hz4
                    go_wp2_with (fail)
                    all_goals go_meet
                    exact RelC.mk ⟨gs, 0, hok, Lib.hid (hB.out.below hw0s), rfl, rfl, e2, hszW.out⟩
          case rest =>
            clear hB hT hX hF hL hn1 hnx hcell hw0 hszW d0 d1 d2 d3 hfl hok
            obtain ⟨gs2, cd, hok2, hB2, rfl, rfl, hc2n, hc2lt⟩ := hcut
            obtain ⟨F2, T2, A3, n3, c3, rfl, rfl, hn3, hc3, hm3, hT2, hF2, hX2, hb2⟩ := hB2.out.known
            have hm3' := Lib.hid hm3
            unfold maxLen at hm3
            replace hn3 := Lib.hid hn3
            replace hT2 := Lib.hid hT2
            replace hX2 := Lib.hid hX2
            clear hF2
            have hXs := Lib.hid (fun (w' : World) (hb : Below wc.heap.size wc w') => Fils.below hX2.out hb)
            have hTs := Lib.hid (fun (w' : World) (hb : Below wc.heap.size wc w') => Tab.below hT2.out hb)
            have hG := Lib.hid (get_any F2 T2 gs2 nm wc hT2.out hok2.out)
            cases hp : posN gs2 nm with
            | none =>
              have hAt := Lib.hid (fun (w' : World) (hb : Below wc.heap.size wc w') => at_any A3 n3 c3 gs2 nm _ w' hn3.out hc3 hm3'.out (hXs.out w' hb))
              rw [posI_neg hp] at hAt
              rw [hp] at hG
              clear hp
              go_wp2_with (first
                | (go_at_call 19; refine (hG.out).mono ?_; rintro e w1 ⟨v1, rfl, ho1, hb1⟩
                   obtain ⟨A1g, c1g, rfl, -, u1, u2, u3⟩ := own_byt ho1
                   have hn1c := (hb1.cell (p := ⟨wr.heap.size, 2, none⟩) hc2lt).trans hc2n
                   have hlt1 := Nat.lt_of_lt_of_le hc2lt hb1.size))
              have hbd : Below wc.heap.size wc w1.drew := hb1.drew
              go_region_held3 (fun w' => w'.cell? ⟨wr.heap.size, 2, none⟩ = some (.string nm)) (go_keep) (first
                | (go_at_call 20
                   refine (hAt.out w1.drew hbd).mono ?_; rintro e w' ⟨rfl, rfl⟩)
                | (go_at_call 14
                   refine (refGet_any A3 n3 c3 gs2 nm (fun b => ¬ F2 b) w1.drew hn3.out hc3 hm3'.out (hXs.out w1.drew hbd)).mono ?_; rintro e w' ⟨⟨Ag, ng, cg, rfl, y1, y2, y3, y4⟩, rfl⟩
                   replace y1 := Lib.hid y1
                   replace y4 := Lib.hid y4)
                | (go_at_call 21
                   have hq := sameB_any A1g Ag _ c1g ng cg (getF gs2 nm) (getF gs2 nm) w1.drew.heap.size w1.drew rfl y1.out u1 y2 u2 u3 y4.out.byt
                   rw [beq_self_eq_true] at hq
                   refine hq.mono ?_; clear hq; rintro e w' ⟨rfl, q2, rfl⟩
                   have hbd2 := below_drewN hb1 (1 + q2))
                | (go_at_call 22
                   refine (len_any F2 T2 gs2 nm _ (hTs.out _ hbd2)).mono ?_; rintro e w3 ⟨rfl, hb3⟩
                   have hbd3 := hbd2.trans (hb3.mono hbd2.size)
                   have hn3c := (hbd3.cell (p := ⟨wr.heap.size, 2, none⟩) hc2lt).trans hc2n)
                | (go_at_call 23
                   refine (length_any A3 n3 c3 gs2 nm _ w3 hn3.out hc3 hm3'.out (hXs.out w3 hbd3)).mono ?_; rintro e w' ⟨rfl, rfl⟩)
                | (go_at_call 25
                   refine (all_any F2 T2 gs2 w3 (hTs.out w3 hbd3) hok2.out).mono ?_; rintro e w4 ⟨v4, vs4, rfl, hR4, hb4⟩
                   obtain ⟨A4, c4, rfl, o1, o2, o3⟩ := hR4.fils
                   replace o3 := Lib.hid o3
                   have hbd4 := hbd3.trans (hb4.mono hbd3.size)
                   have hn4c := (hbd4.cell (p := ⟨wr.heap.size, 2, none⟩) hc2lt).trans hc2n)
                | (go_at_call 24
                   refine (sameF_eq A4 A3 _ c4 n3 c3 gs2 _ _ w4 rfl hn3.out o1 o2 o3.out (hXs.out w4 hbd4)).mono ?_; rintro e w' ⟨rfl, q5, rfl⟩
                   have hbd5 := below_drewN hbd4 q5))
              go_wp2_with (fail)
              go_roundg (m - (k + 1))
              case measure => omega
              case rel => exact RelP.mk ⟨k + 1, gs2, by omega, by omega, by go_num, hok2, Lib.hid (hB2.out.below hbd5)⟩
            | some j =>
              have hAt := Lib.hid (fun (w' : World) (hb : Below wc.heap.size wc w') => at_any A3 n3 c3 gs2 nm _ w' hn3.out hc3 hm3'.out (hXs.out w' hb))
              rw [posI_some hp] at hAt
              rw [hp] at hG
              clear hp
              go_wp2_with (first
                | (go_at_call 19; refine (hG.out).mono ?_; rintro e w1 ⟨v1, rfl, ho1, hb1⟩
                   obtain ⟨A1g, c1g, rfl, -, u1, u2, u3⟩ := own_byt ho1
                   have hn1c := (hb1.cell (p := ⟨wr.heap.size, 2, none⟩) hc2lt).trans hc2n
                   have hlt1 := Nat.lt_of_lt_of_le hc2lt hb1.size))
              have hbd : Below wc.heap.size wc w1.drew := hb1.drew
              go_region_held3 (fun w' => w'.cell? ⟨wr.heap.size, 2, none⟩ = some (.string nm)) (go_keep) (first
                | (go_at_call 20
                   refine (hAt.out w1.drew hbd).mono ?_; rintro e w' ⟨rfl, rfl⟩)
                | (go_at_call 14
                   refine (refGet_any A3 n3 c3 gs2 nm (fun b => ¬ F2 b) w1.drew hn3.out hc3 hm3'.out (hXs.out w1.drew hbd)).mono ?_; rintro e w' ⟨⟨Ag, ng, cg, rfl, y1, y2, y3, y4⟩, rfl⟩
                   replace y1 := Lib.hid y1
                   replace y4 := Lib.hid y4)
                | (go_at_call 21
                   have hq := sameB_any A1g Ag _ c1g ng cg (getF gs2 nm) (getF gs2 nm) w1.drew.heap.size w1.drew rfl y1.out u1 y2 u2 u3 y4.out.byt
                   rw [beq_self_eq_true] at hq
                   refine hq.mono ?_; clear hq; rintro e w' ⟨rfl, q2, rfl⟩
                   have hbd2 := below_drewN hb1 (1 + q2))
                | (go_at_call 22
                   refine (len_any F2 T2 gs2 nm _ (hTs.out _ hbd2)).mono ?_; rintro e w3 ⟨rfl, hb3⟩
                   have hbd3 := hbd2.trans (hb3.mono hbd2.size)
                   have hn3c := (hbd3.cell (p := ⟨wr.heap.size, 2, none⟩) hc2lt).trans hc2n)
                | (go_at_call 23
                   refine (length_any A3 n3 c3 gs2 nm _ w3 hn3.out hc3 hm3'.out (hXs.out w3 hbd3)).mono ?_; rintro e w' ⟨rfl, rfl⟩)
                | (go_at_call 25
                   refine (all_any F2 T2 gs2 w3 (hTs.out w3 hbd3) hok2.out).mono ?_; rintro e w4 ⟨v4, vs4, rfl, hR4, hb4⟩
                   obtain ⟨A4, c4, rfl, o1, o2, o3⟩ := hR4.fils
                   replace o3 := Lib.hid o3
                   have hbd4 := hbd3.trans (hb4.mono hbd3.size)
                   have hn4c := (hbd4.cell (p := ⟨wr.heap.size, 2, none⟩) hc2lt).trans hc2n)
                | (go_at_call 24
                   refine (sameF_eq A4 A3 _ c4 n3 c3 gs2 _ _ w4 rfl hn3.out o1 o2 o3.out (hXs.out w4 hbd4)).mono ?_; rintro e w' ⟨rfl, q5, rfl⟩
                   have hbd5 := below_drewN hbd4 q5))
              go_wp2_with (fail)
              go_roundg (m - (k + 1))
              case measure => omega
              case rel => exact RelP.mk ⟨k + 1, gs2, by omega, by omega, by go_num, hok2, Lib.hid (hB2.out.below hbd5)⟩
        · obtain rfl : k = m := by omega
          go_wp2_with (first
            | (go_at_call 8; refine (hW.out _).mono ?_; rintro e w5 ⟨rfl, hb5⟩))
          go_ret
          obtain ⟨_, _, _, _, _, _, _, _, _, _, _, _, _, hbr⟩ := hB.out
          exact ⟨rfl, hbr.trans (hb5.mono hbr.size)⟩
theorem contract (H : Type) (enc : TypeId × Value → H) (W : World) (base : Nat) (args : Array Value) (ds gs : List (DataW H)) (before : List MemPlace)
    (hval : ∀ (j : Nat) t v, Try.f3.params[j]? = some t → args[j]? = some v → Value.okWide Try.prog W .any base t v)
    (hW : DataW.Whole enc Try.prog Try.f3.params.toList Rows.filesPlaySpec.vars false W args.toList ds gs before) :
    Calls Try.prog 3 args W fun e W' => ∃ v, e = .returned v ∧ Rows.filesPlaySpec.post enc Try.prog Try.f3 false true false false W args v W' := by
  have hW' := hW
  obtain ⟨p, q, hA, hV, rfl, hfz, hnd⟩ := hW
  rw [Try.params3] at hA hval
  obtain ⟨v0, vs0, d0, ds0, p0, q0, hargs, rfl, rfl, h0, r0⟩ := trodAll_cons hA
  obtain ⟨v1, vs1, d1, ds1, p1, q1, rfl, rfl, rfl, h1, r1⟩ := trodAll_cons r0
  obtain ⟨rfl, rfl, rfl⟩ := trodAll_nil r1
  obtain rfl : args = #[v0, v1] := by cases args; simp_all
  obtain ⟨rfl, rfl⟩ := trodVars_none hV
  obtain ⟨A0, n0, c0, l0, rfl, e0, k0, m0, z0, x0⟩ := open_files (hval 0 22 v0 rfl rfl) h0
  obtain ⟨A1, n1, c1, l1, rfl, e1, k1, m1, z1, x1⟩ := open_acts (hval 1 23 v1 rfl rfl) h1
  exact (core W A0 n0 c0 l0 e0 k0 m0 z0 x0 A1 n1 c1 l1 e1 k1 m1 z1 x1).mono fun e W' ⟨he, hb⟩ => ⟨_, he, law_post hW' rfl (by kernel_rfl) (by kernel_rfl) rfl hb⟩

theorem laid_met (os : Os) : laidMetH Try.prog Rows.filesPlayRow.laid ((World.doorLaid Try.prog 4000 os).forCall (fun _ _ => 0) ⟨#[], #[.slice none 0 0, .slice none 0 0], []⟩).memory :=
  laidMetH_of_parts3 (fuel := 8) (laidMet_of_run' 8 (by kernel_rfl) (by kernel_rfl)) (by kernel_rfl) (by kernel_rfl)
theorem reads (os : Os) {H : Type} (enc : TypeId × Value → H) : ∃ places, DataW.whole enc Try.prog ((World.doorLaid Try.prog 4000 os).forCall (fun _ _ => 0) ⟨#[], #[.slice none 0 0, .slice none 0 0], []⟩).memory Try.f3.params.toList Rows.filesPlaySpec.vars false #[Value.slice none 0 0, .slice none 0 0].toList 8 = some ([.nil, .nil], [], places) :=
  ⟨[], by kernel_rfl⟩

set_option maxRecDepth 100000 in
theorem lifted (os : Os) (started : os.Started) (H : Type) (enc : TypeId × Value → H) (F : Stop.Interp) :
    ReturnsInHanded {} Try.checked os 3 .any ((OpenSpec.ofChange Rows.filesPlaySpec).preRow enc Try.prog Try.f3 Rows.filesPlayRow.domain false Rows.filesPlayRow.laid) (((OpenSpec.ofChange Rows.filesPlaySpec).at F).post enc Try.prog Try.f3 false true false false) := by
  obtain ⟨places, hx⟩ := reads os enc
  refine returnsInHanded_of_row (C := Try.checked) (s := (OpenSpec.ofChange Rows.filesPlaySpec)) own started (by kernel_rfl) Try.func3
    (witness_row_at (enc := enc) (C := Try.checked) false (World.doorLaid Try.prog 4000 os) #[.slice none 0 0, .slice none 0 0] rfl (by kernel_rfl) (by kernel_rfl) (by kernel_rfl)
      (OpenSpec.preRow_of_cond 8 hx (by kernel_rfl) (fun k hk => by cases hk) (by kernel_rfl) (laid_met os))) ?_
  intro W base args ds gs before hval hW _ _ _ _ _ _
  exact contract H enc W base args ds gs before hval hW

theorem said : Rows.FilesPlaySaid :=
  OpenClaim.holds_of_cond 3 Try.f3 rfl rfl rfl rfl rfl rfl rfl ⟨rfl, rfl, rfl, rfl, rfl⟩ rfl rfl rfl rfl rfl (by kernel_rfl) Try.func3 (by kernel_rfl)
    (of_decide_eq_true (by kernel_rfl)) (by unfold Func.isWrapper; first | (rw [if_pos (by decide +kernel)]; kernel_rfl) | (rw [if_neg (by decide +kernel)]; exact ⟨rfl, rfl⟩))
    (fun os started H enc _ F => by rw [OpenClaim.pre_eq_preRow]; exact lifted os started H enc F)

end Go.Proofs.Ytkdhfjnfdcopdaa.Play
