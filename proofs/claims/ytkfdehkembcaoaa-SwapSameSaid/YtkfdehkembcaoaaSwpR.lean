/- Contracts: the first part of bytes (first); the function that joins (joiner). -/
import Derived.Test.YtkfdehkembcaoaaSwpQ
set_option linter.unusedVariables false
set_option linter.unusedSimpArgs false
set_option maxRecDepth 100000
namespace Go.Proofs.Ytkfdehkembcaoaa
open Go.RowKit

/-- Three results, the first in a block. -/
theorem results_cell_three {P : Program} {fn : Func} {p q r : Tmp} {ty : TypeId} (h : fn.results = #[.cell p ty, .tmp q, .tmp r]) (tmps : Array Value) (w : World) (g : Nat) (t : TypeId) (cs : Array Value) (fr : Nat × Nat) (d : TypeDesc)
    (hp : tmps.getD p undef = .pointer (some ⟨g, 0, none⟩)) {x y : Value} (hx : tmps.getD q undef = x) (hy : tmps.getD r undef = y) (hg : w.heap[g]? = some (.cells cs t fr))
    (hu : P.underlying ty = some d) (hd : (match d with | .struct _ | .array _ _ => true | _ => false) = true) (hi : (P.info? ty).map (·.size) = some cs.size) :
    (results fn tmps).run P w = .ok (.tuple #[.agg cs, x, y]) w := by
  have hp' : tmps[p]?.getD undef = .pointer (some ⟨g, 0, none⟩) := by simpa using hp
  have hx' : tmps[q]?.getD undef = x := by simpa using hx
  have hy' : tmps[r]?.getD undef = y := by simpa using hy
  simp [results, h, hp', hx', hy', asAddr, run_loadVar_row w g t ty cs fr d hg hu hd hi]
theorem add_zero_ (a : Addr) : a.add 0 = a := by
  cases a with
  | mk b o s => cases s <;> simp [Addr.add]
theorem add_one_ (a : Addr) : a.add 1 = ⟨a.block, a.off + 1, none⟩ := by unfold Addr.add; simp
/-- A part stored into a block. -/
theorem put3 {w w1 : World} {H : Nat} {x y z : Value} {u : Value} {l : List UInt8} (hH : Held w1 H 45 #[x, y, z]) (ho : OwnB w1 (H + 1) u l) (hb : Below H w w1) (a b v : Value) :
    Held (((w1.setCell ⟨H, 0, none⟩ a).setCell ⟨H, 1, none⟩ b).setCell ⟨H, 2, none⟩ v) H 45 #[a, b, v] ∧ OwnB (((w1.setCell ⟨H, 0, none⟩ a).setCell ⟨H, 1, none⟩ b).setCell ⟨H, 2, none⟩ v) (H + 1) u l ∧ Below H w (((w1.setCell ⟨H, 0, none⟩ a).setCell ⟨H, 1, none⟩ b).setCell ⟨H, 2, none⟩ v) :=
  ⟨((hH.put 0 _).put 1 _).put 2 _, sw_set (sw_set (sw_set ho (p := ⟨H, 0, none⟩) (Nat.lt_succ_self _) _) (p := ⟨H, 1, none⟩) (Nat.lt_succ_self _) _) (p := ⟨H, 2, none⟩) (Nat.lt_succ_self _) _, ((hb.setCell (p := ⟨H, 0, none⟩) (Nat.le_refl _) _).setCell (p := ⟨H, 1, none⟩) (Nat.le_refl _) _).setCell (p := ⟨H, 2, none⟩) (Nat.le_refl _) _⟩
/-- What first tells. -/
def FirQ (w : World) (x : Fst13) (e : Ending) (w' : World) : Prop :=
  (match x with
  | .bad er => e = .returned (.tuple #[.agg #[.int .i64 0, .int .i64 0, .slice none 0 0], .int .i64 0, .int .i64 er])
  | .ok p n => ∃ v, e = .returned (.tuple #[v, .int .i64 (n : Nat), .int .i64 0]) ∧ PrtQ w p v w') ∧ Below w.heap.size w w'
set_option maxHeartbeats 2000000 in
theorem first_any (A : Option Addr) (n c : Nat) (b : List UInt8) (B : Nat) (g : Int) (w : World) (hn : n = b.length) (hnc : n ≤ c) (hm : c ≤ maxLen) (h1 : 1 ≤ n) (hB : B ≤ w.heap.size) (h : Byt w B A b) :
    Calls Try.prog 24 #[.slice A n c, .int .i64 g] w (FirQ w (fstP g b)) := by
  have hb0 := Lib.hid ((Below.refl w.heap.size w).alloc (Nat.le_refl _) (.cells #[.int .i64 0, .int .i64 0, .slice none 0 0] 45))
  have hH0 := Lib.hid (held_new w 45 #[.int .i64 0, .int .i64 0, .slice none 0 0])
  have hsz : (w.alloc (.cells #[.int .i64 0, .int .i64 0, .slice none 0 0] 45)).heap.size = w.heap.size + 1 := by simp
  have hfin := Lib.hid (fun (p : Prt) (A : Option Addr) (n c : Nat) (w1 : World) (h1 : OwnB w1 (w.alloc (.cells #[.int .i64 0, .int .i64 0, .slice none 0 0] 45)).heap.size (.slice A n c) p.b) (hb1 : Below (w.alloc (.cells #[.int .i64 0, .int .i64 0, .slice none 0 0] 45)).heap.size (w.alloc (.cells #[.int .i64 0, .int .i64 0, .slice none 0 0] 45)) w1) =>
    show (Held (((w1.setCell ⟨w.heap.size, 0, none⟩ (.int .i64 p.kind)).setCell ⟨w.heap.size, 1, none⟩ (.int .i64 p.grp)).setCell ⟨w.heap.size, 2, none⟩ (.slice A n c)) w.heap.size 45 #[.int .i64 p.kind, .int .i64 p.grp, .slice A n c] ∧ OwnB (((w1.setCell ⟨w.heap.size, 0, none⟩ (.int .i64 p.kind)).setCell ⟨w.heap.size, 1, none⟩ (.int .i64 p.grp)).setCell ⟨w.heap.size, 2, none⟩ (.slice A n c)) (w.heap.size + 1) (.slice A n c) p.b ∧ Below w.heap.size w (((w1.setCell ⟨w.heap.size, 0, none⟩ (.int .i64 p.kind)).setCell ⟨w.heap.size, 1, none⟩ (.int .i64 p.grp)).setCell ⟨w.heap.size, 2, none⟩ (.slice A n c))) from by
      rw [hsz] at h1
      refine ⟨(((hH0.out.keep hb1).put 0 _).put 1 _).put 2 _, ?_, ?_⟩
      · exact sw_set (sw_set (sw_set h1 (p := ⟨w.heap.size, 0, none⟩) (Nat.lt_succ_self _) _) (p := ⟨w.heap.size, 1, none⟩) (Nat.lt_succ_self _) _) (p := ⟨w.heap.size, 2, none⟩) (Nat.lt_succ_self _) _
      · exact (((hb0.out.trans (hb1.mono hb0.out.size)).setCell (p := ⟨w.heap.size, 0, none⟩) (Nat.le_refl _) _).setCell (p := ⟨w.heap.size, 1, none⟩) (Nat.le_refl _) _).setCell (p := ⟨w.heap.size, 2, none⟩) (Nat.le_refl _) _)
  have hcell := Lib.hid (fun (w1 : World) (hb1 : Below (w.alloc (.cells #[.int .i64 0, .int .i64 0, .slice none 0 0] 45)).heap.size (w.alloc (.cells #[.int .i64 0, .int .i64 0, .slice none 0 0] 45)) w1) => show (w1.cell? ⟨w.heap.size, 0, none⟩ = some (.int .i64 0) ∧ w1.cell? ⟨w.heap.size, 1, none⟩ = some (.int .i64 0) ∧ w1.cell? ⟨w.heap.size, 2, none⟩ = some (.slice none 0 0)) ∧ (w1.frozen? ⟨w.heap.size, 0, none⟩ = false ∧ w1.frozen? ⟨w.heap.size, 1, none⟩ = false ∧ w1.frozen? ⟨w.heap.size, 2, none⟩ = false) from
    ⟨⟨(hH0.out.keep hb1).at_ rfl, (hH0.out.keep hb1).at_ rfl, (hH0.out.keep hb1).at_ rfl⟩, (hH0.out.keep hb1).thawed 0, (hH0.out.keep hb1).thawed 1, (hH0.out.keep hb1).thawed 2⟩)
  have hgrp := Lib.hid (groupPart_any 0 (w.alloc (.cells #[.int .i64 0, .int .i64 0, .slice none 0 0] 45)))
  unfold maxLen at hm
  revert hn h
  cases b with
  | nil => intro hn _; simp at hn; omega
  | cons ch r =>
    intro hn h
    obtain ⟨ad, rfl, hadB, hc0⟩ := h.at_ (k := 0) (by simp)
    rw [add_zero_] at hc0
    have hc0' : w.cell? ad = some (.int .u8 (ch.toNat : Int)) := hc0
    have hc1 : (w.alloc (.cells #[.int .i64 0, .int .i64 0, .slice none 0 0] 45)).cell? ad = some (.int .u8 (ch.toNat : Int)) := (hb0.out.cell (Nat.lt_of_lt_of_le hadB hB)).trans hc0'
    have hlt : ch.toNat < 256 := UInt8.toNat_lt ch
    have hn0 : ¬ n ≤ 0 := by omega
    clear hsz
    by_cases h38 : ch.toNat = 38
    · have e0 : ((ch.toNat : Int) == 38) = true := by rw [beq_iff_eq]; omega
      have hE := Lib.hid (show fstP g (ch :: r) = .ok ⟨1, 0, []⟩ 1 from by simp [fstP, h38])
      rw [hE.out]
      replace hn := Lib.hid hn
      replace hlt := Lib.hid hlt
      clear hE h hc0 hc0'
      replace h38 := Lib.hid h38
      generalize (ch.toNat : Int) = z at *
      go_enter Try.func24, Try.ntmps24
      go_wp2_with (go_at_call 36; refine (hgrp.out).mono ?_; rintro e w1 ⟨⟨_, rfl, A1, n1, q1, rfl, ho1⟩, hb1⟩; obtain ⟨⟨c0, c1, c2⟩, y0, y1, y2⟩ := hcell.out w1 hb1; have hf := Lib.hid (hfin.out _ _ _ _ w1 ho1 hb1))
      exact bodyPost_ret (results_cell_three Try.results24 _ _ w.heap.size 45 _ (0, 0) _ rfl rfl rfl hf.out.1 Try.underlying45 rfl (prt_size _ _ _)) rfl ⟨⟨_, rfl, _, _, _, rfl, sw_base hf.out.2.1 (Nat.le_succ _)⟩, hf.out.2.2⟩
    · have e0 : ((ch.toNat : Int) == 38) = false := by rw [beq_eq_false_iff_ne]; omega
      by_cases h92 : ch.toNat = 92
      · have e1 : ((ch.toNat : Int) != 92) = false := by rw [bne_eq_false_iff_eq]; omega
        revert hn h
        cases r with
        | nil =>
          intro hn h
          have hn1 : n = 1 := by simpa using hn
          subst hn1
          have hE := Lib.hid (show fstP g [ch] = .bad 10 from by simp [fstP, h92])
          rw [hE.out]
          replace hlt := Lib.hid hlt
          clear hE h hc0 hc0' hn
          replace h38 := Lib.hid h38
          replace h92 := Lib.hid h92
          generalize (ch.toNat : Int) = z at *
          go_enter Try.func24, Try.ntmps24
          go_wp2
          exact bodyPost_ret (results_cell_three Try.results24 _ _ w.heap.size 45 _ (0, 0) _ rfl rfl rfl hH0.out Try.underlying45 rfl (prt_size _ _ _)) rfl ⟨rfl, hb0.out⟩
        | cons d r' =>
          intro hn h
          obtain ⟨ad', had', hadB', hc2⟩ := h.at_ (k := 1) (by simp)
          obtain rfl := Option.some.inj had'
          have hc2' : w.cell? (ad.add 1) = some (.int .u8 (d.toNat : Int)) := hc2
          have hc3 : (w.alloc (.cells #[.int .i64 0, .int .i64 0, .slice none 0 0] 45)).cell? ⟨ad.block, ad.off + 1, none⟩ = some (.int .u8 (d.toNat : Int)) := by rw [← add_one_]; exact (hb0.out.cell (by rw [block_add]; exact Nat.lt_of_lt_of_le hadB hB)).trans hc2'
          have hn2 : 2 ≤ n := by simp at hn; omega
          have e2 : ((n : Int) == 1) = false := by rw [beq_eq_false_iff_ne]; omega
          have hn1 : ¬ n ≤ 1 := by omega
          have hn1' : (1 : Int) < (n : Int) := by omega
          have hEs := Lib.hid (escaped_any d g (w.alloc (.cells #[.int .i64 0, .int .i64 0, .slice none 0 0] 45)))
          cases hx : escP d g with
          | none =>
            have hE := Lib.hid (show fstP g (ch :: d :: r') = .bad 16 from by simp [fstP, h92, hx])
            rw [hE.out]
            rw [hx] at hEs
            replace hlt := Lib.hid hlt
            replace hn := Lib.hid hn
            clear hE h hc0 hc0' hc2 hc2'
            replace h38 := Lib.hid h38
            replace h92 := Lib.hid h92
            generalize (ch.toNat : Int) = z at *
            generalize (d.toNat : Int) = z2 at *
            have hfz := Lib.hid (fun (w1 : World) hb1 => hfin.out ⟨0, 0, []⟩ none 0 0 w1 (OwnB.nil _ _) hb1)
            go_enter Try.func24, Try.ntmps24
            go_wp2_with (go_at_call 38; refine (hEs.out).mono ?_; rintro e w1 ⟨rfl, hb1⟩; obtain ⟨⟨c0, c1, c2⟩, y0, y1, y2⟩ := hcell.out w1 hb1; have hf := Lib.hid (hfz.out w1 hb1))
            have hf2 := Lib.hid (put3 hf.out.1 hf.out.2.1 hf.out.2.2 (.int .i64 0) (.int .i64 0) (.slice none 0 0))
            exact bodyPost_ret (results_cell_three Try.results24 _ _ w.heap.size 45 _ (0, 0) _ rfl rfl rfl hf2.out.1 Try.underlying45 rfl (prt_size _ _ _)) rfl ⟨rfl, hf2.out.2.2⟩
          | some p =>
            have hE := Lib.hid (show fstP g (ch :: d :: r') = .ok p 2 from by simp [fstP, h92, hx])
            rw [hE.out]
            rw [hx] at hEs
            replace hlt := Lib.hid hlt
            replace hn := Lib.hid hn
            clear hE h hc0 hc0' hc2 hc2'
            replace h38 := Lib.hid h38
            replace h92 := Lib.hid h92
            generalize (ch.toNat : Int) = z at *
            generalize (d.toNat : Int) = z2 at *
            go_enter Try.func24, Try.ntmps24
            go_wp2_with (go_at_call 38; refine (hEs.out).mono ?_; rintro e w1 ⟨⟨_, rfl, A1, n1, q1, rfl, ho1⟩, hb1⟩; obtain ⟨⟨c0, c1, c2⟩, y0, y1, y2⟩ := hcell.out w1 hb1; have hf := Lib.hid (hfin.out _ _ _ _ w1 ho1 hb1))
            have hf2 := Lib.hid (put3 hf.out.1 hf.out.2.1 hf.out.2.2 (.int .i64 p.kind) (.int .i64 p.grp) (.slice A1 n1 q1))
            exact bodyPost_ret (results_cell_three Try.results24 _ _ w.heap.size 45 _ (0, 0) _ rfl rfl rfl hf2.out.1 Try.underlying45 rfl (prt_size _ _ _)) rfl ⟨⟨_, rfl, _, _, _, rfl, sw_base hf2.out.2.1 (Nat.le_succ _)⟩, hf2.out.2.2⟩
      · have e1 : ((ch.toNat : Int) != 92) = true := by rw [bne_iff_ne]; omega
        have hE := Lib.hid (show fstP g (ch :: r) = .ok ⟨0, 0, [ch]⟩ 1 from by simp [fstP, h38, h92])
        have hTx := Lib.hid (textPart_any ch (w.alloc (.cells #[.int .i64 0, .int .i64 0, .slice none 0 0] 45)))
        rw [hE.out]
        replace hlt := Lib.hid hlt
        replace hn := Lib.hid hn
        clear hE h hc0 hc0'
        replace h38 := Lib.hid h38
        replace h92 := Lib.hid h92
        generalize (ch.toNat : Int) = z at *
        go_enter Try.func24, Try.ntmps24
        go_wp2_with (go_at_call 37; refine (hTx.out).mono ?_; rintro e w1 ⟨⟨_, rfl, A1, n1, q1, rfl, ho1⟩, hb1⟩; obtain ⟨⟨c0, c1, c2⟩, y0, y1, y2⟩ := hcell.out w1 hb1; have hf := Lib.hid (hfin.out _ _ _ _ w1 ho1 hb1))
        exact bodyPost_ret (results_cell_three Try.results24 _ _ w.heap.size 45 _ (0, 0) _ rfl rfl rfl hf.out.1 Try.underlying45 rfl (prt_size _ _ _)) rfl ⟨⟨_, rfl, _, _, _, rfl, sw_base hf.out.2.1 (Nat.le_succ _)⟩, hf.out.2.2⟩
end Go.Proofs.Ytkfdehkembcaoaa
