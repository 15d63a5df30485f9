/- Contracts: a part of a group, of one byte; what a \ and a byte write. -/
import Derived.Test.YtkfdehkembcaoaaSwpP
import Derived.Test.YtkfdehkembcaoaaSwpD
set_option linter.unusedVariables false
set_option linter.unusedSimpArgs false
set_option maxRecDepth 100000
namespace Go.Proofs.Ytkfdehkembcaoaa
open Go.RowKit

theorem sw_set {w : World} {base : Nat} {e : TypeId} {size : Nat} {v : Value} {n : Nat} {xs : List Value} (h : w.ownsRow base e size v n xs) {p : Addr} (hp : p.block < base) (u : Value) : (w.setCell p u).ownsRow base e size v n xs := by
  have hb : Below 0 w (w.setCell p u) := (Below.refl 0 w).setCell (Nat.zero_le _) u
  refine World.ownsRow.kept (row := some p.block) h ⟨hb.os, hb.tape, hb.output, hb.size, fun k _ hne => by rw [heap_setCell_other w p k u (fun e => hne (by rw [e]))]⟩ ?_
  cases hv : v.ownBlock with
  | none => exact .inl rfl
  | some k => exact .inr fun e => by have := (World.ownsRow.lt h k hv).1; injection e with e; omega
theorem sw_base {w : World} {b b' : Nat} {e : TypeId} {size n : Nat} {v : Value} {xs : List Value} (h : w.ownsRow b e size v n xs) (hb : b' ≤ b) : w.ownsRow b' e size v n xs :=
  ⟨h.1, h.2.imp id fun ⟨g, cap, cur, h1, h2, h3⟩ => ⟨g, cap, cur, h1, Nat.le_trans hb h2, h3⟩⟩
theorem wrap_u8_small (m : Nat) (h : m < 256) : IntKind.u8.wrap (m : Int) = (m : Int) := by unfold IntKind.wrap; simp [IntKind.bits, IntKind.signed]; omega
theorem prt_size (a b c : Value) : (Try.prog.info? 45).map (·.size) = some (#[a, b, c] : Array Value).size := by kernel_rfl
/-- A part that a call tells: its bytes are the call's own. -/
def PrtQ (w : World) (p : Prt) (v : Value) (w' : World) : Prop := ∃ A n c, v = .agg #[.int .i64 p.kind, .int .i64 p.grp, .slice A n c] ∧ OwnB w' w.heap.size (.slice A n c) p.b
theorem groupPart_any (g : Int) (w : World) : Calls Try.prog 36 #[.int .i64 g] w fun e w' => (∃ v, e = .returned v ∧ PrtQ w ⟨1, g, []⟩ v w') ∧ Below w.heap.size w w' := by
  have hb := Lib.hid ((Below.refl w.heap.size w).alloc (Nat.le_refl _) (.cells #[.int .i64 1, .int .i64 g, .slice none 0 0] 45))
  go_enter Try.func36, Try.ntmps36
  go_wp2
  exact bodyPost_ret (results_cell_row Try.results36 _ _ w.heap.size 45 #[.int .i64 1, .int .i64 g, .slice none 0 0] (0, 0) _ rfl (held_new w 45 _) Try.underlying45 rfl (prt_size _ _ _)) rfl ⟨⟨_, rfl, _, _, _, rfl, OwnB.nil _ _⟩, hb.out⟩
theorem textPart_any (c : UInt8) (w : World) : Calls Try.prog 37 #[.int .u8 (c.toNat : Int)] w fun e w' => (∃ v, e = .returned v ∧ PrtQ w ⟨0, 0, [c]⟩ v w') ∧ Below w.heap.size w w' := by
  have hb := Lib.hid (((Below.refl w.heap.size w).alloc (Nat.le_refl _) (.cells #[.int .i64 0, .int .i64 0, .slice (some ⟨w.heap.size + 1, 0, none⟩) 1 1] 45)).alloc (by simp) (.cells #[.int .u8 (c.toNat : Int)] 5))
  have ho := Lib.hid (show OwnB ((w.alloc (.cells #[.int .i64 0, .int .i64 0, .slice (some ⟨w.heap.size + 1, 0, none⟩) 1 1] 45)).alloc (.cells #[.int .u8 (c.toNat : Int)] 5)) w.heap.size (.slice (some ⟨w.heap.size + 1, 0, none⟩) 1 1) [c] from by
    have h := World.ownsRow_lit (base := w.heap.size) (e := 5) (size := 1) (w.alloc (.cells #[.int .i64 0, .int .i64 0, .slice (some ⟨w.heap.size + 1, 0, none⟩) 1 1] 45)) #[.int .u8 (c.toNat : Int)] 1 (by simp) (by simp [maxLen]) rfl
    rw [show (w.alloc (.cells #[.int .i64 0, .int .i64 0, .slice (some ⟨w.heap.size + 1, 0, none⟩) 1 1] 45)).heap.size = w.heap.size + 1 by simp] at h
    exact h)
  go_enter Try.func37, Try.ntmps37
  go_wp2
  exact bodyPost_ret (results_cell_row Try.results37 _ _ w.heap.size 45 #[.int .i64 0, .int .i64 0, .slice (some ⟨w.heap.size + 1, 0, none⟩) 1 1] (0, 0) _ rfl ((held_new w 45 _).alloc _) Try.underlying45 rfl (prt_size _ _ _)) rfl ⟨⟨_, rfl, _, _, _, rfl, ho.out⟩, hb.out⟩
/-- What escaped tells. -/
def EscQ (w : World) (x : Option Prt) (e : Ending) (w' : World) : Prop :=
  (match x with
  | none => e = .returned (.tuple #[.agg #[.int .i64 0, .int .i64 0, .slice none 0 0], .int .i64 16])
  | some p => ∃ v, e = .returned (.tuple #[v, .int .i64 0]) ∧ PrtQ w p v w') ∧ Below w.heap.size w w'
set_option maxHeartbeats 2000000 in
theorem escaped_any (d : UInt8) (g : Int) (w : World) : Calls Try.prog 38 #[.int .u8 (d.toNat : Int), .int .i64 g] w (EscQ w (escP d g)) := by
  have hb0 := Lib.hid ((Below.refl w.heap.size w).alloc (Nat.le_refl _) (.cells #[.int .i64 0, .int .i64 0, .slice none 0 0] 45))
  have hH0 := Lib.hid (held_new w 45 #[.int .i64 0, .int .i64 0, .slice none 0 0])
  have hsz : (w.alloc (.cells #[.int .i64 0, .int .i64 0, .slice none 0 0] 45)).heap.size = w.heap.size + 1 := by simp
  have hlt : d.toNat < 256 := UInt8.toNat_lt d
  have hT := Lib.hid (fun w' => textPart_any d w')
  have hT10 := Lib.hid (fun w' => textPart_any 10 w')
  have hG := Lib.hid (fun (k : Int) w' => groupPart_any k w')
  have hfin := Lib.hid (fun (p : Prt) (A : Option Addr) (n c : Nat) (w1 : World) (h1 : OwnB w1 (w.alloc (.cells #[.int .i64 0, .int .i64 0, .slice none 0 0] 45)).heap.size (.slice A n c) p.b) (hb1 : Below (w.alloc (.cells #[.int .i64 0, .int .i64 0, .slice none 0 0] 45)).heap.size (w.alloc (.cells #[.int .i64 0, .int .i64 0, .slice none 0 0] 45)) w1) =>
    show (Held (((w1.setCell ⟨w.heap.size, 0, none⟩ (.int .i64 p.kind)).setCell ⟨w.heap.size, 1, none⟩ (.int .i64 p.grp)).setCell ⟨w.heap.size, 2, none⟩ (.slice A n c)) w.heap.size 45 #[.int .i64 p.kind, .int .i64 p.grp, .slice A n c] ∧ OwnB (((w1.setCell ⟨w.heap.size, 0, none⟩ (.int .i64 p.kind)).setCell ⟨w.heap.size, 1, none⟩ (.int .i64 p.grp)).setCell ⟨w.heap.size, 2, none⟩ (.slice A n c)) w.heap.size (.slice A n c) p.b ∧ Below w.heap.size w (((w1.setCell ⟨w.heap.size, 0, none⟩ (.int .i64 p.kind)).setCell ⟨w.heap.size, 1, none⟩ (.int .i64 p.grp)).setCell ⟨w.heap.size, 2, none⟩ (.slice A n c))) from by
      rw [hsz] at h1
      refine ⟨(((hH0.out.keep hb1).put 0 _).put 1 _).put 2 _, ?_, ?_⟩
      · exact sw_base (sw_set (sw_set (sw_set h1 (p := ⟨w.heap.size, 0, none⟩) (Nat.lt_succ_self _) _) (p := ⟨w.heap.size, 1, none⟩) (Nat.lt_succ_self _) _) (p := ⟨w.heap.size, 2, none⟩) (Nat.lt_succ_self _) _) (Nat.le_succ _)
      · exact (((hb0.out.trans (hb1.mono hb0.out.size)).setCell (p := ⟨w.heap.size, 0, none⟩) (Nat.le_refl _) _).setCell (p := ⟨w.heap.size, 1, none⟩) (Nat.le_refl _) _).setCell (p := ⟨w.heap.size, 2, none⟩) (Nat.le_refl _) _)
  have hcell := Lib.hid (fun (w1 : World) (hb1 : Below (w.alloc (.cells #[.int .i64 0, .int .i64 0, .slice none 0 0] 45)).heap.size (w.alloc (.cells #[.int .i64 0, .int .i64 0, .slice none 0 0] 45)) w1) => show (w1.cell? ⟨w.heap.size, 0, none⟩ = some (.int .i64 0) ∧ w1.cell? ⟨w.heap.size, 1, none⟩ = some (.int .i64 0) ∧ w1.cell? ⟨w.heap.size, 2, none⟩ = some (.slice none 0 0)) ∧ (w1.frozen? ⟨w.heap.size, 0, none⟩ = false ∧ w1.frozen? ⟨w.heap.size, 1, none⟩ = false ∧ w1.frozen? ⟨w.heap.size, 2, none⟩ = false) from
    ⟨⟨(hH0.out.keep hb1).at_ rfl, (hH0.out.keep hb1).at_ rfl, (hH0.out.keep hb1).at_ rfl⟩, (hH0.out.keep hb1).thawed 0, (hH0.out.keep hb1).thawed 1, (hH0.out.keep hb1).thawed 2⟩)
  clear hsz
  have hEsc := Lib.hid (show escP d g = escP d g from rfl)
  by_cases h1 : 48 ≤ d.toNat
  · by_cases h2 : d.toNat ≤ 57
    · obtain ⟨m, hm⟩ : ∃ m, d.toNat = 48 + m := ⟨d.toNat - 48, by omega⟩
      have a1 : decide ((48 : Int) ≤ (d.toNat : Int)) = true := decide_eq_true (by omega)
      have a2 : decide ((d.toNat : Int) ≤ 57) = true := decide_eq_true (by omega)
      have hw1 : IntKind.u8.wrap ((d.toNat : Int) - 48) = (m : Int) := by rw [show (d.toNat : Int) - 48 = (m : Int) by omega]; exact wrap_u8_small m (by omega)
      have hw2 : IntKind.i64.wrap (m : Int) = (m : Int) := IntWalk.i64_in _ (by omega)
      by_cases h3 : g < (m : Int)
      · have a3 : decide (g < (m : Int)) = true := decide_eq_true h3
        have hE := Lib.hid (show escP d g = none from by unfold escP; rw [if_pos ⟨h1, h2, by omega⟩])
        replace h1 := Lib.hid h1
        replace h2 := Lib.hid h2
        replace h3 := Lib.hid h3
        replace hm := Lib.hid hm
        rw [hE.out]
        replace hlt := Lib.hid hlt
        generalize (d.toNat : Int) = z at *
        clear hE hEsc
        go_enter Try.func38, Try.ntmps38
        go_wp2
        exact bodyPost_ret (results_cell_two Try.results38 _ _ w.heap.size 45 _ (0, 0) _ rfl rfl hH0.out Try.underlying45 rfl (prt_size _ _ _)) rfl ⟨rfl, hb0.out⟩
      · have a3 : decide (g < (m : Int)) = false := decide_eq_false h3
        by_cases h4 : m = 0
        · subst h4
          have b1 : decide ((49 : Int) ≤ (d.toNat : Int)) = false := decide_eq_false (by omega)
          have b2 : ((d.toNat : Int) == 110) = false := by rw [beq_eq_false_iff_ne]; omega
          have hE := Lib.hid (show escP d g = some ⟨0, 0, [d]⟩ from by unfold escP; rw [if_neg (by omega), if_neg (by omega), if_neg (by omega)])
          replace h1 := Lib.hid h1
          replace h2 := Lib.hid h2
          replace h3 := Lib.hid h3
          replace hm := Lib.hid hm
          rw [hE.out]
          replace hlt := Lib.hid hlt
          generalize (d.toNat : Int) = z at *
          clear hE hEsc
          go_enter Try.func38, Try.ntmps38
          go_wp2_with (go_at_call 37; refine (hT.out _).mono ?_; rintro e w1 ⟨⟨_, rfl, A1, n1, q1, rfl, ho1⟩, hb1⟩; obtain ⟨⟨c0, c1, c2⟩, y0, y1, y2⟩ := hcell.out w1 hb1; have hf := Lib.hid (hfin.out _ _ _ _ w1 ho1 hb1))
          exact bodyPost_ret (results_cell_two Try.results38 _ _ w.heap.size 45 _ (0, 0) _ rfl rfl hf.out.1 Try.underlying45 rfl (prt_size _ _ _)) rfl ⟨⟨_, rfl, _, _, _, rfl, hf.out.2.1⟩, hf.out.2.2⟩
        · have b1 : decide ((49 : Int) ≤ (d.toNat : Int)) = true := decide_eq_true (by omega)
          have hE := Lib.hid (show escP d g = some ⟨1, (m : Int), []⟩ from by unfold escP; rw [if_neg (by omega), if_pos (by omega), show (d.toNat : Int) - 48 = (m : Int) by omega])
          replace h1 := Lib.hid h1
          replace h2 := Lib.hid h2
          replace h3 := Lib.hid h3
          replace h4 := Lib.hid h4
          replace hm := Lib.hid hm
          rw [hE.out]
          replace hlt := Lib.hid hlt
          generalize (d.toNat : Int) = z at *
          clear hE hEsc
          go_enter Try.func38, Try.ntmps38
          go_wp2_with (go_at_call 36; refine (hG.out (m : Int) _).mono ?_; rintro e w1 ⟨⟨_, rfl, A1, n1, q1, rfl, ho1⟩, hb1⟩; obtain ⟨⟨c0, c1, c2⟩, y0, y1, y2⟩ := hcell.out w1 hb1; have hf := Lib.hid (hfin.out _ _ _ _ w1 ho1 hb1))
          exact bodyPost_ret (results_cell_two Try.results38 _ _ w.heap.size 45 _ (0, 0) _ rfl rfl hf.out.1 Try.underlying45 rfl (prt_size _ _ _)) rfl ⟨⟨_, rfl, _, _, _, rfl, hf.out.2.1⟩, hf.out.2.2⟩
    · have a1 : decide ((48 : Int) ≤ (d.toNat : Int)) = true := decide_eq_true (by omega)
      have a2 : decide ((d.toNat : Int) ≤ 57) = false := decide_eq_false (by omega)
      have b1 : decide ((49 : Int) ≤ (d.toNat : Int)) = true := decide_eq_true (by omega)
      by_cases h4 : d.toNat = 110
      · have b2 : ((d.toNat : Int) == 110) = true := by rw [beq_iff_eq]; omega
        have hE := Lib.hid (show escP d g = some ⟨0, 0, [10]⟩ from by unfold escP; rw [if_neg (by omega), if_neg (by omega), if_pos h4])
        replace h1 := Lib.hid h1
        replace h2 := Lib.hid h2
        replace h4 := Lib.hid h4
        rw [hE.out]
        replace hlt := Lib.hid hlt
        generalize (d.toNat : Int) = z at *
        clear hE hEsc
        go_enter Try.func38, Try.ntmps38
        go_wp2_with (go_at_call 37; refine (hT10.out _).mono ?_; rintro e w1 ⟨⟨_, rfl, A1, n1, q1, rfl, ho1⟩, hb1⟩; obtain ⟨⟨c0, c1, c2⟩, y0, y1, y2⟩ := hcell.out w1 hb1; have hf := Lib.hid (hfin.out _ _ _ _ w1 ho1 hb1))
        exact bodyPost_ret (results_cell_two Try.results38 _ _ w.heap.size 45 _ (0, 0) _ rfl rfl hf.out.1 Try.underlying45 rfl (prt_size _ _ _)) rfl ⟨⟨_, rfl, _, _, _, rfl, hf.out.2.1⟩, hf.out.2.2⟩
      · have b2 : ((d.toNat : Int) == 110) = false := by rw [beq_eq_false_iff_ne]; omega
        have hE := Lib.hid (show escP d g = some ⟨0, 0, [d]⟩ from by unfold escP; rw [if_neg (by omega), if_neg (by omega), if_neg h4])
        replace h1 := Lib.hid h1
        replace h2 := Lib.hid h2
        replace h4 := Lib.hid h4
        rw [hE.out]
        replace hlt := Lib.hid hlt
        generalize (d.toNat : Int) = z at *
        clear hE hEsc
        go_enter Try.func38, Try.ntmps38
        go_wp2_with (go_at_call 37; refine (hT.out _).mono ?_; rintro e w1 ⟨⟨_, rfl, A1, n1, q1, rfl, ho1⟩, hb1⟩; obtain ⟨⟨c0, c1, c2⟩, y0, y1, y2⟩ := hcell.out w1 hb1; have hf := Lib.hid (hfin.out _ _ _ _ w1 ho1 hb1))
        exact bodyPost_ret (results_cell_two Try.results38 _ _ w.heap.size 45 _ (0, 0) _ rfl rfl hf.out.1 Try.underlying45 rfl (prt_size _ _ _)) rfl ⟨⟨_, rfl, _, _, _, rfl, hf.out.2.1⟩, hf.out.2.2⟩
  · have a1 : decide ((48 : Int) ≤ (d.toNat : Int)) = false := decide_eq_false (by omega)
    have b1 : decide ((49 : Int) ≤ (d.toNat : Int)) = false := decide_eq_false (by omega)
    have b2 : ((d.toNat : Int) == 110) = false := by rw [beq_eq_false_iff_ne]; omega
    have hE := Lib.hid (show escP d g = some ⟨0, 0, [d]⟩ from by unfold escP; rw [if_neg (by omega), if_neg (by omega), if_neg (by omega)])
    replace h1 := Lib.hid h1
    rw [hE.out]
    replace hlt := Lib.hid hlt
    generalize (d.toNat : Int) = z at *
    clear hE hEsc
    go_enter Try.func38, Try.ntmps38
    go_wp2_with (go_at_call 37; refine (hT.out _).mono ?_; rintro e w1 ⟨⟨_, rfl, A1, n1, q1, rfl, ho1⟩, hb1⟩; obtain ⟨⟨c0, c1, c2⟩, y0, y1, y2⟩ := hcell.out w1 hb1; have hf := Lib.hid (hfin.out _ _ _ _ w1 ho1 hb1))
    exact bodyPost_ret (results_cell_two Try.results38 _ _ w.heap.size 45 _ (0, 0) _ rfl rfl hf.out.1 Try.underlying45 rfl (prt_size _ _ _)) rfl ⟨⟨_, rfl, _, _, _, rfl, hf.out.2.1⟩, hf.out.2.2⟩
end Go.Proofs.Ytkfdehkembcaoaa
