/- The contract of the law's awake: the document's example. -/
import Derived.Test.YtkfdehkembcaoaaSwpU
import Derived.Test.YtkfdehkembcaoaaSwpE
import Derived.Lib.ConvBytes
import Derived.Lib.SlBytesConst
import Derived.Deep.CutRange
set_option linter.unusedVariables false
set_option linter.unusedSimpArgs false
set_option maxRecDepth 100000
namespace Go.Proofs.Ytkfdehkembcaoaa
open Go.RowKit

theorem sw_conv {w : World} {B : Nat} {A : Option Addr} {l : List UInt8} {n c : Nat} (h : Byt w B A l) (hn : n = l.length) (h0 : l ≠ []) :
    (convert 26 9 (.slice A n c)).run Try.prog w = .ok (.string ⟨l.toArray⟩) w := by
  subst hn
  have hl : 0 < l.length := List.length_pos_iff.2 h0
  obtain ⟨ad, rfl, _, _⟩ := h.at_ hl
  exact run_convert_bytes_back (P := Try.prog) w 26 9 5 ad c l Try.underlying26 Try.underlying5 Try.underlying9 (fun j hj => by
    obtain ⟨ad', he, _, hc⟩ := h.at_ hj
    obtain rfl := Option.some.inj he
    exact hc)
def exL13 : List Prt := [⟨0, 0, [91]⟩, ⟨1, 0, []⟩, ⟨1, 1, []⟩, ⟨0, 0, [93]⟩]
def exS13 : Spn := setSp (setSp sp00 0 (0, 2)) 1 (1, 2)
theorem sw_hit_size : (Try.prog.info? 38).map (·.size) = some 20 := by kernel_rfl
theorem sw_build_hit0 (w : World) : (Instr.build 38 #[]).run Try.prog w = .ok (.agg (hitC sp00)) w := run_build w _ _ _ (by kernel_rfl)
theorem wpList_sw_hit0 {ops : Array Oper} {rest : List Oper} {o : Oper} {a : Act} {w : World} {Q : Exit → Act → World → Prop} (hw : Region.wanted o (yielded ops a.tmps) = true) (ho : o.op = .build 38 #[]) (C : Array Value) (hC : hitC sp00 = C)
    (h : wpList Try.prog ops Q rest (a.put o.dst (.agg C)) w) : wpList Try.prog ops Q (o :: rest) a w :=
  wpList_step fun K hK => by
    subst hC
    simp only [hw, if_true]
    unfold Oper.wp execOp
    simp only [ho, Sem.run_bind, List.map_toArray, List.map_nil, sw_build_hit0, Result.andThen_ok]
    exact hK _ _ h
theorem wpList_sw_load {ops : Array Oper} {rest : List Oper} {o : Oper} {a : Act} {w : World} {Q : Exit → Act → World → Prop} (hw : Region.wanted o (yielded ops a.tmps) = true) (x : Operand) (ho : o.op = .load 38 x) (H : Nat) (hx : a.eval x = .pointer (some ⟨H, 0, none⟩)) (C : Array Value) (hs : C.size = 20) (hh : Held w H 38 C)
    (h : wpList Try.prog ops Q rest (a.put o.dst (.agg C)) w) : wpList Try.prog ops Q (o :: rest) a w :=
  wpList_step fun K hK => by
    simp only [hw, if_true]
    exact wp_load_mid 38 x ho H 0 hx C.toList _ hh.range Try.underlying38 rfl (by rw [Array.length_toList, hs]; exact sw_hit_size) (hK _ _ h)
theorem ex_exp13 : expL [97, 98] exS13 exL13 = [91, 97, 98, 98, 93] := by rfl
theorem ex_parse13 (w : World) : Calls Try.prog 11 #[.slice (some ⟨w.heap.size, 0, none⟩) 5 5, .int .i64 1] (w.alloc (.cells #[.int .u8 91, .int .u8 38, .int .u8 92, .int .u8 49, .int .u8 93] 5 (5, 6))) fun e w' =>
    (∃ A c, e = .returned (.tuple #[.slice A 4 c, .int .i64 0, .int .i64 0]) ∧ 4 ≤ c ∧ c ≤ maxLen ∧ Prts w' w'.heap.size A exL13) ∧ Below w.heap.size w w' := by
  have hb := (Below.refl w.heap.size w).alloc (Nat.le_refl _) (.cells #[.int .u8 91, .int .u8 38, .int .u8 92, .int .u8 49, .int .u8 93] 5 (5, 6))
  refine (parse_any (some ⟨w.heap.size, 0, none⟩) 5 5 [91, 38, 92, 49, 93] (w.heap.size + 1) 1 _ rfl (Nat.le_refl _) (by decide) (by simp) (byt_new w [91, 38, 92, 49, 93] 5 (5, 6)) (by decide)).mono ?_
  rintro e w' ⟨h1, h2⟩
  rw [prs_example] at h1
  obtain ⟨v, rfl, hi, J, hJ⟩ := h1
  obtain ⟨A, c, rfl, k1, k2, k3⟩ := hJ.prts
  exact ⟨⟨A, c, rfl, k1, k2, k3⟩, hb.trans (h2.mono (by simp))⟩
theorem ex_expand13 (w : World) (A : Option Addr) (c : Nat) (h4 : 4 ≤ c) (hc : c ≤ maxLen) (hl : Prts w w.heap.size A exL13) : Calls Try.prog 15 #[.slice A 4 c, .slice (some ⟨w.heap.size, 0, none⟩) 2 2, .agg (hitC exS13)] (w.alloc (.cells #[.int .u8 97, .int .u8 98] 5 (2, 3))) fun e w' =>
    (∃ A' c', e = .returned (.slice A' 5 c') ∧ Byt w' w'.heap.size A' [91, 97, 98, 98, 93]) ∧ Below w.heap.size w w' := by
  have hb := (Below.refl w.heap.size w).alloc (Nat.le_refl _) (.cells #[.int .u8 97, .int .u8 98] 5 (2, 3))
  refine (expand_any (B := w.heap.size + 1) (l := exL13) (t := [97, 98]) (s := exS13) ⟨rfl, h4, hc, (hl.below hb).more (Nat.le_succ _), rfl, by decide, by decide, byt_new w [97, 98] 5 (2, 3), by simp⟩ (by rw [ex_exp13]; decide)).mono ?_
  rintro e w' ⟨⟨v, rfl, hv⟩, h2⟩
  rw [ex_exp13] at hv
  obtain ⟨A', c', rfl, k1, -, -, k2⟩ := own_byt hv
  exact ⟨⟨A', c', rfl, k2⟩, hb.trans (h2.mono (by simp))⟩
set_option maxHeartbeats 4000000 in
theorem awake13_any (w : World) : Calls Try.prog 9 #[] w fun e w' => e = .returned (.bool true) ∧ Below w.heap.size w w' := by
  have hP := Lib.hid (ex_parse13 w)
  have hE := Lib.hid (fun (w1 : World) (A : Option Addr) (c : Nat) h4 hc hl => ex_expand13 w1 A c h4 hc hl)
  have kc := fun (w : World) (C : Array Value) (n c : Nat) => Lib.run_convert_bytes_const (P := Try.prog) w 26 5 C n c Try.underlying26 Try.underlying5
  go_enter Try.func9, Try.ntmps9
  generalize hC0 : hitC sp00 = C0
  replace hC0 := Lib.hid hC0
  have hs0 := Lib.hid (show C0.size = 20 from by rw [← hC0.out]; rfl)
  have ho0 := Lib.hid (show C0.all (·.oneCell') = true from by rw [← hC0.out]; exact hit_cells _)
  have hnull := Lib.hid (fun (w1 : World) => held_new w1 38 #[.int .i64 0, .int .i64 0, .int .i64 0, .int .i64 0, .int .i64 0, .int .i64 0, .int .i64 0, .int .i64 0, .int .i64 0, .int .i64 0, .int .i64 0, .int .i64 0, .int .i64 0, .int .i64 0, .int .i64 0, .int .i64 0, .int .i64 0, .int .i64 0, .int .i64 0, .int .i64 0])
  go_upto_region 3 with (first
    | (go_at_call 11; refine (hP.out).mono ?_; rintro e w1 ⟨⟨A, c, rfl, h4, hc, hl⟩, hb1⟩; have hlh := Lib.hid (And.intro h4 (And.intro hc hl)); have hb1h := Lib.hid hb1; clear h4 hc hl hb1)
    | (refine wpList_sw_hit0 (by rfl) rfl C0 hC0.out ?_)
    | (refine wpList_store_row rfl 38 (.tmp 4) (.tmp 12) rfl w1.heap.size C0 rfl rfl 38 _ (hnull.out w1) (by rw [hs0.out]; exact sw_hit_size) (by rw [hs0.out]; rfl) ho0.out ?_))
  have hK2 := Lib.hid ((hnull.out w1).row C0)
  have hb2 := Lib.hid (below_row ((Below.refl w1.heap.size w1).alloc (Nat.le_refl _) (.cells #[.int .i64 0, .int .i64 0, .int .i64 0, .int .i64 0, .int .i64 0, .int .i64 0, .int .i64 0, .int .i64 0, .int .i64 0, .int .i64 0, .int .i64 0, .int .i64 0, .int .i64 0, .int .i64 0, .int .i64 0, .int .i64 0, .int .i64 0, .int .i64 0, .int .i64 0, .int .i64 0] 38)) (Nat.le_refl _) C0)
  generalize (w1.alloc (.cells #[.int .i64 0, .int .i64 0, .int .i64 0, .int .i64 0, .int .i64 0, .int .i64 0, .int .i64 0, .int .i64 0, .int .i64 0, .int .i64 0, .int .i64 0, .int .i64 0, .int .i64 0, .int .i64 0, .int .i64 0, .int .i64 0, .int .i64 0, .int .i64 0, .int .i64 0, .int .i64 0] 38)).setRow w1.heap.size C0 = w2 at *
  have hbA := Lib.hid (hb1h.out.trans (hb2.out.mono hb1h.out.size))
  have hlA := Lib.hid (hlh.out.2.2.below hb2.out)
  rw [← hC0.out] at hK2
  have hwn := Lib.hid (show w.heap.size ≤ w1.heap.size from hb1h.out.size)
  generalize hKK : w1.heap.size = K at *
  have ⟨z0, z1⟩ : w2.cell? ⟨K, 0, none⟩ = some (.int .i64 0) ∧ w2.cell? ⟨K, 1, none⟩ = some (.int .i64 0) := span_there hK2.out (k := 0) (by decide)
  have y0 := hK2.out.thawed 0
  have y1 := hK2.out.thawed 1
  have hK3 := Lib.hid (show Held ((w2.setCell ⟨K, 0, none⟩ (.int .i64 0)).setCell ⟨K, 1, none⟩ (.int .i64 2)) K 38 (hitC (setSp sp00 0 (0, 2))) from hK2.out.span (k := 0) (by decide) (0, 2))
  have hb3 := Lib.hid (show Below K w2 ((w2.setCell ⟨K, 0, none⟩ (.int .i64 0)).setCell ⟨K, 1, none⟩ (.int .i64 2)) from ((Below.refl K w2).setCell (p := ⟨K, 0, none⟩) (Nat.le_refl _) _).setCell (p := ⟨K, 1, none⟩) (Nat.le_refl _) _)
  go_upto_region 4 with fail
  generalize (w2.setCell ⟨K, 0, none⟩ (.int .i64 0)).setCell ⟨K, 1, none⟩ (.int .i64 2) = w3 at *
  clear z0 z1 y0 y1
  have ⟨z2, z3⟩ : w3.cell? ⟨K, 2, none⟩ = some (.int .i64 0) ∧ w3.cell? ⟨K, 3, none⟩ = some (.int .i64 0) := span_there hK3.out (k := 1) (by decide)
  have y2 := hK3.out.thawed 2
  have y3 := hK3.out.thawed 3
  have hK4 := Lib.hid (show Held ((w3.setCell ⟨K, 2, none⟩ (.int .i64 1)).setCell ⟨K, 3, none⟩ (.int .i64 2)) K 38 (hitC exS13) from hK3.out.span (k := 1) (by decide) (1, 2))
  have hb4 := Lib.hid (show Below K w2 ((w3.setCell ⟨K, 2, none⟩ (.int .i64 1)).setCell ⟨K, 3, none⟩ (.int .i64 2)) from (hb3.out.setCell (p := ⟨K, 2, none⟩) (Nat.le_refl _) _).setCell (p := ⟨K, 3, none⟩) (Nat.le_refl _) _)
  go_upto_region 5 with fail
  generalize (w3.setCell ⟨K, 2, none⟩ (.int .i64 1)).setCell ⟨K, 3, none⟩ (.int .i64 2) = w4 at *
  clear z2 z3 y2 y3
  have hbB := Lib.hid (hbA.out.trans (hb4.out.mono hwn.out))
  have hlB := Lib.hid (hlA.out.below hb4.out)
  have hKlt := Lib.hid hK4.out.lt
  have hEx := Lib.hid (hE.out w4 A c hlh.out.1 hlh.out.2.1 (hlB.out.more (Nat.le_of_lt hKlt.out)))
  have hs1 := Lib.hid (hitC_size exS13)
  have hK5 := Lib.hid (hK4.out.alloc (.cells #[.int .u8 97, .int .u8 98] 5 (2, 3)))
  generalize hitC exS13 = C1 at *
  clear hP hE hnull hK2 hK3
  go_wp2_with (first
    | (refine wpList_sw_load (by rfl) (.tmp 4) rfl K rfl C1 hs1.out hK5.out ?_)
    | (go_at_call 15; refine (hEx.out).mono ?_; rintro e w5 ⟨⟨A5, c5, rfl, hB5⟩, hb5⟩; have hcv := sw_conv (n := 5) (c := c5) hB5 rfl (by simp); have hb5h := Lib.hid hb5; clear hb5))
  go_ret
  exact ⟨rfl, hbB.out.trans (hb5h.out.mono hbB.out.size)⟩
end Go.Proofs.Ytkfdehkembcaoaa
