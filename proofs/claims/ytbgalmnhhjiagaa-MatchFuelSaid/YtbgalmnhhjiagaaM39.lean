/- Contract of package match's takesNode (a back reference). Contract of package match's soManyTimes, where no more is taken. -/
import Derived.Test.YtbgalmnhhjiagaaM34
import Derived.Test.YtbgalmnhhjiagaaM38
import Derived.Deep.RegionWith
import Derived.Test.YtbgalmnhhjiagaaM33
set_option linter.unusedVariables false
set_option linter.unusedSimpArgs false
set_option maxRecDepth 100000
namespace Go.Proofs.Ytbgalmnhhjiagaa
open Go.RowKit
section
variable {w w1 w' : World} {B S W : Nat} {An : Option Addr} {nn cn : Nat} {At : Option Addr} {nt ct : Nat} {ns : List Nod} {t : List UInt8} {g : Int} {a left : Nat} {v v' : Value} {xs : List Wt} {b : Option Spn} {pv : Value} {p : Pt} {l : List Tsk}
set_option maxHeartbeats 16000000 in
theorem takesNode_6 (m : Nat) (h : Sta w B S W An nn cn At nt ct ns t g a left v xs b pv p l) (hn : m < ns.length) (hk : (ndA ns (m : Int)).kind = 6) (hwk : WOK ns t g a (.node (m : Int) :: l, p)) :
    Calls Try.prog 40 #[.pointer (some ⟨S, 0, none⟩), .pointer (some ⟨W, 0, none⟩), .int .i64 (m : Int)] w (GoP w B S W An nn cn At nt ct ns t g a left v xs b ((nexts ns t (.node (m : Int)) p).map (ahead l))) := by
  have hgr := (h.s.thru.rt.2.2 (m : Int) (by omega) (by omega)).2.2.2.2 (.inr hk)
  have hg9 := h.s.thru.rt.2.1
  obtain ⟨q, hq⟩ : ∃ q : Nat, (ndA ns (m : Int)).grp = (q : Int) := ⟨(ndA ns (m : Int)).grp.toNat, by omega⟩
  have hnx : (nexts ns t (.node (m : Int)) p).map (ahead l) = agL t (p.sp q) p l := by
    unfold agL
    cases hb : backAt t (p.sp q) p.i with
    | none => rw [next_back_no hk (by rw [hq]; exact hb)]; rfl
    | some j => rw [next_back hk (by rw [hq]; exact hb)]; rfl
  rw [hnx]
  clear hnx
  have hmn : m < nn := by have := h.s.thru.nn_; omega
  obtain ⟨ad, bb, oo, rfl, hp, hbb, hr⟩ := h.s.thru.node' hn
  have c0 := h.c0
  have hlow := Lib.hid (fun w' (hb : Below B w w') => node_cells (range_below hr hb hbb))
  have hbase := Lib.hid h.s.thru.base
  have ⟨⟨d0, d1, d2⟩, d3, d4, d5⟩ := node_cells hr
  rw [hk] at d0
  have hh := Lib.hid h
  rw [hq] at d5 hgr
  have hq9 : q < 10 := by omega
  have hT := Lib.hid (fun w1 (hb : Below w.heap.size w w1) => takesAgain_any q (h.keep hb) hwk)
  have hK := Lib.hid (fun w1 (hb : Below w.heap.size w w1) => show w1.cell? ⟨bb, oo + 5, none⟩ = some (.int .i64 (q : Int)) ∧ w1.cell? ⟨W, 1 + q * 2, none⟩ = some (.int .i64 (p.sp q).1) ∧ w1.cell? ⟨W, 1 + q * 2 + 1, none⟩ = some (.int .i64 (p.sp q).2) from by
    have hw := way_range (h.keep hb).way
    refine ⟨?_, ?_, ?_⟩
    · have := (node_cells (range_below hr (hb.mono hbase.out) hbb)).2.2.2; rwa [hq] at this
    · rw [Nat.mul_comm]; exact hw (2 * q) _ (hitL_from p.sp hq9)
    · rw [Nat.mul_comm, Nat.add_assoc]; exact hw (2 * q + 1) _ (hitL_to p.sp hq9))
  have hK0 := Lib.hid (hK.out w (Below.refl _ _))
  have hfrom := Lib.hid (fun w1 w2 e (hb : Below w.heap.size w w1) (hg : GoP w1 B S W (some ad) nn cn At nt ct ns t g a left v xs b (agL t (p.sp q) p l) e w2) => hg.from (Chm.of_below hb))
  have q0 : (0 : Int) ≤ (q : Int) := by omega
  have q10 : (q : Int) < 10 := by omega
  clear h hr hwk hlow hgr hg9
  generalize hx1 : (p.sp q).1 = x1 at *
  generalize hx2 : (p.sp q).2 = x2 at *
  replace hx1 := Lib.hid hx1
  replace hx2 := Lib.hid hx2
  generalize agL t (p.sp q) p l = L at *
  have ⟨k5, k1, k2⟩ := hK0.out
  go_enter Try.func40, Try.ntmps40
  go_wp2
  go_region_with (first
    | (go_at_call 43; refine (hT.out _ ((Below.refl _ _).drew)).mono ?_; intro e w3 hg; obtain ⟨r, rfl⟩ := hg.ret; replace hg := Lib.hid (hfrom.out _ _ _ ((Below.refl _ _).drew) hg)))
  all_goals
    go_wp2
    go_ret
    exact hg.out
end
end Go.Proofs.Ytbgalmnhhjiagaa

set_option linter.unusedVariables false
set_option linter.unusedSimpArgs false
set_option maxRecDepth 100000
namespace Go.Proofs.Ytbgalmnhhjiagaa
open Go.RowKit

section
variable {w w1 w' : World} {B S W : Nat} {An : Option Addr} {nn cn : Nat} {At : Option Addr} {nt ct : Nat} {ns : List Nod} {t : List UInt8} {g : Int} {a left : Nat} {v v' : Value} {xs : List Wt} {b : Option Spn} {pv : Value} {p : Pt} {l : List Tsk}
set_option maxHeartbeats 16000000 in
theorem soMany_off (m : Nat) (k : Int) (h : Sta w B S W An nn cn At nt ct ns t g a left v xs b pv p l) (hn : m < ns.length) (h4 : (ndA ns (m : Int)).kind = 4) (hk : 0 ≤ k ∧ k ≤ 2000000) (hi : p.i ≤ t.length) (hlt : ¬ k < (ndA ns (m : Int)).lo) (hof : ¬ ((ndA ns (m : Int)).hi = -1 ∨ k < (ndA ns (m : Int)).hi)) :
    Calls Try.prog 39 #[.pointer (some ⟨S, 0, none⟩), .pointer (some ⟨W, 0, none⟩), .int .i64 (m : Int), .int .i64 k] w fun e w' => e = .returned (.tuple #[]) ∧ GoP w B S W An nn cn At nt ct ns t g a left v xs b (smL ns m k p l) (.returned (.bool true)) w' := by
  have hrt := h.s.thru.rt.2.2 (m : Int) (by omega) (by omega)
  have hL : smL ns m k p l = [(l, p)] := by
    unfold smL
    rw [if_neg hof, if_pos (by omega)]
    rfl
  rw [hL]
  have hmn : m < nn := by have := h.s.thru.nn_; omega
  obtain ⟨ad, bb, oo, rfl, hp, hbb, hr⟩ := h.s.thru.node' hn
  have c0 := h.c0
  have hw1 : IntKind.i64.wrap (k + 1) = k + 1 := IntWalk.i64_in _ (by omega)
  have hptr := h.row.ptr
  have hOne := Lib.hid (way_cells (p := p) hptr)
  have hway := Lib.hid h.way
  have hbx := Lib.hid (below_row ((Below.refl w.heap.size w).alloc (Nat.le_refl _) (.cells (wayC ⟨0, sp00⟩ (.pointer none)) 75)) (Nat.le_refl _) (wayC p pv))
  have hOx := Lib.hid ((held_new w 75 (wayC ⟨0, sp00⟩ (.pointer none))).row (wayC p pv))
  have hcp := Lib.hid (h.copy hbx.out hOx.out (Nat.le_refl _))
  have hSx := Lib.hid (h.keep hbx.out)
  have hP1 := Lib.hid (mput_any w.heap.size p pv 2 (m : Int) (k + 1) (p.i : Int) _ hOx.out hptr)
  have hP2 := Lib.hid (fun (w2 : World) (pv2 : Value) (hO : Held w2 w.heap.size 75 (wayC p pv2)) (hq : PtrV pv2) => mput_any w.heap.size p pv2 0 (ndA ns (m : Int)).a 0 0 w2 hO hq)
  have hlow := Lib.hid (fun w' (hb : Below B w w') => And.intro (node_cells (range_below hr hb hbb)) hb)
  have ⟨⟨d0, d1, d2⟩, d3, d4, d5⟩ := node_cells hr
  rw [show wayC ⟨0, sp00⟩ (.pointer none) = #[.int .i64 0, .int .i64 0, .int .i64 0, .int .i64 0, .int .i64 0, .int .i64 0, .int .i64 0, .int .i64 0, .int .i64 0, .int .i64 0, .int .i64 0, .int .i64 0, .int .i64 0, .int .i64 0, .int .i64 0, .int .i64 0, .int .i64 0, .int .i64 0, .int .i64 0, .int .i64 0, .int .i64 0, .pointer none] from rfl] at hbx hOx hcp hSx hP1
  have hd1 : ¬ k < (ndA ns (m : Int)).hi := fun e => hof (.inr e)
  have hd2 : ((ndA ns (m : Int)).hi == -1) = false := by rw [beq_eq_false_iff_ne]; exact fun e => hof (.inl e)
  have hsz := Lib.hid (way_hold p pv)
  have hnull := Lib.hid (held_new w 75 (wayC ⟨0, sp00⟩ (.pointer none)))
  have hp0 := Lib.hid (fun w' (hs : Sta w' B S W (some ad) nn cn At nt ct ns t g a left v xs b pv p l) => And.intro hs.p0 hs.c0)
  have hh := Lib.hid h
  have hbase := Lib.hid h.s.thru.base
  clear h hrt hL hr hptr hof
  generalize hC : wayC p pv = C at *
  go_enter Try.func39, Try.ntmps39
  go_wp2_with (first
    | (refine wpList_load_row rfl 75 (.tmp 17) rfl W rfl 75 _ (0, 0) _ hway.out Try.underlying75 rfl (by rw [hsz.out]; exact way_size22) ?_)
    | (refine wpList_store_row rfl 75 (.tmp 9) (.tmp 18) rfl w.heap.size C rfl rfl 75 _ hnull.out (by rw [hsz.out]; exact way_size22) (by rw [hsz.out]; rfl) hOne.out ?_; generalize hwx : (w.alloc (.cells #[.int .i64 0, .int .i64 0, .int .i64 0, .int .i64 0, .int .i64 0, .int .i64 0, .int .i64 0, .int .i64 0, .int .i64 0, .int .i64 0, .int .i64 0, .int .i64 0, .int .i64 0, .int .i64 0, .int .i64 0, .int .i64 0, .int .i64 0, .int .i64 0, .int .i64 0, .int .i64 0, .int .i64 0, .pointer none] 75)).setRow w.heap.size C = wx at *; clear hnull hwx; have p0x := (hp0.out _ hSx.out).1)
    | (have _h := hO2; go_at_call 24; refine (hP2.out w2 pv2 hO2.out.way hO2.out.row.ptr).mono ?_; intro e w3 hm; obtain ⟨rfl, hg3, pv3, hO3'⟩ := hO2.out.put (tk := .node (ndA ns (m : Int)).a) ⟨rfl, rfl, rfl, rfl⟩ hm; have hO3 := Lib.hid hO3'; have hB3 := Lib.hid (hB2.out.grown hg3 hB2.out.size (fun k e => by rw [← Option.some.inj e]; exact Nat.le_refl _)); have ⟨⟨_, _, _⟩, e3, e4, _⟩ := (hlow.out w3 (hB3.out.mono hbase.out)).1; clear hO3' hm hg3 hP2)
    | (go_at_call 24; refine (hP1.out).mono ?_; intro e w2 hm; obtain ⟨rfl, hg2, pv2, hO2'⟩ := hcp.out.1.put (tk := .times (m : Int) (k + 1) p.i) ⟨rfl, rfl, rfl, rfl⟩ hm; have hO2 := Lib.hid hO2'; have hB2 := Lib.hid (hbx.out.grown hg2 hbx.out.size (fun k e => by rw [← Option.some.inj e]; exact Nat.le_refl _)); have ⟨⟨_, e1, _⟩, _, _, _⟩ := (hlow.out w2 (hB2.out.mono hbase.out)).1; clear hO2' hm hg2))
  go_end0
  exact ⟨rfl, (hh.out.keep hB3.out).stay (Chm.of_below hB3.out) rfl⟩
end
end Go.Proofs.Ytbgalmnhhjiagaa
