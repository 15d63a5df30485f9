/- Contract of package match's goesOn: a node, a repetition's time. -/
import Derived.Test.YtbgalmnhhjiagaaM45
import Derived.BigQuiet
set_option linter.unusedVariables false
set_option linter.unusedSimpArgs false
set_option maxRecDepth 100000
namespace Go.Proofs.Ytbgalmnhhjiagaa
open Go.RowKit
section
variable {w w1 w' : World} {B S W : Nat} {An : Option Addr} {nn cn : Nat} {At : Option Addr} {nt ct : Nat} {ns : List Nod} {t : List UInt8} {g : Int} {a left : Nat} {v v' : Value} {xs : List Wt} {b : Option Spn} {pv : Value} {p : Pt} {l r : List Tsk} {tk : Tsk}
set_option maxHeartbeats 16000000 in
theorem goesOn_node (m : Nat) (h : Sta w B S W An nn cn At nt ct ns t g a left v xs b pv p (Tsk.node (m : Int) :: r)) (hwk : WOK ns t g a (Tsk.node (m : Int) :: r, p)) (hT : ∀ (wz : World) (pv' : Value), Sta wz B S W An nn cn At nt ct ns t g a left v xs b pv' p r → Calls Try.prog 40 #[.pointer (some ⟨S, 0, none⟩), .pointer (some ⟨W, 0, none⟩), .int .i64 (m : Int)] wz (GoP wz B S W An nn cn At nt ct ns t g a left v xs b ((nexts ns t (.node (m : Int)) p).map (ahead r)))) :
    Calls Try.prog 36 #[.pointer (some ⟨S, 0, none⟩), .pointer (some ⟨W, 0, none⟩)] w (GoP w B S W An nn cn At nt ct ns t g a left v xs b ((nexts ns t (Tsk.node (m : Int)) p).map (ahead r))) := by
  obtain ⟨cb, k0, n0, u0, q0, pv', rfl, hc, ht, hr⟩ := h.row.head
  obtain ⟨rfl, rfl, rfl, rfl⟩ := ht
  obtain ⟨px, rfl⟩ := hr.ptr
  have ⟨f0, f1, f2, f3, f4⟩ := cell5 hc
  have p21 := h.p21
  have t21 := h.way.thawed 21
  have hWl := h.way.lt
  have hcl := hc.lt
  have hcW : cb ≠ W := hc.apart h.way (by decide)
  have hSl := h.s.held.lt
  have hSW := h.ne
  have hPop := Lib.hid (h.pop' hr 0 (m : Int) 0 0)
  have hC := Lib.hid (hT _ _ hPop.out.st)
  clear h hr hc hwk hT
  generalize (nexts ns t (.node (m : Int)) p).map (ahead r) = L at *
  go_enter Try.func36, Try.ntmps36
  go_wp2_with (go_at_call 40; refine (hC.out).mono ?_; intro e w3 hg; obtain ⟨rb, rfl⟩ := hg.ret; replace hg := Lib.hid (hg.from hPop.out.ch))
  go_ret
  exact hg.out
set_option maxHeartbeats 16000000 in
theorem goesOn_same (n k : Int) (h : Sta w B S W An nn cn At nt ct ns t g a left v xs b pv p (Tsk.times n k p.i :: r)) (hwk : WOK ns t g a (Tsk.times n k p.i :: r, p)) :
    Calls Try.prog 36 #[.pointer (some ⟨S, 0, none⟩), .pointer (some ⟨W, 0, none⟩)] w (GoP w B S W An nn cn At nt ct ns t g a left v xs b ((nexts ns t (Tsk.times n k p.i) p).map (ahead r))) := by
  obtain ⟨cb, k0, n0, u0, q0, pv', rfl, hc, ht, hr⟩ := h.row.head
  obtain ⟨rfl, rfl, rfl, rfl⟩ := ht
  have hnx : (nexts ns t (.times n0 u0 p.i) p).map (ahead r) = if u0 ≤ (ndA ns n0).lo then [(r, p)] else [] := by
    rw [next_same]
    split <;> rfl
  rw [hnx]
  clear hnx
  obtain ⟨⟨n1, n2⟩, _, _, _, _⟩ := hwk.toks _ List.mem_cons_self
  obtain ⟨m, rfl⟩ := Int.eq_ofNat_of_zero_le n1
  have hm : m < ns.length := by omega
  have hmn : m < nn := by have := h.s.thru.nn_; omega
  obtain ⟨ad, bb, oo, rfl, hp, hbb, hrg⟩ := h.s.thru.node' hm
  obtain ⟨px, rfl⟩ := hr.ptr
  have ⟨f0, f1, f2, f3, f4⟩ := cell5 hc
  have p21 := h.p21
  have t21 := h.way.thawed 21
  have hWl := h.way.lt
  have hcl := hc.lt
  have hcW : cb ≠ W := hc.apart h.way (by decide)
  have hSl := h.s.held.lt
  have hSW := h.ne
  have hPop := Lib.hid (h.pop' hr 2 (m : Int) u0 (p.i : Int))
  have hd3 := Lib.hid (fun w' (hb : Below B w w') => (node_cells (range_below hrg hb hbb)).2.1)
  have hlowz := Lib.hid (h.low hPop.out.ch)
  clear h hr hc hwk hrg
  by_cases hle : u0 ≤ (ndA ns (m : Int)).lo
  · rw [if_pos hle]
    have hdle := Lib.hid (show decide (u0 ≤ (ndA ns (m : Int)).lo) = true from decide_eq_true hle)
    replace hle := Lib.hid hle
    go_enter Try.func36, Try.ntmps36
    go_wp2
    clear f0 f1 f2 f3 f4 p21 t21
    generalize (w.setCell ⟨W, 21, none⟩ (.pointer px)).alloc (.cells #[.int .i64 2, .int .i64 (m : Int), .int .i64 u0, .int .i64 (p.i : Int)] 78) = wz at *
    have ⟨k0, k1, k2, k3⟩ := cell4 hPop.out.tk
    have p0 := hPop.out.st.p0
    have c0 := hPop.out.st.c0
    have d3 := hd3.out wz hlowz.out
    have g1 : ((p.i : Int) == (p.i : Int)) = true := by simp
    have hle2 := hdle.out
    have hle3 := hle.out
    go_quiet (fail)
    go_wp2
    go_quiet (fail)
    go_wp2
    go_ret
    exact ((hPop.out.st.stay hPop.out.ch rfl).later (below_drewN (below_drewN (Below.refl _ _) _) _))
  · rw [if_neg hle]
    have hdle := Lib.hid (show decide (u0 ≤ (ndA ns (m : Int)).lo) = false from decide_eq_false hle)
    replace hle := Lib.hid hle
    go_enter Try.func36, Try.ntmps36
    go_wp2
    clear f0 f1 f2 f3 f4 p21 t21
    generalize (w.setCell ⟨W, 21, none⟩ (.pointer px)).alloc (.cells #[.int .i64 2, .int .i64 (m : Int), .int .i64 u0, .int .i64 (p.i : Int)] 78) = wz at *
    have ⟨k0, k1, k2, k3⟩ := cell4 hPop.out.tk
    have p0 := hPop.out.st.p0
    have c0 := hPop.out.st.c0
    have d3 := hd3.out wz hlowz.out
    have g1 : ((p.i : Int) == (p.i : Int)) = true := by simp
    have hle2 := hdle.out
    have hle3 := hle.out
    go_quiet (fail)
    go_wp2
    go_quiet (fail)
    go_wp2
    go_ret
    exact ((hPop.out.st.gone hPop.out.ch rfl).later (below_drewN (below_drewN (Below.refl _ _) _) _))
set_option maxHeartbeats 16000000 in
theorem goesOn_times (n k : Int) (z : Nat) (hz : p.i ≠ z) (h : Sta w B S W An nn cn At nt ct ns t g a left v xs b pv p (Tsk.times n k z :: r)) (hwk : WOK ns t g a (Tsk.times n k z :: r, p)) (hT : ∀ (wz : World) (pv' : Value) (m : Nat), n = (m : Int) → Sta wz B S W An nn cn At nt ct ns t g a left v xs b pv' p r → Calls Try.prog 39 #[.pointer (some ⟨S, 0, none⟩), .pointer (some ⟨W, 0, none⟩), .int .i64 (m : Int), .int .i64 k] wz fun e w' => e = .returned (.tuple #[]) ∧ GoP wz B S W An nn cn At nt ct ns t g a left v xs b (smL ns m k p r) (.returned (.bool true)) w') :
    Calls Try.prog 36 #[.pointer (some ⟨S, 0, none⟩), .pointer (some ⟨W, 0, none⟩)] w (GoP w B S W An nn cn At nt ct ns t g a left v xs b ((nexts ns t (Tsk.times n k z) p).map (ahead r))) := by
  obtain ⟨cb, k0, n0, u0, q0, pv', rfl, hc, ht, hr⟩ := h.row.head
  obtain ⟨rfl, rfl, rfl, rfl⟩ := ht
  obtain ⟨⟨n1, n2⟩, _, _, _, _⟩ := hwk.toks _ List.mem_cons_self
  obtain ⟨m, rfl⟩ := Int.eq_ofNat_of_zero_le n1
  have hnx : (nexts ns t (.times (m : Int) u0 z) p).map (ahead r) = smL ns m u0 p r := by rw [next_on hz]; rfl
  rw [hnx]
  clear hnx
  obtain ⟨px, rfl⟩ := hr.ptr
  have ⟨f0, f1, f2, f3, f4⟩ := cell5 hc
  have p21 := h.p21
  have t21 := h.way.thawed 21
  have hWl := h.way.lt
  have hcl := hc.lt
  have hcW : cb ≠ W := hc.apart h.way (by decide)
  have hSl := h.s.held.lt
  have hSW := h.ne
  have hPop := Lib.hid (h.pop' hr 2 (m : Int) u0 (z : Int))
  have hC := Lib.hid (fun w1 (hb : Below ((w.setCell ⟨W, 21, none⟩ (.pointer px)).alloc (.cells #[.int .i64 2, .int .i64 (m : Int), .int .i64 u0, .int .i64 (z : Int)] 78)).heap.size ((w.setCell ⟨W, 21, none⟩ (.pointer px)).alloc (.cells #[.int .i64 2, .int .i64 (m : Int), .int .i64 u0, .int .i64 (z : Int)] 78)) w1) => And.intro (hT w1 _ m rfl (hPop.out.st.keep hb)) (hPop.out.ch.trans (Chm.of_below hb)))
  have hg := Lib.hid (show ((p.i : Int) == (z : Int)) = false ∧ (p.i == z) = false from ⟨by rw [beq_eq_false_iff_ne]; omega, by rw [beq_eq_false_iff_ne]; omega⟩)
  clear h hr hc hwk hT n2 n1
  replace hz := Lib.hid hz
  generalize smL ns m u0 p r = L at *
  go_enter Try.func36, Try.ntmps36
  go_wp2
  clear f0 f1 f2 f3 f4 p21 t21
  generalize (w.setCell ⟨W, 21, none⟩ (.pointer px)).alloc (.cells #[.int .i64 2, .int .i64 (m : Int), .int .i64 u0, .int .i64 (z : Int)] 78) = wz at *
  have ⟨k0, k1, k2, k3⟩ := cell4 hPop.out.tk
  have p0 := hPop.out.st.p0
  have ⟨g1, g2⟩ := hg.out
  go_quiet (fail)
  go_wp2_with (go_at_call 39; refine ((hC.out _ (below_drewN (Below.refl _ _) _)).1).mono ?_; rintro e w3 ⟨rfl, hgo⟩; replace hgo := Lib.hid (hgo.from (hC.out _ (below_drewN (Below.refl _ _) _)).2))
  go_ret
  exact hgo.out
end
end Go.Proofs.Ytbgalmnhhjiagaa
