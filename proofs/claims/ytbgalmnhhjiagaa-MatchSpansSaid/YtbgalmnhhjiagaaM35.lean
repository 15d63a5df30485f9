/- Contract of package match's takesNode (a concatenation, a group). -/
import Derived.Test.YtbgalmnhhjiagaaM34
set_option linter.unusedVariables false
set_option linter.unusedSimpArgs false
set_option maxRecDepth 100000
namespace Go.Proofs.Ytbgalmnhhjiagaa
open Go.RowKit
section
variable {w w1 w' : World} {B S W : Nat} {An : Option Addr} {nn cn : Nat} {At : Option Addr} {nt ct : Nat} {ns : List Nod} {t : List UInt8} {g : Int} {a left : Nat} {v v' : Value} {xs : List Wt} {b : Option Spn} {pv : Value} {p : Pt} {l : List Tsk}
set_option maxHeartbeats 16000000 in
theorem takesNode_2 (m : Nat) (h : Sta w B S W An nn cn At nt ct ns t g a left v xs b pv p l) (hn : m < ns.length) (hk : (ndA ns (m : Int)).kind = 2) (hwk : WOK ns t g a (.node (m : Int) :: l, p)) :
    Calls Try.prog 40 #[.pointer (some ⟨S, 0, none⟩), .pointer (some ⟨W, 0, none⟩), .int .i64 (m : Int)] w (GoP w B S W An nn cn At nt ct ns t g a left v xs b ((nexts ns t (.node (m : Int)) p).map (ahead l))) := by
  rw [next_cat hk]
  have hmn : m < nn := by have := h.s.thru.nn_; omega
  obtain ⟨ad, bb, oo, rfl, hp, hbb, hr⟩ := h.s.thru.node' hn
  have c0 := h.c0
  have hlow := Lib.hid (fun w' (hb : Below B w w') => node_cells (range_below hr hb hbb))
  have hbase := Lib.hid h.s.thru.base
  have ⟨⟨d0, d1, d2⟩, d3, d4, d5⟩ := node_cells hr
  rw [hk] at d0
  have hh := Lib.hid h
  have p0 := h.p0
  have hP1 := Lib.hid (mput_any W p pv 0 (ndA ns (m : Int)).b 0 0 w h.way h.row.ptr)
  have hP2 := Lib.hid (fun (w2 : World) (pv2 : Value) (hO : Held w2 W 75 (wayC p pv2)) (hq : PtrV pv2) => mput_any W p pv2 0 (ndA ns (m : Int)).a 0 0 w2 hO hq)
  clear h hr hwk
  go_enter Try.func40, Try.ntmps40
  go_wp2_with (first
    | (have _h := hS2; go_at_call 24; refine (hP2.out w2 pv2 hS2.out.way hS2.out.row.ptr).mono ?_; intro e w3 hm; obtain ⟨rfl, pv3, hS3', hc3⟩ := hS2.out.put (tk := .node (ndA ns (m : Int)).a) ⟨rfl, rfl, rfl, rfl⟩ hm; have hS3 := Lib.hid hS3'; replace hc3 := Lib.hid (hc2.out.trans hc3); clear hS3' hm)
    | (go_at_call 24; refine (hP1.out).mono ?_; intro e w2 hm; obtain ⟨rfl, pv2, hS2', hc2⟩ := hh.out.put (tk := .node (ndA ns (m : Int)).b) ⟨rfl, rfl, rfl, rfl⟩ hm; have hS2 := Lib.hid hS2'; have hB2 := hh.out.low hc2; replace hc2 := Lib.hid hc2; have ⟨⟨_, e1, e2⟩, _, _, _⟩ := hlow.out w2 hB2; clear hS2' hm hB2))
  go_ret
  exact hS3.out.stay hc3.out rfl
set_option maxHeartbeats 16000000 in
theorem takesNode_5 (m : Nat) (h : Sta w B S W An nn cn At nt ct ns t g a left v xs b pv p l) (hn : m < ns.length) (hk : (ndA ns (m : Int)).kind = 5) (hwk : WOK ns t g a (.node (m : Int) :: l, p)) :
    Calls Try.prog 40 #[.pointer (some ⟨S, 0, none⟩), .pointer (some ⟨W, 0, none⟩), .int .i64 (m : Int)] w (GoP w B S W An nn cn At nt ct ns t g a left v xs b ((nexts ns t (.node (m : Int)) p).map (ahead l))) := by
  rw [next_grp hk]
  have hmn : m < nn := by have := h.s.thru.nn_; omega
  obtain ⟨ad, bb, oo, rfl, hp, hbb, hr⟩ := h.s.thru.node' hn
  have c0 := h.c0
  have hlow := Lib.hid (fun w' (hb : Below B w w') => node_cells (range_below hr hb hbb))
  have hbase := Lib.hid h.s.thru.base
  have ⟨⟨d0, d1, d2⟩, d3, d4, d5⟩ := node_cells hr
  rw [hk] at d0
  have hh := Lib.hid h
  have p0 := h.p0
  have hP1 := Lib.hid (mput_any W p pv 1 (m : Int) 0 (p.i : Int) w h.way h.row.ptr)
  have hP2 := Lib.hid (fun (w2 : World) (pv2 : Value) (hO : Held w2 W 75 (wayC p pv2)) (hq : PtrV pv2) => mput_any W p pv2 0 (ndA ns (m : Int)).a 0 0 w2 hO hq)
  clear h hr hwk
  go_enter Try.func40, Try.ntmps40
  go_wp2_with (first
    | (have _h := hS2; go_at_call 24; refine (hP2.out w2 pv2 hS2.out.way hS2.out.row.ptr).mono ?_; intro e w3 hm; obtain ⟨rfl, pv3, hS3', hc3⟩ := hS2.out.put (tk := .node (ndA ns (m : Int)).a) ⟨rfl, rfl, rfl, rfl⟩ hm; have hS3 := Lib.hid hS3'; replace hc3 := Lib.hid (hc2.out.trans hc3); clear hS3' hm)
    | (go_at_call 24; refine (hP1.out).mono ?_; intro e w2 hm; obtain ⟨rfl, pv2, hS2', hc2⟩ := hh.out.put (tk := .gend (ndA ns (m : Int)).grp p.i) ⟨rfl, ⟨by omega, by omega⟩, rfl, rfl, rfl⟩ hm; have hS2 := Lib.hid hS2'; have hB2 := hh.out.low hc2; replace hc2 := Lib.hid hc2; have ⟨⟨_, e1, e2⟩, _, _, _⟩ := hlow.out w2 hB2; clear hS2' hm hB2))
  go_ret
  exact hS3.out.stay hc3.out rfl
end
end Go.Proofs.Ytbgalmnhhjiagaa
