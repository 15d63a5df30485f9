/- A way is put behind those that wait: the steps of the region, whatever order it draws. -/
import Derived.Test.YtbgalmnhhjiagaaM33
import Derived.Deep.AppendLies
import Derived.Deep.RegionLaw
import Derived.Great.BuildSlice
set_option linter.unusedVariables false
set_option maxRecDepth 100000
namespace Go.Proofs.Ytbgalmnhhjiagaa
open Go.RowKit
theorem way_infoz : (Try.prog.info? 75).map (fun i => (i.zero, i.size, i.bytes)) = some (some (.agg #[.int .i64 0, .int .i64 0, .int .i64 0, .int .i64 0, .int .i64 0, .int .i64 0, .int .i64 0, .int .i64 0, .int .i64 0, .int .i64 0, .int .i64 0, .int .i64 0, .int .i64 0, .int .i64 0, .int .i64 0, .int .i64 0, .int .i64 0, .int .i64 0, .int .i64 0, .int .i64 0, .int .i64 0, .pointer none]), 22, 176) := by kernel_rfl
theorem step_load_way {ops : Array Oper} {o : Oper} {a : Act} {w : World} {K : Act → World → Prop} {Q : Exit → Act → World → Prop} {E : Prop} (x : Operand) (hgd : o.guard = none) (ho : o.op = .load 75 x) (O : Nat) (hx : a.eval x = .pointer (some ⟨O, 0, none⟩)) (C : Array Value) (hs : C.size = 22) (hh : Held w O 75 C)
    (h : K (a.put o.dst (.agg C)) w) : if Region.wanted o (yielded ops a.tmps) = true then Oper.wp Try.prog o a w K Q else E := by
  have hw : Region.wanted o (yielded ops a.tmps) = true := by simp [Region.wanted, hgd]
  rw [if_pos hw]
  exact wp_load_mid 75 x ho O 0 hx C.toList _ hh.range Try.underlying75 rfl (by rw [Array.length_toList, hs]; exact way_size22) h
theorem fill_way (p : Pt) (pv : Value) : Instr.fill (fun i => some (i * 22, 22)) ((Array.range (1 * 22)).map ((Value.agg #[.int .i64 0, .int .i64 0, .int .i64 0, .int .i64 0, .int .i64 0, .int .i64 0, .int .i64 0, .int .i64 0, .int .i64 0, .int .i64 0, .int .i64 0, .int .i64 0, .int .i64 0, .int .i64 0, .int .i64 0, .int .i64 0, .int .i64 0, .int .i64 0, .int .i64 0, .int .i64 0, .int .i64 0, .pointer none]).cells[· % 22]!)) [(0, .agg (wayC p pv))] = some (wayC p pv) := by kernel_rfl
theorem step_build_way {ops : Array Oper} {o : Oper} {a : Act} {w : World} {K : Act → World → Prop} {Q : Exit → Act → World → Prop} {E : Prop} (x : Operand) (hgd : o.guard = none) (ho : o.op = .buildSlice 50 1 #[(0, x)]) (C : Array Value) (hx : a.eval x = .agg C) (hs : ∃ p pv, C = wayC p pv)
    (h : K (a.put o.dst (.slice (some ⟨w.heap.size, 0, none⟩) 1 1)) (w.alloc (.cells C 75))) : if Region.wanted o (yielded ops a.tmps) = true then Oper.wp Try.prog o a w K Q else E := by
  have hw : Region.wanted o (yielded ops a.tmps) = true := by simp [Region.wanted, hgd]
  rw [if_pos hw]
  obtain ⟨p, pv, rfl⟩ := hs
  obtain ⟨i0, hi0, hq0, hq1, hq2⟩ := info_parts way_infoz
  refine wp_buildSlice 50 75 1 #[(0, x)] ho (wayC p pv) i0 _ Try.underlying50 hi0 hq0 (by rw [hq1]; decide) (by rw [hq1]; decide) ?_ h
  rw [hq1]
  simp only [List.map_toArray, List.map_cons, List.map_nil, hx]
  exact fill_way p pv
theorem new_list (w : World) (C : Array Value) (T : TypeId) : ∀ j u, C.toList[j]? = some u → (w.drew.alloc (.cells C T)).cell? ((⟨w.heap.size, 0, none⟩ : Addr).add j) = some u := fun j u hj => by
  have := new_cells w.drew C.toList T j u hj
  rwa [Array.toArray_toList] at this
section
variable {w w1 w3 w' : World} {B S W : Nat} {An : Option Addr} {nn cn : Nat} {At : Option Addr} {nt ct : Nat} {ns : List Nod} {t : List UInt8} {g : Int} {a left : Nat} {v v' : Value} {xs : List Wt} {b : Option Spn} {pv : Value} {p : Pt} {l : List Tsk}
theorem wayC_list (p : Pt) (pv : Value) : (wayC p pv).toList = wayL p pv := by unfold wayC; rw [List.toList_toArray]
/-- What the region leaves, and what it asks. -/
theorem Sta.pushed (h3 : Sta w3 B S W An nn cn At nt ct ns t g a left v xs b pv p l) {O : Nat} {pv2 : Value} {p2 : Pt} {l2 : List Tsk} (hO : Ow w3 B ns O pv2 p2 l2) (hf : xs.length + 1 + left ≤ 1000001) :
    ((w3.drew.alloc (.cells (wayC p2 pv2) 75)).ownsRow B 75 22 v xs.length (wtsL xs) ∧ B ≤ (w3.drew.alloc (.cells (wayC p2 pv2) 75)).heap.size) ∧
    ∀ (g6 c6 : Nat) (w6 : World), w6.ownsRow B 75 22 (.slice (some ⟨g6, 0, none⟩) (xs.length + 1) c6) (xs.length + 1) (wtsL xs ++ (wayC p2 pv2).toList) → (w3.drew.alloc (.cells (wayC p2 pv2) 75)).grownBy w6 v.ownBlock → (v.ownBlock = some g6 ∨ g6 = w3.heap.size + 1) →
      (w6.cell? ⟨S, 4, none⟩ = some v ∧ w6.frozen? ⟨S, 4, none⟩ = false) ∧ Sta (w6.setCell ⟨S, 4, none⟩ (.slice (some ⟨g6, 0, none⟩) (xs.length + 1) c6)) B S W An nn cn At nt ct ns t g a left (.slice (some ⟨g6, 0, none⟩) (xs.length + 1) c6) (xs ++ [(pv2, p2, l2)]) b pv p l ∧ Chm w3 (w6.setCell ⟨S, 4, none⟩ (.slice (some ⟨g6, 0, none⟩) (xs.length + 1) c6)) S W v (.slice (some ⟨g6, 0, none⟩) (xs.length + 1) c6) := by
  have hbA : Below w3.heap.size w3 (w3.drew.alloc (.cells (wayC p2 pv2) 75)) := ((Below.refl _ _).drew).alloc (Nat.le_refl _) _
  have hSA := h3.keep hbA
  have hOA := hO.keep hbA
  refine ⟨⟨hSA.s.own, hSA.s.thru.base⟩, fun g6 c6 w6 hw hg hv => ?_⟩
  have hSh := hSA.s.held.grown hg (fun e => hSA.s.held.not_own hSA.s.own (by decide) e.symm)
  rw [wayC_list] at hw
  obtain ⟨q1, q2⟩ := hSA.push (v' := .slice (some ⟨g6, 0, none⟩) (xs.length + 1) c6) hOA.row hw hg (fun k e => by
    have e := Option.some.inj e
    subst e
    rcases hv with h1 | h1
    · exact .inl h1
    · exact .inr (by rw [h1, sizeA']; exact Nat.le_refl _)) hf
  exact ⟨⟨hSh.at_ rfl, hSh.thawed 4⟩, q1, (Chm.of_below hbA).trans q2⟩
end
end Go.Proofs.Ytbgalmnhhjiagaa
