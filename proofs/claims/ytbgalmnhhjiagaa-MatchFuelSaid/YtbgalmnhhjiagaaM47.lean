/- Contracts of package match's takesNode and goesOn, all cases. -/
import Derived.Test.YtbgalmnhhjiagaaM34
import Derived.Test.YtbgalmnhhjiagaaM35
import Derived.Test.YtbgalmnhhjiagaaM39
import Derived.Test.YtbgalmnhhjiagaaM43
import Derived.Test.YtbgalmnhhjiagaaM44
import Derived.Test.YtbgalmnhhjiagaaM46
set_option linter.unusedVariables false
set_option maxRecDepth 100000
namespace Go.Proofs.Ytbgalmnhhjiagaa
open Go.RowKit
section
variable {w w1 w' : World} {B S W : Nat} {An : Option Addr} {nn cn : Nat} {At : Option Addr} {nt ct : Nat} {ns : List Nod} {t : List UInt8} {g : Int} {a left : Nat} {v v' : Value} {xs : List Wt} {b : Option Spn} {pv : Value} {p : Pt} {l r : List Tsk} {tk : Tsk}
theorem takesNode_any (m : Nat) (h : Sta w B S W An nn cn At nt ct ns t g a left v xs b pv p l) (hn : m < ns.length) (hwk : WOK ns t g a (.node (m : Int) :: l, p)) (hf : xs.length + 1 + left ≤ 1000001) :
    Calls Try.prog 40 #[.pointer (some ⟨S, 0, none⟩), .pointer (some ⟨W, 0, none⟩), .int .i64 (m : Int)] w (GoP w B S W An nn cn At nt ct ns t g a left v xs b ((nexts ns t (.node (m : Int)) p).map (ahead l))) := by
  have hK := (h.s.thru.rt.2.2 (m : Int) (by omega) (by omega)).1
  by_cases h0 : (ndA ns (m : Int)).kind = 0
  · exact takesNode_0 m h hn h0 hwk
  by_cases h1 : (ndA ns (m : Int)).kind = 1
  · exact takesNode_1 m h hn h1 hwk
  by_cases h2 : (ndA ns (m : Int)).kind = 2
  · exact takesNode_2 m h hn h2 hwk
  by_cases h3 : (ndA ns (m : Int)).kind = 3
  · exact takesNode_3 m h hn h3 hwk hf
  by_cases h4 : (ndA ns (m : Int)).kind = 4
  · exact takesNode_4 m h hn h4 hwk hf
  by_cases h5 : (ndA ns (m : Int)).kind = 5
  · exact takesNode_5 m h hn h5 hwk
  by_cases h6 : (ndA ns (m : Int)).kind = 6
  · exact takesNode_6 m h hn h6 hwk
  by_cases h7 : (ndA ns (m : Int)).kind = 7
  · exact takesNode_7 m h hn h7 hwk
  · exact takesNode_8 m h hn (by omega) hwk
theorem goesOn_any (h : Sta w B S W An nn cn At nt ct ns t g a left v xs b pv p (tk :: r)) (hwk : WOK ns t g a (tk :: r, p)) (hf : xs.length + 1 + left ≤ 1000001) :
    Calls Try.prog 36 #[.pointer (some ⟨S, 0, none⟩), .pointer (some ⟨W, 0, none⟩)] w (GoP w B S W An nn cn At nt ct ns t g a left v xs b ((nexts ns t tk p).map (ahead r))) := by
  have ht := hwk.toks tk List.mem_cons_self
  cases tk with
  | node n =>
    have n1 : 0 ≤ n ∧ n < ns.length := ht
    obtain ⟨m, rfl⟩ := Int.eq_ofNat_of_zero_le n1.1
    exact goesOn_node m h hwk fun wz pv' hz => takesNode_any m hz (by omega) hwk hf
  | gend d z => exact goesOn_gend d z h hwk
  | times n k z =>
    obtain ⟨t1, t2, t3, t4, t5⟩ := ht
    have hi : p.i ≤ t.length := hwk.hi
    have htl := h.s.thru.tl
    have hnt := h.s.thru.nt_
    replace t5 : z ≤ p.i := t5
    by_cases hz : p.i = z
    · subst hz
      exact goesOn_same n k h hwk
    · exact goesOn_times n k z hz h hwk fun wz pv' m hm hs => soMany_any m k hs (by omega) (by rw [← hm]; exact t2) (by omega) hi hf
/-- A unit of fuel is spent. -/
theorem Sta.spent (h : Sta w B S W An nn cn At nt ct ns t g a (left + 1) v xs b pv p l) {z : Int} (hz : z = (left : Int)) : Sta (w.setCell ⟨S, 3, none⟩ (.int .i64 z)) B S W An nn cn At nt ct ns t g a left v xs b pv p l ∧ Chm w (w.setCell ⟨S, 3, none⟩ (.int .i64 z)) S W v v := by
  subst hz
  have hg := grown_cell w S 3 (.int .i64 (left : Int))
  exact ⟨⟨h.s.turned hg (by have := h.s.held.put 3 (.int .i64 (left : Int)); exact this) (Nat.le_succ _), h.way.far (a := ⟨S, 3, none⟩) (fun e => h.ne e.symm) _, h.row.keep fun b cs hc => hc.grown hg (fun e => hc.apart h.s.held (by decide) (Option.some.inj e)), h.apart, h.base⟩, Chm.of_grown hg (.inl rfl)⟩
end
end Go.Proofs.Ytbgalmnhhjiagaa
