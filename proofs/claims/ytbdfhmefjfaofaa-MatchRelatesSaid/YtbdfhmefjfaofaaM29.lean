/- Contracts and plain facts: M29. -/
import Derived.Test.YtbdfhmefjfaofaaM27
import Derived.Test.YtbdfhmefjfaofaaM28
set_option linter.unusedVariables false
set_option linter.unusedSimpArgs false
set_option maxRecDepth 100000
set_option maxHeartbeats 32000000
namespace Go.Proofs.Ytbdfhmefjfaofaa
open Go.RowKit
section
variable {w w1 w' : World} {B S W : Nat} {An : Option Addr} {nn cn : Nat} {At : Option Addr} {nt ct : Nat} {ns : List Nod} {t : List UInt8} {g : Int} {a left : Nat} {v v' : Value} {xs : List Wt} {b : Option Spn} {pv : Value} {p : Pt} {l : List Tsk}
theorem soMany_any (m : Nat) (k : Int) (h : Sta w B S W An nn cn At nt ct ns t g a left v xs b pv p l) (hn : m < ns.length) (h4 : (ndA ns (m : Int)).kind = 4) (hk : 0 ≤ k ∧ k ≤ 2000000) (hi : p.i ≤ t.length) (hf : xs.length + 1 + left ≤ 1000001) :
    Calls Try.prog 54 #[.pointer (some ⟨S,0,none⟩),.pointer (some ⟨W,0,none⟩),.int .i64 (m : Int),.int .i64 k] w fun e w' => e = .returned (.tuple #[]) ∧ GoP w B S W An nn cn At nt ct ns t g a left v xs b (smL ns m k p l) (.returned (.bool true)) w':=by
 by_cases h1 : k < (ndA ns (m : Int)).lo
 · exact soMany_less m k h hn h4 hk hi h1
 · by_cases h2 : (ndA ns (m : Int)).hi = -1 ∨ k < (ndA ns (m : Int)).hi
   · by_cases h3 : k < (ndA ns (m : Int)).hi
     · exact soMany_bothA m k h hn h4 hk hi h1 h3 hf
     · exact soMany_bothB m k h hn h4 hk hi h1 h3 (h2.resolve_right h3) hf
   · exact soMany_off m k h hn h4 hk hi h1 h2
end
section
variable {w w1 w' : World} {B S W : Nat} {An : Option Addr} {nn cn : Nat} {At : Option Addr} {nt ct : Nat} {ns : List Nod} {t : List UInt8} {g : Int} {a left : Nat} {v v' : Value} {xs : List Wt} {b : Option Spn} {pv : Value} {p : Pt} {l : List Tsk}
theorem takesNode_4 (m : Nat) (h : Sta w B S W An nn cn At nt ct ns t g a left v xs b pv p l) (hn : m < ns.length) (hk : (ndA ns (m : Int)).kind = 4) (hwk : WOK ns t g a (.node (m : Int) :: l,p)) (hf : xs.length + 1 + left ≤ 1000001) :
    Calls Try.prog 55 #[.pointer (some ⟨S,0,none⟩),.pointer (some ⟨W,0,none⟩),.int .i64 (m : Int)] w (GoP w B S W An nn cn At nt ct ns t g a left v xs b ((nexts ns t (.node (m : Int)) p).map (ahead l))):=by
 have hnx : (nexts ns t (.node (m : Int)) p).map (ahead l) = smL ns m 0 p l:=by
  rw [next_rep hk]
  unfold smL
  rw [Int.zero_add]
 rw [hnx]
 clear hnx
 have hmn : m < nn:=by have:=h.s.thru.nn_;omega
 obtain ⟨ad,bb,oo,rfl,hp,hbb,hr⟩:=h.s.thru.node' hn
 have c0:=h.c0
 have hlow:=lhi (fun w' (hb : Below B w w') => node_cells (range_below hr hb hbb))
 have hbase:=lhi h.s.thru.base
 have ⟨⟨d0,d1,d2⟩,d3,d4,d5⟩:=node_cells hr
 rw [hk] at d0
 have hh:=lhi h
 have hT:=lhi (soMany_any m 0 h hn hk (by omega) hwk.hi hf)
 clear h hr hwk hlow hf
 generalize smL ns m 0 p l = L at *
 go_enter Try.func55,Try.ntmps55
 go_wp2_with (go_at_call 54;refine (hT.out).mono ?_;rintro e w3 ⟨rfl,hg⟩;replace hg:=lhi hg)
 go_ret
 exact hg.out
end
end Go.Proofs.Ytbdfhmefjfaofaa
