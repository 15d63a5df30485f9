/- Contracts and plain facts: M32. -/
import Derived.Test.YtbdfhmefjfaofaaM31
import Derived.Test.YtbdfhmefjfaofaaM29
import Derived.Test.YtbdfhmefjfaofaaM30
set_option linter.unusedVariables false
set_option linter.unusedSimpArgs false
set_option maxRecDepth 100000
set_option maxHeartbeats 32000000
namespace Go.Proofs.Ytbdfhmefjfaofaa
open Go.RowKit
section
variable {w w1 w' : World} {B S W : Nat} {An : Option Addr} {nn cn : Nat} {At : Option Addr} {nt ct : Nat} {ns : List Nod} {t : List UInt8} {g : Int} {a left : Nat} {v v' : Value} {xs : List Wt} {b : Option Spn} {pv : Value} {p : Pt} {l r : List Tsk} {tk : Tsk}
theorem goesOn_node (m : Nat) (h : Sta w B S W An nn cn At nt ct ns t g a left v xs b pv p (Tsk.node (m : Int) :: r)) (hwk : WOK ns t g a (Tsk.node (m : Int) :: r,p)) (hT : ∀ (wz : World) (pv' : Value),Sta wz B S W An nn cn At nt ct ns t g a left v xs b pv' p r → Calls Try.prog 55 #[.pointer (some ⟨S,0,none⟩),.pointer (some ⟨W,0,none⟩),.int .i64 (m : Int)] wz (GoP wz B S W An nn cn At nt ct ns t g a left v xs b ((nexts ns t (.node (m : Int)) p).map (ahead r)))) :
    Calls Try.prog 50 #[.pointer (some ⟨S,0,none⟩),.pointer (some ⟨W,0,none⟩)] w (GoP w B S W An nn cn At nt ct ns t g a left v xs b ((nexts ns t (Tsk.node (m : Int)) p).map (ahead r))):=by
 obtain ⟨cb,k0,n0,u0,q0,pv',rfl,hc,ht,hr⟩:=h.row.head
 obtain ⟨rfl,rfl,rfl,rfl⟩:=ht
 obtain ⟨px,rfl⟩:=hr.ptr
 have ⟨f0,f1,f2,f3,f4⟩:=cell5 hc
 have p21:=h.p21
 have t21:=h.way.thawed 21
 have hWl:=h.way.lt
 have hcl:=hc.lt
 have hcW : cb ≠ W:=hc.apart h.way (by decide)
 have hSl:=h.s.held.lt
 have hSW:=h.ne
 have hPop:=lhi (h.pop' hr 0 (m : Int) 0 0)
 have hC:=lhi (hT _ _ hPop.out.st)
 clear h hr hc hwk hT
 generalize (nexts ns t (.node (m : Int)) p).map (ahead r) = L at *
 go_enter Try.func50,Try.ntmps50
 go_wp2_with (go_at_call 55;refine (hC.out).mono ?_;intro e w3 hg;obtain ⟨rb,rfl⟩:=hg.ret;replace hg:=lhi (hg.from hPop.out.ch))
 go_ret
 exact hg.out
theorem goesOn_same (n k : Int) (h : Sta w B S W An nn cn At nt ct ns t g a left v xs b pv p (Tsk.times n k p.i :: r)) (hwk : WOK ns t g a (Tsk.times n k p.i :: r,p)) :
    Calls Try.prog 50 #[.pointer (some ⟨S,0,none⟩),.pointer (some ⟨W,0,none⟩)] w (GoP w B S W An nn cn At nt ct ns t g a left v xs b ((nexts ns t (Tsk.times n k p.i) p).map (ahead r))):=by
 obtain ⟨cb,k0,n0,u0,q0,pv',rfl,hc,ht,hr⟩:=h.row.head
 obtain ⟨rfl,rfl,rfl,rfl⟩:=ht
 have hnx : (nexts ns t (.times n0 u0 p.i) p).map (ahead r) = if u0 ≤ (ndA ns n0).lo then [(r,p)] else []:=by
  rw [next_same]
  split <;> rfl
 rw [hnx]
 clear hnx
 obtain ⟨⟨n1,n2⟩,_,_,_,_⟩:=hwk.toks _ List.mem_cons_self
 obtain ⟨m,rfl⟩:=Int.eq_ofNat_of_zero_le n1
 have hm : m < ns.length:=by omega
 have hmn : m < nn:=by have:=h.s.thru.nn_;omega
 obtain ⟨ad,bb,oo,rfl,hp,hbb,hrg⟩:=h.s.thru.node' hm
 obtain ⟨px,rfl⟩:=hr.ptr
 have ⟨f0,f1,f2,f3,f4⟩:=cell5 hc
 have p21:=h.p21
 have t21:=h.way.thawed 21
 have hWl:=h.way.lt
 have hcl:=hc.lt
 have hcW : cb ≠ W:=hc.apart h.way (by decide)
 have hSl:=h.s.held.lt
 have hSW:=h.ne
 have hPop:=lhi (h.pop' hr 2 (m : Int) u0 (p.i : Int))
 have hd3:=lhi (fun w' (hb : Below B w w') => (node_cells (range_below hrg hb hbb)).2.1)
 have hlowz:=lhi (h.low hPop.out.ch)
 clear h hr hc hwk hrg
 by_cases hle : u0 ≤ (ndA ns (m : Int)).lo
 · rw [if_pos hle]
   have hdle:=lhi (show decide (u0 ≤ (ndA ns (m : Int)).lo) = true from decide_eq_true hle)
   replace hle:=lhi hle
   go_enter Try.func50,Try.ntmps50
   go_wp2
   clear f0 f1 f2 f3 f4 p21 t21
   generalize (w.setCell ⟨W,21,none⟩ (.pointer px)).alloc (.cells #[.int .i64 2,.int .i64 (m : Int),.int .i64 u0,.int .i64 (p.i : Int)] 89) = wz at *
   have ⟨k0,k1,k2,k3⟩:=cell4 hPop.out.tk
   have p0:=hPop.out.st.p0
   have c0:=hPop.out.st.c0
   have d3:=hd3.out wz hlowz.out
   have g1 : ((p.i : Int) == (p.i : Int)) = true:=by simp
   have hle2:=hdle.out
   have hle3:=hle.out
   go_quiet (fail)
   go_wp2
   go_quiet (fail)
   go_wp2
   go_ret
   exact ((hPop.out.st.stay hPop.out.ch rfl).later (below_drewN (below_drewN (Below.refl _ _) _) _))
 · rw [if_neg hle]
   have hdle:=lhi (show decide (u0 ≤ (ndA ns (m : Int)).lo) = false from decide_eq_false hle)
   replace hle:=lhi hle
   go_enter Try.func50,Try.ntmps50
   go_wp2
   clear f0 f1 f2 f3 f4 p21 t21
   generalize (w.setCell ⟨W,21,none⟩ (.pointer px)).alloc (.cells #[.int .i64 2,.int .i64 (m : Int),.int .i64 u0,.int .i64 (p.i : Int)] 89) = wz at *
   have ⟨k0,k1,k2,k3⟩:=cell4 hPop.out.tk
   have p0:=hPop.out.st.p0
   have c0:=hPop.out.st.c0
   have d3:=hd3.out wz hlowz.out
   have g1 : ((p.i : Int) == (p.i : Int)) = true:=by simp
   have hle2:=hdle.out
   have hle3:=hle.out
   go_quiet (fail)
   go_wp2
   go_quiet (fail)
   go_wp2
   go_ret
   exact ((hPop.out.st.gone hPop.out.ch rfl).later (below_drewN (below_drewN (Below.refl _ _) _) _))
theorem goesOn_times (n k : Int) (z : Nat) (hz : p.i ≠ z) (h : Sta w B S W An nn cn At nt ct ns t g a left v xs b pv p (Tsk.times n k z :: r)) (hwk : WOK ns t g a (Tsk.times n k z :: r,p)) (hT : ∀ (wz : World) (pv' : Value) (m : Nat),n = (m : Int) → Sta wz B S W An nn cn At nt ct ns t g a left v xs b pv' p r → Calls Try.prog 54 #[.pointer (some ⟨S,0,none⟩),.pointer (some ⟨W,0,none⟩),.int .i64 (m : Int),.int .i64 k] wz fun e w' => e = .returned (.tuple #[]) ∧ GoP wz B S W An nn cn At nt ct ns t g a left v xs b (smL ns m k p r) (.returned (.bool true)) w') :
    Calls Try.prog 50 #[.pointer (some ⟨S,0,none⟩),.pointer (some ⟨W,0,none⟩)] w (GoP w B S W An nn cn At nt ct ns t g a left v xs b ((nexts ns t (Tsk.times n k z) p).map (ahead r))):=by
 obtain ⟨cb,k0,n0,u0,q0,pv',rfl,hc,ht,hr⟩:=h.row.head
 obtain ⟨rfl,rfl,rfl,rfl⟩:=ht
 obtain ⟨⟨n1,n2⟩,_,_,_,_⟩:=hwk.toks _ List.mem_cons_self
 obtain ⟨m,rfl⟩:=Int.eq_ofNat_of_zero_le n1
 have hnx : (nexts ns t (.times (m : Int) u0 z) p).map (ahead r) = smL ns m u0 p r:=by rw [next_on hz];rfl
 rw [hnx]
 clear hnx
 obtain ⟨px,rfl⟩:=hr.ptr
 have ⟨f0,f1,f2,f3,f4⟩:=cell5 hc
 have p21:=h.p21
 have t21:=h.way.thawed 21
 have hWl:=h.way.lt
 have hcl:=hc.lt
 have hcW : cb ≠ W:=hc.apart h.way (by decide)
 have hSl:=h.s.held.lt
 have hSW:=h.ne
 have hPop:=lhi (h.pop' hr 2 (m : Int) u0 (z : Int))
 have hC:=lhi (fun w1 (hb : Below ((w.setCell ⟨W,21,none⟩ (.pointer px)).alloc (.cells #[.int .i64 2,.int .i64 (m : Int),.int .i64 u0,.int .i64 (z : Int)] 89)).heap.size ((w.setCell ⟨W,21,none⟩ (.pointer px)).alloc (.cells #[.int .i64 2,.int .i64 (m : Int),.int .i64 u0,.int .i64 (z : Int)] 89)) w1) => And.intro (hT w1 _ m rfl (hPop.out.st.keep hb)) (hPop.out.ch.trans (Chm.of_below hb)))
 have hg:=lhi (show ((p.i : Int) == (z : Int)) = false ∧ (p.i == z) = false from ⟨by rw [bef];omega,by rw [bef];omega⟩)
 clear h hr hc hwk hT n2 n1
 replace hz:=lhi hz
 generalize smL ns m u0 p r = L at *
 go_enter Try.func50,Try.ntmps50
 go_wp2
 clear f0 f1 f2 f3 f4 p21 t21
 generalize (w.setCell ⟨W,21,none⟩ (.pointer px)).alloc (.cells #[.int .i64 2,.int .i64 (m : Int),.int .i64 u0,.int .i64 (z : Int)] 89) = wz at *
 have ⟨k0,k1,k2,k3⟩:=cell4 hPop.out.tk
 have p0:=hPop.out.st.p0
 have ⟨g1,g2⟩:=hg.out
 go_quiet (fail)
 go_wp2_with (go_at_call 54;refine ((hC.out _ (below_drewN (Below.refl _ _) _)).1).mono ?_;rintro e w3 ⟨rfl,hgo⟩;replace hgo:=lhi (hgo.from (hC.out _ (below_drewN (Below.refl _ _) _)).2))
 go_ret
 exact hgo.out
end
section
variable {w w1 w' : World} {B S W : Nat} {An : Option Addr} {nn cn : Nat} {At : Option Addr} {nt ct : Nat} {ns : List Nod} {t : List UInt8} {g : Int} {a left : Nat} {v v' : Value} {xs : List Wt} {b : Option Spn} {pv : Value} {p : Pt} {l r : List Tsk} {tk : Tsk}
theorem takesNode_any (m : Nat) (h : Sta w B S W An nn cn At nt ct ns t g a left v xs b pv p l) (hn : m < ns.length) (hwk : WOK ns t g a (.node (m : Int) :: l,p)) (hf : xs.length + 1 + left ≤ 1000001) :
    Calls Try.prog 55 #[.pointer (some ⟨S,0,none⟩),.pointer (some ⟨W,0,none⟩),.int .i64 (m : Int)] w (GoP w B S W An nn cn At nt ct ns t g a left v xs b ((nexts ns t (.node (m : Int)) p).map (ahead l))):=by
 have hK:=(h.s.thru.rt.2.2 (m : Int) (by omega) (by omega)).1
 by_cases h0 : (ndA ns (m : Int)).kind = 0
 · exact takesNode_0 m h hn h0 hwk
 by_cases h1 : (ndA ns (m : Int)).kind = 1
 · exact takesNode_1 m h hn h1 hwk
 by_cases h2 : (ndA ns (m : Int)).kind = 2
 · exact takesNode_2 m h hn h2 hwk
 by_cases h3 : (ndA ns (m : Int)).kind = 3
 · exact takesNode_3 m h hn h3 hwk hf
 by_cases h4 : (ndA ns (m : Int)).kind = 4
 · exact takesNode_4 m h hn h4 hwk hf
 by_cases h5 : (ndA ns (m : Int)).kind = 5
 · exact takesNode_5 m h hn h5 hwk
 by_cases h6 : (ndA ns (m : Int)).kind = 6
 · exact takesNode_6 m h hn h6 hwk
 by_cases h7 : (ndA ns (m : Int)).kind = 7
 · exact takesNode_7 m h hn h7 hwk
 · exact takesNode_8 m h hn (by omega) hwk
theorem goesOn_any (h : Sta w B S W An nn cn At nt ct ns t g a left v xs b pv p (tk :: r)) (hwk : WOK ns t g a (tk :: r,p)) (hf : xs.length + 1 + left ≤ 1000001) :
    Calls Try.prog 50 #[.pointer (some ⟨S,0,none⟩),.pointer (some ⟨W,0,none⟩)] w (GoP w B S W An nn cn At nt ct ns t g a left v xs b ((nexts ns t tk p).map (ahead r))):=by
 have ht:=hwk.toks tk List.mem_cons_self
 cases tk with
 | node n =>
  have n1 : 0 ≤ n ∧ n < ns.length:=ht
  obtain ⟨m,rfl⟩:=Int.eq_ofNat_of_zero_le n1.1
  exact goesOn_node m h hwk fun wz pv' hz => takesNode_any m hz (by omega) hwk hf
 | gend d z => exact goesOn_gend d z h hwk
 | times n k z =>
  obtain ⟨t1,t2,t3,t4,t5⟩:=ht
  have hi : p.i ≤ t.length:=hwk.hi
  have htl:=h.s.thru.tl
  have hnt:=h.s.thru.nt_
  replace t5 : z ≤ p.i:=t5
  by_cases hz : p.i = z
  · subst hz
    exact goesOn_same n k h hwk
  · exact goesOn_times n k z hz h hwk fun wz pv' m hm hs => soMany_any m k hs (by omega) (by rw [← hm];exact t2) (by omega) hi hf
theorem Sta.spent (h : Sta w B S W An nn cn At nt ct ns t g a (left + 1) v xs b pv p l) {z : Int} (hz : z = (left : Int)) : Sta (w.setCell ⟨S,3,none⟩ (.int .i64 z)) B S W An nn cn At nt ct ns t g a left v xs b pv p l ∧ Chm w (w.setCell ⟨S,3,none⟩ (.int .i64 z)) S W v v:=by
 subst hz
 have hg:=grown_cell w S 3 (.int .i64 (left : Int))
 exact ⟨⟨h.s.turned hg (by have:=h.s.held.put 3 (.int .i64 (left : Int));exact this) (Nat.le_succ _),h.way.far (a:=⟨S,3,none⟩) (fun e => h.ne e.symm) _,h.row.keep fun b cs hc => hc.grown hg (fun e => hc.apart h.s.held (by decide) (Option.some.inj e)),h.apart,h.base⟩,Chm.of_grown hg (.inl rfl)⟩
end
end Go.Proofs.Ytbdfhmefjfaofaa
