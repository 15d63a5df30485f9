/- Contracts and plain facts: M27. -/
import Derived.BigRegion
import Derived.Test.YtbdfhmefjfaofaaM26
set_option linter.unusedVariables false
set_option linter.unusedSimpArgs false
set_option maxRecDepth 100000
set_option maxHeartbeats 32000000
namespace Go.Proofs.Ytbdfhmefjfaofaa
open Go.RowKit
theorem way_span (p : Pt) (pv : Value) {q : Nat} (h : q < 10) (x y : Int) : ((wayC p pv).setIfInBounds (1 + q * 2) (.int .i64 x)).setIfInBounds (1 + q * 2 + 1) (.int .i64 y) = wayC ⟨p.i,setSp p.sp q (x,y)⟩ pv:=by
 have : q = 0 ∨ q = 1 ∨ q = 2 ∨ q = 3 ∨ q = 4 ∨ q = 5 ∨ q = 6 ∨ q = 7 ∨ q = 8 ∨ q = 9:=by omega
 rcases this with rfl | rfl | rfl | rfl | rfl | rfl | rfl | rfl | rfl | rfl <;> rfl
section
variable {w w1 w' : World} {B S W : Nat} {An : Option Addr} {nn cn : Nat} {At : Option Addr} {nt ct : Nat} {ns : List Nod} {t : List UInt8} {g : Int} {a left : Nat} {v v' : Value} {xs : List Wt} {b : Option Spn} {pv : Value} {p : Pt} {l r : List Tsk} {tk : Tsk}
theorem RowAt.head (h : RowAt w ns pv (tk :: r)) : ∃ cb k n u q pv',pv = .pointer (some ⟨cb,0,none⟩) ∧ Held w cb 107 #[.int .i64 k,.int .i64 n,.int .i64 u,.int .i64 q,pv'] ∧ TkC ns tk k n u q ∧ RowAt w ns pv' r:=by
 cases h with
 | cons hc ht hr => exact ⟨_,_,_,_,_,_,rfl,hc,ht,hr⟩
theorem Sta.pop (h : Sta w B S W An nn cn At nt ct ns t g a left v xs b pv p l) {pv' : Value} (hr : RowAt w ns pv' r) (o : Obj) : Sta ((w.setCell ⟨W,21,none⟩ pv').alloc o) B S W An nn cn At nt ct ns t g a left v xs b pv' p r ∧ Chm w ((w.setCell ⟨W,21,none⟩ pv').alloc o) S W v v:=by
 obtain ⟨q1,q2⟩:=h.wayed (grown_cell w W 21 pv') (p':=p) (pv':=pv') (l':=r) (by have:=h.way.put 21 pv';rwa [way_row] at this) (hr.keep fun b cs hc => hc.grown (grown_cell _ W 21 _) (fun e => hc.apart h.way (by decide) (Option.some.inj e)))
 have hb : Below (w.setCell ⟨W,21,none⟩ pv').heap.size (w.setCell ⟨W,21,none⟩ pv') ((w.setCell ⟨W,21,none⟩ pv').alloc o):=(Below.refl _ _).alloc (nlr _) o
 exact ⟨q1.keep hb,q2.trans (Chm.of_below hb)⟩
theorem cell5 {cb : Nat} {x0 x1 x2 x3 x4 : Value} (h : Held w cb 107 #[x0,x1,x2,x3,x4]) : w.cell? ⟨cb,0,none⟩ = some x0 ∧ w.cell? ⟨cb,1,none⟩ = some x1 ∧ w.cell? ⟨cb,2,none⟩ = some x2 ∧ w.cell? ⟨cb,3,none⟩ = some x3 ∧ w.cell? ⟨cb,4,none⟩ = some x4:=⟨h.at_ rfl,h.at_ rfl,h.at_ rfl,h.at_ rfl,h.at_ rfl⟩
structure Pop (w : World) (B S W : Nat) (An : Option Addr) (nn cn : Nat) (At : Option Addr) (nt ct : Nat) (ns : List Nod) (t : List UInt8) (g : Int) (a left : Nat) (v : Value) (xs : List Wt) (b : Option Spn) (p : Pt) (r : List Tsk) (k n u q : Int) (pv' : Value) (wz : World) : Prop where
 st : Sta wz B S W An nn cn At nt ct ns t g a left v xs b pv' p r
 ch : Chm w wz S W v v
 tk : Held wz w.heap.size 89 #[.int .i64 k,.int .i64 n,.int .i64 u,.int .i64 q]
theorem Sta.pop' (h : Sta w B S W An nn cn At nt ct ns t g a left v xs b pv p l) {pv' : Value} (hr : RowAt w ns pv' r) (k n u q : Int) : Pop w B S W An nn cn At nt ct ns t g a left v xs b p r k n u q pv' ((w.setCell ⟨W,21,none⟩ pv').alloc (.cells #[.int .i64 k,.int .i64 n,.int .i64 u,.int .i64 q] 89)):=by
 obtain ⟨h1,h2⟩:=h.pop hr (.cells #[.int .i64 k,.int .i64 n,.int .i64 u,.int .i64 q] 89)
 refine ⟨h1,h2,?_⟩
 have:=held_new (w.setCell ⟨W,21,none⟩ pv') 89 #[.int .i64 k,.int .i64 n,.int .i64 u,.int .i64 q]
 rwa [World.size_setCell] at this
theorem cell4 {T : TypeId} {cb : Nat} {x0 x1 x2 x3 : Value} (h : Held w cb T #[x0,x1,x2,x3]) : w.cell? ⟨cb,0,none⟩ = some x0 ∧ w.cell? ⟨cb,1,none⟩ = some x1 ∧ w.cell? ⟨cb,2,none⟩ = some x2 ∧ w.cell? ⟨cb,3,none⟩ = some x3:=⟨h.at_ rfl,h.at_ rfl,h.at_ rfl,h.at_ rfl⟩
theorem goesOn_gend (d : Int) (z : Nat) (h : Sta w B S W An nn cn At nt ct ns t g a left v xs b pv p (.gend d z :: r)) (hwk : WOK ns t g a (.gend d z :: r,p)) :
    Calls Try.prog 50 #[.pointer (some ⟨S,0,none⟩),.pointer (some ⟨W,0,none⟩)] w (GoP w B S W An nn cn At nt ct ns t g a left v xs b ((nexts ns t (.gend d z) p).map (ahead r))):=by
 obtain ⟨cb,k,n,u,q,pv',rfl,hc,ht,hr⟩:=h.row.head
 obtain ⟨rfl,⟨n0,n1⟩,hgr,rfl,rfl⟩:=ht
 obtain ⟨px,rfl⟩:=hr.ptr
 obtain ⟨m,rfl⟩:=Int.eq_ofNat_of_zero_le n0
 have hm : m < ns.length:=by omega
 have hmn : m < nn:=by have:=h.s.thru.nn_;omega
 have hd : (1 ≤ d ∧ d ≤ g) ∧ _:=hwk.toks _ List.mem_cons_self
 have hg9:=h.s.thru.rt.2.1
 obtain ⟨j,rfl⟩ : ∃ j : Nat,d = (j : Int):=⟨d.toNat,by omega⟩
 have hj : j < 10:=by omega
 have hnx : (nexts ns t (.gend (j : Int) z) p).map (ahead r) = [(r,⟨p.i,setSp p.sp j ((z : Int),(p.i : Int))⟩)]:=rfl
 rw [hnx]
 obtain ⟨ad,bb,oo,rfl,hp,hbb,hrg⟩:=h.s.thru.node' hm
 have ⟨f0,f1,f2,f3,f4⟩:=cell5 hc
 have p21:=h.p21
 have t21:=h.way.thawed 21
 have hPop:=lhi (h.pop' hr 1 (m : Int) 0 (z : Int))
 have hd5:=lhi (fun w' (hb : Below B w w') => show w'.cell? ⟨bb,oo + 5,none⟩ = some (.int .i64 (j : Int)) from by
  have:=(node_cells (range_below hrg hb hbb)).2.2.2;rwa [hgr] at this)
 have hlowz:=lhi (h.low hPop.out.ch)
 have hWl:=h.way.lt
 have hcl:=hc.lt
 have hcW : cb ≠ W:=hc.apart h.way (by decide)
 have hSl:=h.s.held.lt
 have hSW:=h.ne
 have j0 : (0 : Int) ≤ (j : Int):=by omega
 have j10 : (j : Int) < 10:=by omega
 have hth : (wayC p (.pointer px)).size = 22:=rfl
 clear h hr hc hwk hd hg9 hrg hnx
 go_enter Try.func50,Try.ntmps50
 go_wp2
 clear f0 f1 f2 f3 f4 p21 t21
 generalize (w.setCell ⟨W,21,none⟩ (.pointer px)).alloc (.cells #[.int .i64 1,.int .i64 (m : Int),.int .i64 0,.int .i64 (z : Int)] 89) = wz at *
 have ⟨k0,k1,k2,k3⟩:=cell4 hPop.out.tk
 have p0:=hPop.out.st.p0
 have c0:=hPop.out.st.c0
 have d5:=hd5.out wz hlowz.out
 have hw:=way_range hPop.out.st.way
 have s0 : wz.cell? ⟨W,1 + j * 2,none⟩ = some (.int .i64 (p.sp j).1):=by rw [Nat.mul_comm];exact hw (2 * j) _ (hitL_from p.sp hj)
 have s1 : wz.cell? ⟨W,1 + j * 2 + 1,none⟩ = some (.int .i64 (p.sp j).2):=by rw [Nat.mul_comm,Nat.add_assoc];exact hw (2 * j + 1) _ (hitL_to p.sp hj)
 have t0:=hPop.out.st.way.thawed (1 + j * 2)
 have t1:=hPop.out.st.way.thawed (1 + j * 2 + 1)
 clear hw
 have hfin:=lhi (show GoP w B S W (some ad) nn cn At nt ct ns t g a left v xs b [(r,⟨p.i,setSp p.sp j ((z : Int),(p.i : Int))⟩)] (.returned (.bool true)) ((wz.setCell ⟨W,1 + j * 2,none⟩ (.int .i64 (z : Int))).setCell ⟨W,1 + j * 2 + 1,none⟩ (.int .i64 (p.i : Int))) from by
  have hst:=hPop.out.st
  have hgw:=grown_trans (grown_cell wz W (1 + j * 2) (.int .i64 (z : Int))) (grown_cell _ W (1 + j * 2 + 1) (.int .i64 (p.i : Int)))
  obtain ⟨q1,q2⟩:=hst.wayed hgw (p':=⟨p.i,setSp p.sp j ((z : Int),(p.i : Int))⟩) (pv':=.pointer px) (l':=r) (by have:=(hst.way.put (1 + j * 2) (.int .i64 (z : Int))).put (1 + j * 2 + 1) (.int .i64 (p.i : Int));rwa [way_span p (.pointer px) hj] at this) (hst.row.keep fun b cs hb => hb.grown hgw (fun e => hb.apart hst.way (by decide) (Option.some.inj e)))
  exact .goes (ys:=[]) (by rw [List.append_nil];exact q1) (hPop.out.ch.trans q2) (Nat.zero_le _) (.refl _))
 go_region
 all_goals
  go_wp2
  go_ret
  exact hfin.out.later ((Below.refl _ _).drew)
end
section
variable {w w1 w' : World} {B S W : Nat} {An : Option Addr} {nn cn : Nat} {At : Option Addr} {nt ct : Nat} {ns : List Nod} {t : List UInt8} {g : Int} {a left : Nat} {v v' : Value} {xs : List Wt} {b : Option Spn} {pv : Value} {p : Pt} {l r : List Tsk} {tk : Tsk}
theorem goesOn_node (m : Nat) (h : Sta w B S W An nn cn At nt ct ns t g a left v xs b pv p (Tsk.node (m : Int) :: r)) (hwk : WOK ns t g a (Tsk.node (m : Int) :: r,p)) (hT : ∀ (wz : World) (pv' : Value),Sta wz B S W An nn cn At nt ct ns t g a left v xs b pv' p r → Calls Try.prog 55 #[.pointer (some ⟨S,0,none⟩),.pointer (some ⟨W,0,none⟩),.int .i64 (m : Int)] wz (GoP wz B S W An nn cn At nt ct ns t g a left v xs b ((nexts ns t (.node (m : Int)) p).map (ahead r)))) :
    Calls Try.prog 50 #[.pointer (some ⟨S,0,none⟩),.pointer (some ⟨W,0,none⟩)] w (GoP w B S W An nn cn At nt ct ns t g a left v xs b ((nexts ns t (Tsk.node (m : Int)) p).map (ahead r))):=by
 obtain ⟨cb,k0,n0,u0,q0,pv',rfl,hc,ht,hr⟩:=h.row.head
 obtain ⟨rfl,rfl,rfl,rfl⟩:=ht
 obtain ⟨px,rfl⟩:=hr.ptr
 have ⟨f0,f1,f2,f3,f4⟩:=cell5 hc
 have p21:=h.p21
 have t21:=h.way.thawed 21
 have hWl:=h.way.lt
 have hcl:=hc.lt
 have hcW : cb ≠ W:=hc.apart h.way (by decide)
 have hSl:=h.s.held.lt
 have hSW:=h.ne
 have hPop:=lhi (h.pop' hr 0 (m : Int) 0 0)
 have hC:=lhi (hT _ _ hPop.out.st)
 clear h hr hc hwk hT
 generalize (nexts ns t (.node (m : Int)) p).map (ahead r) = L at *
 go_enter Try.func50,Try.ntmps50
 go_wp2_with (go_at_call 55;refine (hC.out).mono ?_;intro e w3 hg;obtain ⟨rb,rfl⟩:=hg.ret;replace hg:=lhi (hg.from hPop.out.ch))
 go_ret
 exact hg.out
theorem goesOn_same (n k : Int) (h : Sta w B S W An nn cn At nt ct ns t g a left v xs b pv p (Tsk.times n k p.i :: r)) (hwk : WOK ns t g a (Tsk.times n k p.i :: r,p)) :
    Calls Try.prog 50 #[.pointer (some ⟨S,0,none⟩),.pointer (some ⟨W,0,none⟩)] w (GoP w B S W An nn cn At nt ct ns t g a left v xs b ((nexts ns t (Tsk.times n k p.i) p).map (ahead r))):=by
 obtain ⟨cb,k0,n0,u0,q0,pv',rfl,hc,ht,hr⟩:=h.row.head
 obtain ⟨rfl,rfl,rfl,rfl⟩:=ht
 have hnx : (nexts ns t (.times n0 u0 p.i) p).map (ahead r) = if u0 ≤ (ndA ns n0).lo then [(r,p)] else []:=by
  rw [next_same]
  split <;> rfl
 rw [hnx]
 clear hnx
 obtain ⟨⟨n1,n2⟩,_,_,_,_⟩:=hwk.toks _ List.mem_cons_self
 obtain ⟨m,rfl⟩:=Int.eq_ofNat_of_zero_le n1
 have hm : m < ns.length:=by omega
 have hmn : m < nn:=by have:=h.s.thru.nn_;omega
 obtain ⟨ad,bb,oo,rfl,hp,hbb,hrg⟩:=h.s.thru.node' hm
 obtain ⟨px,rfl⟩:=hr.ptr
 have ⟨f0,f1,f2,f3,f4⟩:=cell5 hc
 have p21:=h.p21
 have t21:=h.way.thawed 21
 have hWl:=h.way.lt
 have hcl:=hc.lt
 have hcW : cb ≠ W:=hc.apart h.way (by decide)
 have hSl:=h.s.held.lt
 have hSW:=h.ne
 have hPop:=lhi (h.pop' hr 2 (m : Int) u0 (p.i : Int))
 have hd3:=lhi (fun w' (hb : Below B w w') => (node_cells (range_below hrg hb hbb)).2.1)
 have hlowz:=lhi (h.low hPop.out.ch)
 clear h hr hc hwk hrg
 by_cases hle : u0 ≤ (ndA ns (m : Int)).lo
 · rw [if_pos hle]
   have hdle:=lhi (show decide (u0 ≤ (ndA ns (m : Int)).lo) = true from decide_eq_true hle)
   replace hle:=lhi hle
   go_enter Try.func50,Try.ntmps50
   go_wp2
   clear f0 f1 f2 f3 f4 p21 t21
   generalize (w.setCell ⟨W,21,none⟩ (.pointer px)).alloc (.cells #[.int .i64 2,.int .i64 (m : Int),.int .i64 u0,.int .i64 (p.i : Int)] 89) = wz at *
   have ⟨k0,k1,k2,k3⟩:=cell4 hPop.out.tk
   have p0:=hPop.out.st.p0
   have c0:=hPop.out.st.c0
   have d3:=hd3.out wz hlowz.out
   have g1 : ((p.i : Int) == (p.i : Int)) = true:=by simp
   have hle2:=hdle.out
   have hle3:=hle.out
   go_quiet (fail)
   go_wp2
   go_quiet (fail)
   go_wp2
   go_ret
   exact ((hPop.out.st.stay hPop.out.ch rfl).later (below_drewN (below_drewN (Below.refl _ _) _) _))
 · rw [if_neg hle]
   have hdle:=lhi (show decide (u0 ≤ (ndA ns (m : Int)).lo) = false from decide_eq_false hle)
   replace hle:=lhi hle
   go_enter Try.func50,Try.ntmps50
   go_wp2
   clear f0 f1 f2 f3 f4 p21 t21
   generalize (w.setCell ⟨W,21,none⟩ (.pointer px)).alloc (.cells #[.int .i64 2,.int .i64 (m : Int),.int .i64 u0,.int .i64 (p.i : Int)] 89) = wz at *
   have ⟨k0,k1,k2,k3⟩:=cell4 hPop.out.tk
   have p0:=hPop.out.st.p0
   have c0:=hPop.out.st.c0
   have d3:=hd3.out wz hlowz.out
   have g1 : ((p.i : Int) == (p.i : Int)) = true:=by simp
   have hle2:=hdle.out
   have hle3:=hle.out
   go_quiet (fail)
   go_wp2
   go_quiet (fail)
   go_wp2
   go_ret
   exact ((hPop.out.st.gone hPop.out.ch rfl).later (below_drewN (below_drewN (Below.refl _ _) _) _))
theorem goesOn_times (n k : Int) (z : Nat) (hz : p.i ≠ z) (h : Sta w B S W An nn cn At nt ct ns t g a left v xs b pv p (Tsk.times n k z :: r)) (hwk : WOK ns t g a (Tsk.times n k z :: r,p)) (hT : ∀ (wz : World) (pv' : Value) (m : Nat),n = (m : Int) → Sta wz B S W An nn cn At nt ct ns t g a left v xs b pv' p r → Calls Try.prog 54 #[.pointer (some ⟨S,0,none⟩),.pointer (some ⟨W,0,none⟩),.int .i64 (m : Int),.int .i64 k] wz fun e w' => e = .returned (.tuple #[]) ∧ GoP wz B S W An nn cn At nt ct ns t g a left v xs b (smL ns m k p r) (.returned (.bool true)) w') :
    Calls Try.prog 50 #[.pointer (some ⟨S,0,none⟩),.pointer (some ⟨W,0,none⟩)] w (GoP w B S W An nn cn At nt ct ns t g a left v xs b ((nexts ns t (Tsk.times n k z) p).map (ahead r))):=by
 obtain ⟨cb,k0,n0,u0,q0,pv',rfl,hc,ht,hr⟩:=h.row.head
 obtain ⟨rfl,rfl,rfl,rfl⟩:=ht
 obtain ⟨⟨n1,n2⟩,_,_,_,_⟩:=hwk.toks _ List.mem_cons_self
 obtain ⟨m,rfl⟩:=Int.eq_ofNat_of_zero_le n1
 have hnx : (nexts ns t (.times (m : Int) u0 z) p).map (ahead r) = smL ns m u0 p r:=by rw [next_on hz];rfl
 rw [hnx]
 clear hnx
 obtain ⟨px,rfl⟩:=hr.ptr
 have ⟨f0,f1,f2,f3,f4⟩:=cell5 hc
 have p21:=h.p21
 have t21:=h.way.thawed 21
 have hWl:=h.way.lt
 have hcl:=hc.lt
 have hcW : cb ≠ W:=hc.apart h.way (by decide)
 have hSl:=h.s.held.lt
 have hSW:=h.ne
 have hPop:=lhi (h.pop' hr 2 (m : Int) u0 (z : Int))
 have hC:=lhi (fun w1 (hb : Below ((w.setCell ⟨W,21,none⟩ (.pointer px)).alloc (.cells #[.int .i64 2,.int .i64 (m : Int),.int .i64 u0,.int .i64 (z : Int)] 89)).heap.size ((w.setCell ⟨W,21,none⟩ (.pointer px)).alloc (.cells #[.int .i64 2,.int .i64 (m : Int),.int .i64 u0,.int .i64 (z : Int)] 89)) w1) => And.intro (hT w1 _ m rfl (hPop.out.st.keep hb)) (hPop.out.ch.trans (Chm.of_below hb)))
 have hg:=lhi (show ((p.i : Int) == (z : Int)) = false ∧ (p.i == z) = false from ⟨by rw [bef];omega,by rw [bef];omega⟩)
 clear h hr hc hwk hT n2 n1
 replace hz:=lhi hz
 generalize smL ns m u0 p r = L at *
 go_enter Try.func50,Try.ntmps50
 go_wp2
 clear f0 f1 f2 f3 f4 p21 t21
 generalize (w.setCell ⟨W,21,none⟩ (.pointer px)).alloc (.cells #[.int .i64 2,.int .i64 (m : Int),.int .i64 u0,.int .i64 (z : Int)] 89) = wz at *
 have ⟨k0,k1,k2,k3⟩:=cell4 hPop.out.tk
 have p0:=hPop.out.st.p0
 have ⟨g1,g2⟩:=hg.out
 go_quiet (fail)
 go_wp2_with (go_at_call 54;refine ((hC.out _ (below_drewN (Below.refl _ _) _)).1).mono ?_;rintro e w3 ⟨rfl,hgo⟩;replace hgo:=lhi (hgo.from (hC.out _ (below_drewN (Below.refl _ _) _)).2))
 go_ret
 exact hgo.out
end
section
variable {w w1 w' : World} {B S W : Nat} {An : Option Addr} {nn cn : Nat} {At : Option Addr} {nt ct : Nat} {ns : List Nod} {t : List UInt8} {g : Int} {a left : Nat} {v v' : Value} {xs : List Wt} {b : Option Spn} {pv : Value} {p : Pt} {l r : List Tsk} {tk : Tsk}
theorem takesNode_any (m : Nat) (h : Sta w B S W An nn cn At nt ct ns t g a left v xs b pv p l) (hn : m < ns.length) (hwk : WOK ns t g a (.node (m : Int) :: l,p)) (hf : xs.length + 1 + left ≤ 1000001) :
    Calls Try.prog 55 #[.pointer (some ⟨S,0,none⟩),.pointer (some ⟨W,0,none⟩),.int .i64 (m : Int)] w (GoP w B S W An nn cn At nt ct ns t g a left v xs b ((nexts ns t (.node (m : Int)) p).map (ahead l))):=by
 have hK:=(h.s.thru.rt.2.2 (m : Int) (by omega) (by omega)).1
 by_cases h0 : (ndA ns (m : Int)).kind = 0
 · exact takesNode_0 m h hn h0 hwk
 by_cases h1 : (ndA ns (m : Int)).kind = 1
 · exact takesNode_1 m h hn h1 hwk
 by_cases h2 : (ndA ns (m : Int)).kind = 2
 · exact takesNode_2 m h hn h2 hwk
 by_cases h3 : (ndA ns (m : Int)).kind = 3
 · exact takesNode_3 m h hn h3 hwk hf
 by_cases h4 : (ndA ns (m : Int)).kind = 4
 · exact takesNode_4 m h hn h4 hwk hf
 by_cases h5 : (ndA ns (m : Int)).kind = 5
 · exact takesNode_5 m h hn h5 hwk
 by_cases h6 : (ndA ns (m : Int)).kind = 6
 · exact takesNode_6 m h hn h6 hwk
 by_cases h7 : (ndA ns (m : Int)).kind = 7
 · exact takesNode_7 m h hn h7 hwk
 · exact takesNode_8 m h hn (by omega) hwk
theorem goesOn_any (h : Sta w B S W An nn cn At nt ct ns t g a left v xs b pv p (tk :: r)) (hwk : WOK ns t g a (tk :: r,p)) (hf : xs.length + 1 + left ≤ 1000001) :
    Calls Try.prog 50 #[.pointer (some ⟨S,0,none⟩),.pointer (some ⟨W,0,none⟩)] w (GoP w B S W An nn cn At nt ct ns t g a left v xs b ((nexts ns t tk p).map (ahead r))):=by
 have ht:=hwk.toks tk List.mem_cons_self
 cases tk with
 | node n =>
  have n1 : 0 ≤ n ∧ n < ns.length:=ht
  obtain ⟨m,rfl⟩:=Int.eq_ofNat_of_zero_le n1.1
  exact goesOn_node m h hwk fun wz pv' hz => takesNode_any m hz (by omega) hwk hf
 | gend d z => exact goesOn_gend d z h hwk
 | times n k z =>
  obtain ⟨t1,t2,t3,t4,t5⟩:=ht
  have hi : p.i ≤ t.length:=hwk.hi
  have htl:=h.s.thru.tl
  have hnt:=h.s.thru.nt_
  replace t5 : z ≤ p.i:=t5
  by_cases hz : p.i = z
  · subst hz
    exact goesOn_same n k h hwk
  · exact goesOn_times n k z hz h hwk fun wz pv' m hm hs => soMany_any m k hs (by omega) (by rw [← hm];exact t2) (by omega) hi hf
theorem Sta.spent (h : Sta w B S W An nn cn At nt ct ns t g a (left + 1) v xs b pv p l) {z : Int} (hz : z = (left : Int)) : Sta (w.setCell ⟨S,3,none⟩ (.int .i64 z)) B S W An nn cn At nt ct ns t g a left v xs b pv p l ∧ Chm w (w.setCell ⟨S,3,none⟩ (.int .i64 z)) S W v v:=by
 subst hz
 have hg:=grown_cell w S 3 (.int .i64 (left : Int))
 exact ⟨⟨h.s.turned hg (by have:=h.s.held.put 3 (.int .i64 (left : Int));exact this) (Nat.le_succ _),h.way.far (a:=⟨S,3,none⟩) (fun e => h.ne e.symm) _,h.row.keep fun b cs hc => hc.grown hg (fun e => hc.apart h.s.held (by decide) (Option.some.inj e)),h.apart,h.base⟩,Chm.of_grown hg (.inl rfl)⟩
end
end Go.Proofs.Ytbdfhmefjfaofaa
