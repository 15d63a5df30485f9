/- Contracts and plain facts: M19. -/
import Derived.BigRegion
import Derived.Test.YtjopmieaikgbcaaM18
set_option linter.unusedVariables false
set_option linter.unusedSimpArgs false
set_option maxRecDepth 100000
set_option maxHeartbeats 32000000
namespace Go.Proofs.Ytjopmieaikgbcaa
open Go.RowKit
theorem way_span (p : Pt) (pv : Value) {q : Nat} (h : q < 10) (x y : Int) : ((wayC p pv).setIfInBounds (1 + q * 2) (.int .i64 x)).setIfInBounds (1 + q * 2 + 1) (.int .i64 y) = wayC ⟨p.i,setSp p.sp q (x,y)⟩ pv:=by
 have : q = 0 ∨ q = 1 ∨ q = 2 ∨ q = 3 ∨ q = 4 ∨ q = 5 ∨ q = 6 ∨ q = 7 ∨ q = 8 ∨ q = 9:=by omega
 rcases this with rfl | rfl | rfl | rfl | rfl | rfl | rfl | rfl | rfl | rfl <;> rfl
section
variable {w w1 w' : World} {B S W : Nat} {An : Option Addr} {nn cn : Nat} {At : Option Addr} {nt ct : Nat} {ns : List Nod} {t : List UInt8} {g : Int} {a left : Nat} {v v' : Value} {xs : List Wt} {b : Option Spn} {pv : Value} {p : Pt} {l r : List Tsk} {tk : Tsk}
theorem RowAt.head (h : RowAt w ns pv (tk :: r)) : ∃ cb k n u q pv',pv = .pointer (some ⟨cb,0,none⟩) ∧ Held w cb 107 #[.int .i64 k,.int .i64 n,.int .i64 u,.int .i64 q,pv'] ∧ TkC ns tk k n u q ∧ RowAt w ns pv' r:=by
 cases h with
 | cons hc ht hr => exact ⟨_,_,_,_,_,_,rfl,hc,ht,hr⟩
theorem Sta.pop (h : Sta w B S W An nn cn At nt ct ns t g a left v xs b pv p l) {pv' : Value} (hr : RowAt w ns pv' r) (o : Obj) : Sta ((w.setCell ⟨W,21,none⟩ pv').alloc o) B S W An nn cn At nt ct ns t g a left v xs b pv' p r ∧ Chm w ((w.setCell ⟨W,21,none⟩ pv').alloc o) S W v v:=by
 obtain ⟨q1,q2⟩:=h.wayed (grown_cell w W 21 pv') (p':=p) (pv':=pv') (l':=r) (by have:=h.way.put 21 pv';rwa [way_row] at this) (hr.keep fun b cs hc => hc.grown (grown_cell _ W 21 _) (fun e => hc.apart h.way (by decide) (Option.some.inj e)))
 have hb : Below (w.setCell ⟨W,21,none⟩ pv').heap.size (w.setCell ⟨W,21,none⟩ pv') ((w.setCell ⟨W,21,none⟩ pv').alloc o):=(Below.refl _ _).alloc (nlr _) o
 exact ⟨q1.keep hb,q2.trans (Chm.of_below hb)⟩
theorem cell5 {cb : Nat} {x0 x1 x2 x3 x4 : Value} (h : Held w cb 107 #[x0,x1,x2,x3,x4]) : w.cell? ⟨cb,0,none⟩ = some x0 ∧ w.cell? ⟨cb,1,none⟩ = some x1 ∧ w.cell? ⟨cb,2,none⟩ = some x2 ∧ w.cell? ⟨cb,3,none⟩ = some x3 ∧ w.cell? ⟨cb,4,none⟩ = some x4:=⟨h.at_ rfl,h.at_ rfl,h.at_ rfl,h.at_ rfl,h.at_ rfl⟩
structure Pop (w : World) (B S W : Nat) (An : Option Addr) (nn cn : Nat) (At : Option Addr) (nt ct : Nat) (ns : List Nod) (t : List UInt8) (g : Int) (a left : Nat) (v : Value) (xs : List Wt) (b : Option Spn) (p : Pt) (r : List Tsk) (k n u q : Int) (pv' : Value) (wz : World) : Prop where
 st : Sta wz B S W An nn cn At nt ct ns t g a left v xs b pv' p r
 ch : Chm w wz S W v v
 tk : Held wz w.heap.size 89 #[.int .i64 k,.int .i64 n,.int .i64 u,.int .i64 q]
theorem Sta.pop' (h : Sta w B S W An nn cn At nt ct ns t g a left v xs b pv p l) {pv' : Value} (hr : RowAt w ns pv' r) (k n u q : Int) : Pop w B S W An nn cn At nt ct ns t g a left v xs b p r k n u q pv' ((w.setCell ⟨W,21,none⟩ pv').alloc (.cells #[.int .i64 k,.int .i64 n,.int .i64 u,.int .i64 q] 89)):=by
 obtain ⟨h1,h2⟩:=h.pop hr (.cells #[.int .i64 k,.int .i64 n,.int .i64 u,.int .i64 q] 89)
 refine ⟨h1,h2,?_⟩
 have:=held_new (w.setCell ⟨W,21,none⟩ pv') 89 #[.int .i64 k,.int .i64 n,.int .i64 u,.int .i64 q]
 rwa [World.size_setCell] at this
theorem cell4 {T : TypeId} {cb : Nat} {x0 x1 x2 x3 : Value} (h : Held w cb T #[x0,x1,x2,x3]) : w.cell? ⟨cb,0,none⟩ = some x0 ∧ w.cell? ⟨cb,1,none⟩ = some x1 ∧ w.cell? ⟨cb,2,none⟩ = some x2 ∧ w.cell? ⟨cb,3,none⟩ = some x3:=⟨h.at_ rfl,h.at_ rfl,h.at_ rfl,h.at_ rfl⟩
theorem goesOn_gend (d : Int) (z : Nat) (h : Sta w B S W An nn cn At nt ct ns t g a left v xs b pv p (.gend d z :: r)) (hwk : WOK ns t g a (.gend d z :: r,p)) :
    Calls Try.prog 50 #[.pointer (some ⟨S,0,none⟩),.pointer (some ⟨W,0,none⟩)] w (GoP w B S W An nn cn At nt ct ns t g a left v xs b ((nexts ns t (.gend d z) p).map (ahead r))):=by
 obtain ⟨cb,k,n,u,q,pv',rfl,hc,ht,hr⟩:=h.row.head
 obtain ⟨rfl,⟨n0,n1⟩,hgr,rfl,rfl⟩:=ht
 obtain ⟨px,rfl⟩:=hr.ptr
 obtain ⟨m,rfl⟩:=Int.eq_ofNat_of_zero_le n0
 have hm : m < ns.length:=by omega
 have hmn : m < nn:=by have:=h.s.thru.nn_;omega
 have hd : (1 ≤ d ∧ d ≤ g) ∧ _:=hwk.toks _ List.mem_cons_self
 have hg9:=h.s.thru.rt.2.1
 obtain ⟨j,rfl⟩ : ∃ j : Nat,d = (j : Int):=⟨d.toNat,by omega⟩
 have hj : j < 10:=by omega
 have hnx : (nexts ns t (.gend (j : Int) z) p).map (ahead r) = [(r,⟨p.i,setSp p.sp j ((z : Int),(p.i : Int))⟩)]:=rfl
 rw [hnx]
 obtain ⟨ad,bb,oo,rfl,hp,hbb,hrg⟩:=h.s.thru.node' hm
 have ⟨f0,f1,f2,f3,f4⟩:=cell5 hc
 have p21:=h.p21
 have t21:=h.way.thawed 21
 have hPop:=lhi (h.pop' hr 1 (m : Int) 0 (z : Int))
 have hd5:=lhi (fun w' (hb : Below B w w') => show w'.cell? ⟨bb,oo + 5,none⟩ = some (.int .i64 (j : Int)) from by
  have:=(node_cells (range_below hrg hb hbb)).2.2.2;rwa [hgr] at this)
 have hlowz:=lhi (h.low hPop.out.ch)
 have hWl:=h.way.lt
 have hcl:=hc.lt
 have hcW : cb ≠ W:=hc.apart h.way (by decide)
 have hSl:=h.s.held.lt
 have hSW:=h.ne
 have j0 : (0 : Int) ≤ (j : Int):=by omega
 have j10 : (j : Int) < 10:=by omega
 have hth : (wayC p (.pointer px)).size = 22:=rfl
 clear h hr hc hwk hd hg9 hrg hnx
 go_enter Try.func50,Try.ntmps50
 go_wp2
 clear f0 f1 f2 f3 f4 p21 t21
 generalize (w.setCell ⟨W,21,none⟩ (.pointer px)).alloc (.cells #[.int .i64 1,.int .i64 (m : Int),.int .i64 0,.int .i64 (z : Int)] 89) = wz at *
 have ⟨k0,k1,k2,k3⟩:=cell4 hPop.out.tk
 have p0:=hPop.out.st.p0
 have c0:=hPop.out.st.c0
 have d5:=hd5.out wz hlowz.out
 have hw:=way_range hPop.out.st.way
 have s0 : wz.cell? ⟨W,1 + j * 2,none⟩ = some (.int .i64 (p.sp j).1):=by rw [Nat.mul_comm];exact hw (2 * j) _ (hitL_from p.sp hj)
 have s1 : wz.cell? ⟨W,1 + j * 2 + 1,none⟩ = some (.int .i64 (p.sp j).2):=by rw [Nat.mul_comm,Nat.add_assoc];exact hw (2 * j + 1) _ (hitL_to p.sp hj)
 have t0:=hPop.out.st.way.thawed (1 + j * 2)
 have t1:=hPop.out.st.way.thawed (1 + j * 2 + 1)
 clear hw
 have hfin:=lhi (show GoP w B S W (some ad) nn cn At nt ct ns t g a left v xs b [(r,⟨p.i,setSp p.sp j ((z : Int),(p.i : Int))⟩)] (.returned (.bool true)) ((wz.setCell ⟨W,1 + j * 2,none⟩ (.int .i64 (z : Int))).setCell ⟨W,1 + j * 2 + 1,none⟩ (.int .i64 (p.i : Int))) from by
  have hst:=hPop.out.st
  have hgw:=grown_trans (grown_cell wz W (1 + j * 2) (.int .i64 (z : Int))) (grown_cell _ W (1 + j * 2 + 1) (.int .i64 (p.i : Int)))
  obtain ⟨q1,q2⟩:=hst.wayed hgw (p':=⟨p.i,setSp p.sp j ((z : Int),(p.i : Int))⟩) (pv':=.pointer px) (l':=r) (by have:=(hst.way.put (1 + j * 2) (.int .i64 (z : Int))).put (1 + j * 2 + 1) (.int .i64 (p.i : Int));rwa [way_span p (.pointer px) hj] at this) (hst.row.keep fun b cs hb => hb.grown hgw (fun e => hb.apart hst.way (by decide) (Option.some.inj e)))
  exact .goes (ys:=[]) (by rw [List.append_nil];exact q1) (hPop.out.ch.trans q2) (Nat.zero_le _) (.refl _))
 go_region
 all_goals
  go_wp2
  go_ret
  exact hfin.out.later ((Below.refl _ _).drew)
end
section
variable {w w1 w' : World} {B S W : Nat} {An : Option Addr} {nn cn : Nat} {At : Option Addr} {nt ct : Nat} {ns : List Nod} {t : List UInt8} {g : Int} {a left : Nat} {v v' : Value} {xs : List Wt} {b : Option Spn} {pv : Value} {p : Pt} {l r : List Tsk} {tk : Tsk}
theorem goesOn_node (m : Nat) (h : Sta w B S W An nn cn At nt ct ns t g a left v xs b pv p (Tsk.node (m : Int) :: r)) (hwk : WOK ns t g a (Tsk.node (m : Int) :: r,p)) (hT : ∀ (wz : World) (pv' : Value),Sta wz B S W An nn cn At nt ct ns t g a left v xs b pv' p r → Calls Try.prog 55 #[.pointer (some ⟨S,0,none⟩),.pointer (some ⟨W,0,none⟩),.int .i64 (m : Int)] wz (GoP wz B S W An nn cn At nt ct ns t g a left v xs b ((nexts ns t (.node (m : Int)) p).map (ahead r)))) :
    Calls Try.prog 50 #[.pointer (some ⟨S,0,none⟩),.pointer (some ⟨W,0,none⟩)] w (GoP w B S W An nn cn At nt ct ns t g a left v xs b ((nexts ns t (Tsk.node (m : Int)) p).map (ahead r))):=by
 obtain ⟨cb,k0,n0,u0,q0,pv',rfl,hc,ht,hr⟩:=h.row.head
 obtain ⟨rfl,rfl,rfl,rfl⟩:=ht
 obtain ⟨px,rfl⟩:=hr.ptr
 have ⟨f0,f1,f2,f3,f4⟩:=cell5 hc
 have p21:=h.p21
 have t21:=h.way.thawed 21
 have hWl:=h.way.lt
 have hcl:=hc.lt
 have hcW : cb ≠ W:=hc.apart h.way (by decide)
 have hSl:=h.s.held.lt
 have hSW:=h.ne
 have hPop:=lhi (h.pop' hr 0 (m : Int) 0 0)
 have hC:=lhi (hT _ _ hPop.out.st)
 clear h hr hc hwk hT
 generalize (nexts ns t (.node (m : Int)) p).map (ahead r) = L at *
 go_enter Try.func50,Try.ntmps50
 go_wp2_with (go_at_call 55;refine (hC.out).mono ?_;intro e w3 hg;obtain ⟨rb,rfl⟩:=hg.ret;replace hg:=lhi (hg.from hPop.out.ch))
 go_ret
 exact hg.out
theorem goesOn_same (n k : Int) (h : Sta w B S W An nn cn At nt ct ns t g a left v xs b pv p (Tsk.times n k p.i :: r)) (hwk : WOK ns t g a (Tsk.times n k p.i :: r,p)) :
    Calls Try.prog 50 #[.pointer (some ⟨S,0,none⟩),.pointer (some ⟨W,0,none⟩)] w (GoP w B S W An nn cn At nt ct ns t g a left v xs b ((nexts ns t (Tsk.times n k p.i) p).map (ahead r))):=by
 obtain ⟨cb,k0,n0,u0,q0,pv',rfl,hc,ht,hr⟩:=h.row.head
 obtain ⟨rfl,rfl,rfl,rfl⟩:=ht
 have hnx : (nexts ns t (.times n0 u0 p.i) p).map (ahead r) = if u0 ≤ (ndA ns n0).lo then [(r,p)] else []:=by
  rw [next_same]
  split <;> rfl
 rw [hnx]
 clear hnx
 obtain ⟨⟨n1,n2⟩,_,_,_,_⟩:=hwk.toks _ List.mem_cons_self
 obtain ⟨m,rfl⟩:=Int.eq_ofNat_of_zero_le n1
 have hm : m < ns.length:=by omega
 have hmn : m < nn:=by have:=h.s.thru.nn_;omega
 obtain ⟨ad,bb,oo,rfl,hp,hbb,hrg⟩:=h.s.thru.node' hm
 obtain ⟨px,rfl⟩:=hr.ptr
 have ⟨f0,f1,f2,f3,f4⟩:=cell5 hc
 have p21:=h.p21
 have t21:=h.way.thawed 21
 have hWl:=h.way.lt
 have hcl:=hc.lt
 have hcW : cb ≠ W:=hc.apart h.way (by decide)
 have hSl:=h.s.held.lt
 have hSW:=h.ne
 have hPop:=lhi (h.pop' hr 2 (m : Int) u0 (p.i : Int))
 have hd3:=lhi (fun w' (hb : Below B w w') => (node_cells (range_below hrg hb hbb)).2.1)
 have hlowz:=lhi (h.low hPop.out.ch)
 clear h hr hc hwk hrg
 by_cases hle : u0 ≤ (ndA ns (m : Int)).lo
 · rw [if_pos hle]
   have hdle:=lhi (show decide (u0 ≤ (ndA ns (m : Int)).lo) = true from decide_eq_true hle)
   replace hle:=lhi hle
   go_enter Try.func50,Try.ntmps50
   go_wp2
   clear f0 f1 f2 f3 f4 p21 t21
   generalize (w.setCell ⟨W,21,none⟩ (.pointer px)).alloc (.cells #[.int .i64 2,.int .i64 (m : Int),.int .i64 u0,.int .i64 (p.i : Int)] 89) = wz at *
   have ⟨k0,k1,k2,k3⟩:=cell4 hPop.out.tk
   have p0:=hPop.out.st.p0
   have c0:=hPop.out.st.c0
   have d3:=hd3.out wz hlowz.out
   have g1 : ((p.i : Int) == (p.i : Int)) = true:=by simp
   have hle2:=hdle.out
   have hle3:=hle.out
   go_quiet (fail)
   go_wp2
   go_quiet (fail)
   go_wp2
   go_ret
   exact ((hPop.out.st.stay hPop.out.ch rfl).later (below_drewN (below_drewN (Below.refl _ _) _) _))
 · rw [if_neg hle]
   have hdle:=lhi (show decide (u0 ≤ (ndA ns (m : Int)).lo) = false from decide_eq_false hle)
   replace hle:=lhi hle
   go_enter Try.func50,Try.ntmps50
   go_wp2
   clear f0 f1 f2 f3 f4 p21 t21
   generalize (w.setCell ⟨W,21,none⟩ (.pointer px)).alloc (.cells #[.int .i64 2,.int .i64 (m : Int),.int .i64 u0,.int .i64 (p.i : Int)] 89) = wz at *
   have ⟨k0,k1,k2,k3⟩:=cell4 hPop.out.tk
   have p0:=hPop.out.st.p0
   have c0:=hPop.out.st.c0
   have d3:=hd3.out wz hlowz.out
   have g1 : ((p.i : Int) == (p.i : Int)) = true:=by simp
   have hle2:=hdle.out
   have hle3:=hle.out
   go_quiet (fail)
   go_wp2
   go_quiet (fail)
   go_wp2
   go_ret
   exact ((hPop.out.st.gone hPop.out.ch rfl).later (below_drewN (below_drewN (Below.refl _ _) _) _))
theorem goesOn_times (n k : Int) (z : Nat) (hz : p.i ≠ z) (h : Sta w B S W An nn cn At nt ct ns t g a left v xs b pv p (Tsk.times n k z :: r)) (hwk : WOK ns t g a (Tsk.times n k z :: r,p)) (hT : ∀ (wz : World) (pv' : Value) (m : Nat),n = (m : Int) → Sta wz B S W An nn cn At nt ct ns t g a left v xs b pv' p r → Calls Try.prog 54 #[.pointer (some ⟨S,0,none⟩),.pointer (some ⟨W,0,none⟩),.int .i64 (m : Int),.int .i64 k] wz fun e w' => e = .returned (.tuple #[]) ∧ GoP wz B S W An nn cn At nt ct ns t g a left v xs b (smL ns m k p r) (.returned (.bool true)) w') :
    Calls Try.prog 50 #[.pointer (some ⟨S,0,none⟩),.pointer (some ⟨W,0,none⟩)] w (GoP w B S W An nn cn At nt ct ns t g a left v xs b ((nexts ns t (Tsk.times n k z) p).map (ahead r))):=by
 obtain ⟨cb,k0,n0,u0,q0,pv',rfl,hc,ht,hr⟩:=h.row.head
 obtain ⟨rfl,rfl,rfl,rfl⟩:=ht
 obtain ⟨⟨n1,n2⟩,_,_,_,_⟩:=hwk.toks _ List.mem_cons_self
 obtain ⟨m,rfl⟩:=Int.eq_ofNat_of_zero_le n1
 have hnx : (nexts ns t (.times (m : Int) u0 z) p).map (ahead r) = smL ns m u0 p r:=by rw [next_on hz];rfl
 rw [hnx]
 clear hnx
 obtain ⟨px,rfl⟩:=hr.ptr
 have ⟨f0,f1,f2,f3,f4⟩:=cell5 hc
 have p21:=h.p21
 have t21:=h.way.thawed 21
 have hWl:=h.way.lt
 have hcl:=hc.lt
 have hcW : cb ≠ W:=hc.apart h.way (by decide)
 have hSl:=h.s.held.lt
 have hSW:=h.ne
 have hPop:=lhi (h.pop' hr 2 (m : Int) u0 (z : Int))
 have hC:=lhi (fun w1 (hb : Below ((w.setCell ⟨W,21,none⟩ (.pointer px)).alloc (.cells #[.int .i64 2,.int .i64 (m : Int),.int .i64 u0,.int .i64 (z : Int)] 89)).heap.size ((w.setCell ⟨W,21,none⟩ (.pointer px)).alloc (.cells #[.int .i64 2,.int .i64 (m : Int),.int .i64 u0,.int .i64 (z : Int)] 89)) w1) => And.intro (hT w1 _ m rfl (hPop.out.st.keep hb)) (hPop.out.ch.trans (Chm.of_below hb)))
 have hg:=lhi (show ((p.i : Int) == (z : Int)) = false ∧ (p.i == z) = false from ⟨by rw [bef];omega,by rw [bef];omega⟩)
 clear h hr hc hwk hT n2 n1
 replace hz:=lhi hz
 generalize smL ns m u0 p r = L at *
 go_enter Try.func50,Try.ntmps50
 go_wp2
 clear f0 f1 f2 f3 f4 p21 t21
 generalize (w.setCell ⟨W,21,none⟩ (.pointer px)).alloc (.cells #[.int .i64 2,.int .i64 (m : Int),.int .i64 u0,.int .i64 (z : Int)] 89) = wz at *
 have ⟨k0,k1,k2,k3⟩:=cell4 hPop.out.tk
 have p0:=hPop.out.st.p0
 have ⟨g1,g2⟩:=hg.out
 go_quiet (fail)
 go_wp2_with (go_at_call 54;refine ((hC.out _ (below_drewN (Below.refl _ _) _)).1).mono ?_;rintro e w3 ⟨rfl,hgo⟩;replace hgo:=lhi (hgo.from (hC.out _ (below_drewN (Below.refl _ _) _)).2))
 go_ret
 exact hgo.out
end
section
variable {w w1 w' : World} {B S W : Nat} {An : Option Addr} {nn cn : Nat} {At : Option Addr} {nt ct : Nat} {ns : List Nod} {t : List UInt8} {g : Int} {a left : Nat} {v v' : Value} {xs : List Wt} {b : Option Spn} {pv : Value} {p : Pt} {l r : List Tsk} {tk : Tsk}
theorem takesNode_any (m : Nat) (h : Sta w B S W An nn cn At nt ct ns t g a left v xs b pv p l) (hn : m < ns.length) (hwk : WOK ns t g a (.node (m : Int) :: l,p)) (hf : xs.length + 1 + left ≤ 1000001) :
    Calls Try.prog 55 #[.pointer (some ⟨S,0,none⟩),.pointer (some ⟨W,0,none⟩),.int .i64 (m : Int)] w (GoP w B S W An nn cn At nt ct ns t g a left v xs b ((nexts ns t (.node (m : Int)) p).map (ahead l))):=by
 have hK:=(h.s.thru.rt.2.2 (m : Int) (by omega) (by omega)).1
 by_cases h0 : (ndA ns (m : Int)).kind = 0
 · exact takesNode_0 m h hn h0 hwk
 by_cases h1 : (ndA ns (m : Int)).kind = 1
 · exact takesNode_1 m h hn h1 hwk
 by_cases h2 : (ndA ns (m : Int)).kind = 2
 · exact takesNode_2 m h hn h2 hwk
 by_cases h3 : (ndA ns (m : Int)).kind = 3
 · exact takesNode_3 m h hn h3 hwk hf
 by_cases h4 : (ndA ns (m : Int)).kind = 4
 · exact takesNode_4 m h hn h4 hwk hf
 by_cases h5 : (ndA ns (m : Int)).kind = 5
 · exact takesNode_5 m h hn h5 hwk
 by_cases h6 : (ndA ns (m : Int)).kind = 6
 · exact takesNode_6 m h hn h6 hwk
 by_cases h7 : (ndA ns (m : Int)).kind = 7
 · exact takesNode_7 m h hn h7 hwk
 · exact takesNode_8 m h hn (by omega) hwk
theorem goesOn_any (h : Sta w B S W An nn cn At nt ct ns t g a left v xs b pv p (tk :: r)) (hwk : WOK ns t g a (tk :: r,p)) (hf : xs.length + 1 + left ≤ 1000001) :
    Calls Try.prog 50 #[.pointer (some ⟨S,0,none⟩),.pointer (some ⟨W,0,none⟩)] w (GoP w B S W An nn cn At nt ct ns t g a left v xs b ((nexts ns t tk p).map (ahead r))):=by
 have ht:=hwk.toks tk List.mem_cons_self
 cases tk with
 | node n =>
  have n1 : 0 ≤ n ∧ n < ns.length:=ht
  obtain ⟨m,rfl⟩:=Int.eq_ofNat_of_zero_le n1.1
  exact goesOn_node m h hwk fun wz pv' hz => takesNode_any m hz (by omega) hwk hf
 | gend d z => exact goesOn_gend d z h hwk
 | times n k z =>
  obtain ⟨t1,t2,t3,t4,t5⟩:=ht
  have hi : p.i ≤ t.length:=hwk.hi
  have htl:=h.s.thru.tl
  have hnt:=h.s.thru.nt_
  replace t5 : z ≤ p.i:=t5
  by_cases hz : p.i = z
  · subst hz
    exact goesOn_same n k h hwk
  · exact goesOn_times n k z hz h hwk fun wz pv' m hm hs => soMany_any m k hs (by omega) (by rw [← hm];exact t2) (by omega) hi hf
theorem Sta.spent (h : Sta w B S W An nn cn At nt ct ns t g a (left + 1) v xs b pv p l) {z : Int} (hz : z = (left : Int)) : Sta (w.setCell ⟨S,3,none⟩ (.int .i64 z)) B S W An nn cn At nt ct ns t g a left v xs b pv p l ∧ Chm w (w.setCell ⟨S,3,none⟩ (.int .i64 z)) S W v v:=by
 subst hz
 have hg:=grown_cell w S 3 (.int .i64 (left : Int))
 exact ⟨⟨h.s.turned hg (by have:=h.s.held.put 3 (.int .i64 (left : Int));exact this) (Nat.le_succ _),h.way.far (a:=⟨S,3,none⟩) (fun e => h.ne e.symm) _,h.row.keep fun b cs hc => hc.grown hg (fun e => hc.apart h.s.held (by decide) (Option.some.inj e)),h.apart,h.base⟩,Chm.of_grown hg (.inl rfl)⟩
end
inductive EndP (w : World) (B S W : Nat) (An : Option Addr) (nn cn : Nat) (At : Option Addr) (nt ct : Nat) (ns : List Nod) (t : List UInt8) (g : Int) (a left : Nat) (v : Value) (xs : List Wt) (b : Option Spn) (x : Wy) : Ending → World → Prop
 | dry {w' : World} {v' : Value} (h : Over ns t (x :: xs.map wyW) left) (hc : Chm w w' S W v v') : EndP w B S W An nn cn At nt ct ns t g a left v xs b x (.returned (.bool false)) w'
 | done {w' : World} {v' : Value} {xs' : List Wt} {left' c : Nat} {hs : List Pt} (h : Srch w' B S An nn cn At nt ct ns t g a left' v' xs' (bestF b (hs.map (hitS a)))) (hc : Chm w w' S W v v') (he : Eqv ns t (x :: xs.map wyW) (xs'.map wyW) c hs) (hl : left' + c = left) (hk : ∀ y ∈ xs',WOK ns t g a (wyW y)) (hf : xs'.length + left' ≤ xs.length + left) : EndP w B S W An nn cn At nt ct ns t g a left v xs b x (.returned (.bool true)) w'
structure RelE (w : World) (B S W : Nat) (An : Option Addr) (nn cn : Nat) (At : Option Addr) (nt ct : Nat) (ns : List Nod) (t : List UInt8) (g : Int) (a left : Nat) (v : Value) (xs : List Wt) (b : Option Spn) (x : Wy) (v1 : Value) (xs1 : List Wt) (left1 : Nat) (pv1 : Value) (p1 : Pt) (l1 : List Tsk) (c : Nat) (wr : World) : Prop where
 st : Sta wr B S W An nn cn At nt ct ns t g a left1 v1 xs1 b pv1 p1 l1
 ch : Chm w wr S W v v1
 eq : Eqv ns t (x :: xs.map wyW) ((l1,p1) :: xs1.map wyW) c []
 le : left1 + c = left
 ok : WOK ns t g a (l1,p1)
 oks : ∀ y ∈ xs1,WOK ns t g a (wyW y)
 few : xs1.length + left1 ≤ xs.length + left
def leftM (S : Nat) (w : World) : Nat:=match w.cell? ⟨S,3,none⟩ with | some (.int _ z) => z.toNat | _ => 0
section
variable {w w1 w' : World} {B S W : Nat} {An : Option Addr} {nn cn : Nat} {At : Option Addr} {nt ct : Nat} {ns : List Nod} {t : List UInt8} {g : Int} {a left : Nat} {v v' : Value} {xs : List Wt} {b : Option Spn} {pv : Value} {p : Pt} {l r : List Tsk} {tk : Tsk} {x : Wy} {v1 : Value} {xs1 : List Wt} {left1 c : Nat} {pv1 : Value} {p1 : Pt} {wr : World}
theorem leftM_at (h : Sta w B S W An nn cn At nt ct ns t g a left v xs b pv p l) : leftM S w = left:=by unfold leftM;rw [h.c3];rfl
theorem RelE.gone (h : RelE w B S W An nn cn At nt ct ns t g a left v xs b x v1 xs1 (left1 + 1) pv1 p1 (tk :: r) c wr) {w2 w3 : World} (hc2 : Chm wr w2 S W v1 v1) (hg : GoP w2 B S W An nn cn At nt ct ns t g a left1 v1 xs1 b ((nexts ns t tk p1).map (ahead r)) (.returned (.bool false)) w3) : EndP w B S W An nn cn At nt ct ns t g a left v xs b x (.returned (.bool true)) w3:=by
 cases hg with
 | gone hL hs hw hc =>
  have he:=Eqv.trans h.eq (Eqv.step (ns:=ns) (t:=t) (tk:=tk) (r:=r) (p:=p1) (s:=xs1.map wyW))
  rw [hL] at he
  have hle:=h.le
  have hfw:=h.few
  have e0 : bestF b [] = b:=by cases b <;> rfl
  exact .done (hs:=[]) (by rw [List.map_nil,e0];exact hs) ((h.ch.trans hc2).trans hc) he (by omega) h.oks (by omega)
theorem RelE.goes (h : RelE w B S W An nn cn At nt ct ns t g a left v xs b x v1 xs1 (left1 + 1) pv1 p1 (tk :: r) c wr) (hr : Rt ns g) {w2 w3 : World} (hc2 : Chm wr w2 S W v1 v1) (hg : GoP w2 B S W An nn cn At nt ct ns t g a left1 v1 xs1 b ((nexts ns t tk p1).map (ahead r)) (.returned (.bool true)) w3) : ∃ v2 xs2 pv2 p2 l2 c2,RelE w B S W An nn cn At nt ct ns t g a left v xs b x v2 xs2 left1 pv2 p2 l2 c2 w3:=by
 cases hg with
 | @goes _ v2 pv2 p2 l2 ys hs hc hy hp =>
  have hok:=h.ok.next hr
  have hle:=h.le
  have hfw:=h.few
  have hm : ∀ y ∈ (l2,p2) :: ys.map wyW,WOK ns t g a y:=fun y hy' => hok y (hp.mem_iff.1 hy')
  have he:=Eqv.trans h.eq (Eqv.step (ns:=ns) (t:=t) (tk:=tk) (r:=r) (p:=p1) (s:=xs1.map wyW))
  have hperm : ((nexts ns t tk p1).map (ahead r) ++ xs1.map wyW).Perm ((l2,p2) :: (xs1 ++ ys).map wyW):=by
   rw [List.map_append]
   have h1:=(hp.symm.append_right (xs1.map wyW))
   refine h1.trans ?_
   rw [List.cons_append]
   exact List.Perm.cons _ List.perm_append_comm
  have he2:=he.trans (Eqv.perm hperm)
  refine ⟨v2,xs1 ++ ys,pv2,p2,l2,c + 1 + 0,hs,(h.ch.trans hc2).trans hc,he2,by omega,hm _ List.mem_cons_self,fun y hy' => ?_,by rw [lla];omega⟩
  rcases List.mem_append.1 hy' with hy' | hy'
  · exact h.oks y hy'
  · exact hm _ (List.mem_cons_of_mem _ (List.mem_map.2 ⟨y,hy',rfl⟩))
theorem RelE.dry (h : RelE w B S W An nn cn At nt ct ns t g a left v xs b x v1 xs1 0 pv1 p1 (tk :: r) c wr) : EndP w B S W An nn cn At nt ct ns t g a left v xs b x (.returned (.bool false)) wr:=by
 have hle:=h.le
 exact .dry (h.eq.over (Over.zero (by omega))) h.ch
theorem RelE.hit (h : RelE w B S W An nn cn At nt ct ns t g a left v xs b x v1 xs1 left1 pv1 p1 [] c wr) {w3 : World} (hs : Srch w3 B S An nn cn At nt ct ns t g a left1 v1 xs1 (bestF b [hitS a p1])) (hc : Chm wr w3 S W v1 v1) : EndP w B S W An nn cn At nt ct ns t g a left v xs b x (.returned (.bool true)) w3:=by
 have he:=Eqv.trans h.eq (Eqv.hit (ns:=ns) (t:=t) (p:=p1) (s:=xs1.map wyW))
 have hle:=h.le
 exact .done (hs:=[p1]) hs (h.ch.trans hc) he (by omega) h.oks h.few
theorem toItsEnd_any (h : Sta w B S W An nn cn At nt ct ns t g a left v xs b pv p l) (hwk : WOK ns t g a (l,p)) (hoks : ∀ y ∈ xs,WOK ns t g a (wyW y)) (hf : xs.length + left ≤ 1000000) :
    Calls Try.prog 35 #[.pointer (some ⟨S,0,none⟩),.pointer (some ⟨W,0,none⟩)] w (EndP w B S W An nn cn At nt ct ns t g a left v xs b (l,p)):=by
 have hr:=h.s.thru.rt
 have h0:=lhi (show RelE w B S W An nn cn At nt ct ns t g a left v xs b (l,p) v xs left pv p l 0 w from ⟨h,Chm.of_below (Below.refl _ _),Eqv.refl _,by omega,hwk,hoks,nlr _⟩)
 clear h hwk hoks
 go_enter Try.func35,Try.ntmps35
 go_wp2
 go_loopw [] (fun wr => ∃ v1 xs1 left1 pv1 p1 l1 c,Hid (RelE w B S W An nn cn At nt ct ns t g a left v xs b (l,p) v1 xs1 left1 pv1 p1 l1 c wr)) (fun wr => leftM S wr)
 case atStart => exact ⟨v,xs,left,pv,p,l,0,h0⟩
 case round =>
  obtain ⟨v1,xs1,left1,pv1,p1,l1,c,hR⟩:=hrel
  clear h0
  have hrow:=hR.out.st.row
  have p21:=hR.out.st.p21
  have c3:=hR.out.st.c3
  have t3:=hR.out.st.s.held.thawed 3
  have hm:=lhi (leftM_at hR.out.st)
  have hfw:=hR.out.few
  have hlw:=hR.out.le
  cases l1 with
  | nil =>
   cases hrow
   have hM:=lhi (matched_any hR.out.st)
   have hE:=lhi (fun w3 hs hc => hR.out.hit (w3:=w3) hs hc)
   clear hR hfw hlw
   go_wp2_with (go_at_call 51;refine (hM.out).mono ?_;rintro e w3 ⟨rfl,hs,hc⟩;replace hE:=lhi (hE.out w3 hs hc);clear hs hc)
   go_ret
   exact hE.out
  | cons tk r =>
   obtain ⟨cb,k0,n0,u0,q0,pv',rfl,-,-,-⟩:=hrow.head
   cases left1 with
   | zero =>
    have hE:=lhi hR.out.dry
    clear hR hfw hlw hrow
    go_wp2
    go_ret
    exact hE.out
   | succ left1 =>
    have hne : (((left1 + 1 : Nat) : Int) == 0) = false:=by rw [bef];omega
    have hne2 : (((left1 : Int) + 1) == 0) = false:=by rw [bef];omega
    have hw1 : IntKind.i64.wrap (((left1 + 1 : Nat) : Int) - 1) = (left1 : Int):=by rw [IntWalk.i64_in _ (by omega)];omega
    have hsp:=lhi (hR.out.st.spent (z:=(left1 : Int)) rfl)
    have hG:=lhi (goesOn_any hsp.out.1 hR.out.ok (by omega))
    have hE:=lhi (fun w3 hg => hR.out.gone hsp.out.2 (w3:=w3) hg)
    have hN:=lhi (fun w3 hg => hR.out.goes hr hsp.out.2 (w3:=w3) hg)
    have hm2:=lhi (show leftM S wr = left1 + 1 from hm.out)
    clear hR hfw hlw hrow hm
    generalize hL1 : (((left1 + 1 : Nat)) : Int) = L1 at *
    replace hL1:=lhi hL1
    go_wp2_with (go_at_call 50;refine (hG.out).mono ?_;intro e w3 hg;obtain ⟨rb,rfl⟩:=hg.ret;cases rb <;> replace hg:=lhi hg)
    · go_ret
      exact hE.out _ hg.out
    · obtain ⟨v2,xs2,pv2,p2,l2,c2,hq⟩:=hN.out _ hg.out
      go_roundw
      case rel => exact ⟨v2,xs2,left1,pv2,p2,l2,c2,lhi hq⟩
      case measure => rw [leftM_at hq.st,hm2.out];omega
end
structure AllP (w : World) (S : Nat) (An : Option Addr) (nn cn : Nat) (At : Option Addr) (nt ct : Nat) (ns : List Nod) (t : List UInt8) (a M : Nat) (e : Ending) (w' : World) : Prop where
 gr : Below S w w'
 told : (e = .returned (.bool false) ∧ Told11 ns t ((ns.length : Int) - 1) a M none) ∨ (∃ (b : Option Spn) (left : Nat) (v : Value),e = .returned (.bool true) ∧ Held w' S 57 (srchC An nn cn At nt ct a left v b) ∧ Told11 ns t ((ns.length : Int) - 1) a M (some (b,(left : Int))))
def wtM (S : Nat) (w : World) : Nat:=match w.cell? ⟨S,3,none⟩,w.cell? ⟨S,4,none⟩ with | some (.int _ z),some (.slice _ n _) => 2 * z.toNat + n | _,_ => 0
structure RelA (w : World) (B S : Nat) (An : Option Addr) (nn cn : Nat) (At : Option Addr) (nt ct : Nat) (ns : List Nod) (t : List UInt8) (g : Int) (a M : Nat) (v : Value) (xs : List Wt) (left c : Nat) (hs : List Pt) (wr : World) : Prop where
 s : Srch wr B S An nn cn At nt ct ns t g a left v xs (bestF none (hs.map (hitS a)))
 gr : Below B w wr
 eq : Eqv ns t [([.node ((ns.length : Int) - 1)],pt0 a)] (xs.map wyW) c hs
 le : left + c = M
 oks : ∀ y ∈ xs,WOK ns t g a (wyW y)
 few : xs.length + left ≤ 1000000
theorem build_way0 (a : Int) (w : World) : (Instr.build 86 #[(0,.int .i64 a),(1,.agg (hitC spNo))]).run Try.prog w = .ok (.agg #[.int .i64 a,.int .i64 (-1),.int .i64 (-1),.int .i64 (-1),.int .i64 (-1),.int .i64 (-1),.int .i64 (-1),.int .i64 (-1),.int .i64 (-1),.int .i64 (-1),.int .i64 (-1),.int .i64 (-1),.int .i64 (-1),.int .i64 (-1),.int .i64 (-1),.int .i64 (-1),.int .i64 (-1),.int .i64 (-1),.int .i64 (-1),.int .i64 (-1),.int .i64 (-1),.pointer none]) w:=run_build w _ _ _ (by kernel_rfl)
theorem yields_way0 {ops : Array Oper} {S : World → Prop} {o : Oper} {ac : Act} (a : Nat) (x y : Operand) (hgd : o.guard = none) (ho : o.op = .build 86 #[(0,x),(1,y)]) (hx : ac.eval x = .int .i64 (a : Int)) (hy : ac.eval y = .agg (hitC spNo)) : YieldsIf Try.prog ops S o (.agg (wayC (pt0 a) (.pointer none))) ac :=
 Or.inl ⟨by simp [Region.wanted,hgd],fun w _ => by
  unfold execOp
  simp only [ho,Sem.run_bind,List.map_toArray,List.map_cons,List.map_nil,hx,hy,build_way0,Result.andThen_ok]
  rfl⟩
theorem step_store_way {ops : Array Oper} {o : Oper} {a : Act} {w : World} {K : Act → World → Prop} {Q : Exit → Act → World → Prop} {E : Prop} (x y : Operand) (hgd : o.guard = none) (ho : o.op = .store 86 x y) (O : Nat) (hx : a.eval x = .pointer (some ⟨O,0,none⟩)) (C : Array Value) (hy : a.eval y = .agg C) (old : Array Value) (hh : Held w O 86 old) (hs : C.size = 22) (ho2 : old.size = 22) (h1 : C.all (·.oneCell') = true)
    (h : K (a.put o.dst undef) (w.setRow O C)) : if Region.wanted o (yielded ops a.tmps) = true then Oper.wp Try.prog o a w K Q else E:=by
 have hw : Region.wanted o (yielded ops a.tmps) = true:=by simp [Region.wanted,hgd]
 rw [if_pos hw]
 exact wp_store_row 86 x y ho O C hx hy 86 old hh (by rw [hs];exact way_size22) (by rw [hs,ho2]) h1 h
def SA1 (S : Nat) (a : Nat) (w w' : World) : Prop:=Below w.heap.size w w' ∧ w'.cell? ⟨S,2,none⟩ = some (.int .i64 (a : Int))
theorem SA1.below {S a : Nat} {w w1 w2 : World} (h : SA1 S a w w1) (hS : S < w.heap.size) (hb : Below w.heap.size w1 w2) : SA1 S a w w2:=⟨h.1.trans hb,(hb.cell (p:=⟨S,2,none⟩) hS).trans h.2⟩
section
variable {w w1 w' : World} {B S W : Nat} {An : Option Addr} {nn cn : Nat} {At : Option Addr} {nt ct : Nat} {ns : List Nod} {t : List UInt8} {g : Int} {a M left c : Nat} {v v' : Value} {xs : List Wt} {hs : List Pt} {wr : World} {b : Option Spn} {pv : Value} {p : Pt} {l : List Tsk}
theorem own_slice {w : World} {B n : Nat} {v : Value} {xs : List Value} (h : w.ownsRow B 86 22 v n xs) : ∃ A cap,v = .slice A n cap ∧ n ≤ cap ∧ cap ≤ maxLen ∧ ∀ j u,xs[j]? = some u → ∃ ad,A = some ad ∧ w.cell? (ad.add j) = some u:=by
 have hl:=h.1
 obtain ⟨-,⟨rfl,rfl⟩ | ⟨gg,cap,cur,rfl,_,hh,hnc,hcm,hsz,htake⟩⟩:=id h
 · have : xs = []:=by cases xs with | nil => rfl | cons _ _ => simp at hl
   subst this
   exact ⟨none,0,rfl,nlr _,by simp [maxLen],fun j u hj => by simp at hj⟩
 · refine ⟨some ⟨gg,0,none⟩,cap,rfl,hnc,hcm,fun j u hj => ⟨_,rfl,?_⟩⟩
   rw [add_zero_off,h.cellAt j (by rw [← hl];exact (List.getElem?_eq_some_iff.1 hj).1),hj]
theorem wtM_at (h : Srch w B S An nn cn At nt ct ns t g a left v xs b) : wtM S w = 2 * left + xs.length:=by
 obtain ⟨A,cap,rfl,-⟩:=own_slice h.own
 unfold wtM
 rw [h.held.at_ (i:=3) (v:=.int .i64 (left : Int)) rfl,h.held.at_ (i:=4) (v:=.slice A xs.length cap) rfl]
 rfl
end
end Go.Proofs.Ytjopmieaikgbcaa
