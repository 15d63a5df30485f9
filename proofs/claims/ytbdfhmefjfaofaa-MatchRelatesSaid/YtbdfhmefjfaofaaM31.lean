/- Contracts and plain facts: M31. -/
import Derived.Test.YtbdfhmefjfaofaaM25
import Derived.BigRegion
set_option linter.unusedVariables false
set_option linter.unusedSimpArgs false
set_option maxRecDepth 100000
set_option maxHeartbeats 32000000
namespace Go.Proofs.Ytbdfhmefjfaofaa
open Go.RowKit
theorem way_span (p : Pt) (pv : Value) {q : Nat} (h : q < 10) (x y : Int) : ((wayC p pv).setIfInBounds (1 + q * 2) (.int .i64 x)).setIfInBounds (1 + q * 2 + 1) (.int .i64 y) = wayC ⟨p.i,setSp p.sp q (x,y)⟩ pv:=by
 have : q = 0 ∨ q = 1 ∨ q = 2 ∨ q = 3 ∨ q = 4 ∨ q = 5 ∨ q = 6 ∨ q = 7 ∨ q = 8 ∨ q = 9:=by omega
 rcases this with rfl | rfl | rfl | rfl | rfl | rfl | rfl | rfl | rfl | rfl <;> rfl
section
variable {w w1 w' : World} {B S W : Nat} {An : Option Addr} {nn cn : Nat} {At : Option Addr} {nt ct : Nat} {ns : List Nod} {t : List UInt8} {g : Int} {a left : Nat} {v v' : Value} {xs : List Wt} {b : Option Spn} {pv : Value} {p : Pt} {l r : List Tsk} {tk : Tsk}
theorem RowAt.head (h : RowAt w ns pv (tk :: r)) : ∃ cb k n u q pv',pv = .pointer (some ⟨cb,0,none⟩) ∧ Held w cb 107 #[.int .i64 k,.int .i64 n,.int .i64 u,.int .i64 q,pv'] ∧ TkC ns tk k n u q ∧ RowAt w ns pv' r:=by
 cases h with
 | cons hc ht hr => exact ⟨_,_,_,_,_,_,rfl,hc,ht,hr⟩
theorem Sta.pop (h : Sta w B S W An nn cn At nt ct ns t g a left v xs b pv p l) {pv' : Value} (hr : RowAt w ns pv' r) (o : Obj) : Sta ((w.setCell ⟨W,21,none⟩ pv').alloc o) B S W An nn cn At nt ct ns t g a left v xs b pv' p r ∧ Chm w ((w.setCell ⟨W,21,none⟩ pv').alloc o) S W v v:=by
 obtain ⟨q1,q2⟩:=h.wayed (grown_cell w W 21 pv') (p':=p) (pv':=pv') (l':=r) (by have:=h.way.put 21 pv';rwa [way_row] at this) (hr.keep fun b cs hc => hc.grown (grown_cell _ W 21 _) (fun e => hc.apart h.way (by decide) (Option.some.inj e)))
 have hb : Below (w.setCell ⟨W,21,none⟩ pv').heap.size (w.setCell ⟨W,21,none⟩ pv') ((w.setCell ⟨W,21,none⟩ pv').alloc o):=(Below.refl _ _).alloc (nlr _) o
 exact ⟨q1.keep hb,q2.trans (Chm.of_below hb)⟩
theorem cell5 {cb : Nat} {x0 x1 x2 x3 x4 : Value} (h : Held w cb 107 #[x0,x1,x2,x3,x4]) : w.cell? ⟨cb,0,none⟩ = some x0 ∧ w.cell? ⟨cb,1,none⟩ = some x1 ∧ w.cell? ⟨cb,2,none⟩ = some x2 ∧ w.cell? ⟨cb,3,none⟩ = some x3 ∧ w.cell? ⟨cb,4,none⟩ = some x4:=⟨h.at_ rfl,h.at_ rfl,h.at_ rfl,h.at_ rfl,h.at_ rfl⟩
structure Pop (w : World) (B S W : Nat) (An : Option Addr) (nn cn : Nat) (At : Option Addr) (nt ct : Nat) (ns : List Nod) (t : List UInt8) (g : Int) (a left : Nat) (v : Value) (xs : List Wt) (b : Option Spn) (p : Pt) (r : List Tsk) (k n u q : Int) (pv' : Value) (wz : World) : Prop where
 st : Sta wz B S W An nn cn At nt ct ns t g a left v xs b pv' p r
 ch : Chm w wz S W v v
 tk : Held wz w.heap.size 89 #[.int .i64 k,.int .i64 n,.int .i64 u,.int .i64 q]
theorem Sta.pop' (h : Sta w B S W An nn cn At nt ct ns t g a left v xs b pv p l) {pv' : Value} (hr : RowAt w ns pv' r) (k n u q : Int) : Pop w B S W An nn cn At nt ct ns t g a left v xs b p r k n u q pv' ((w.setCell ⟨W,21,none⟩ pv').alloc (.cells #[.int .i64 k,.int .i64 n,.int .i64 u,.int .i64 q] 89)):=by
 obtain ⟨h1,h2⟩:=h.pop hr (.cells #[.int .i64 k,.int .i64 n,.int .i64 u,.int .i64 q] 89)
 refine ⟨h1,h2,?_⟩
 have:=held_new (w.setCell ⟨W,21,none⟩ pv') 89 #[.int .i64 k,.int .i64 n,.int .i64 u,.int .i64 q]
 rwa [World.size_setCell] at this
theorem cell4 {T : TypeId} {cb : Nat} {x0 x1 x2 x3 : Value} (h : Held w cb T #[x0,x1,x2,x3]) : w.cell? ⟨cb,0,none⟩ = some x0 ∧ w.cell? ⟨cb,1,none⟩ = some x1 ∧ w.cell? ⟨cb,2,none⟩ = some x2 ∧ w.cell? ⟨cb,3,none⟩ = some x3:=⟨h.at_ rfl,h.at_ rfl,h.at_ rfl,h.at_ rfl⟩
theorem goesOn_gend (d : Int) (z : Nat) (h : Sta w B S W An nn cn At nt ct ns t g a left v xs b pv p (.gend d z :: r)) (hwk : WOK ns t g a (.gend d z :: r,p)) :
    Calls Try.prog 50 #[.pointer (some ⟨S,0,none⟩),.pointer (some ⟨W,0,none⟩)] w (GoP w B S W An nn cn At nt ct ns t g a left v xs b ((nexts ns t (.gend d z) p).map (ahead r))):=by
 obtain ⟨cb,k,n,u,q,pv',rfl,hc,ht,hr⟩:=h.row.head
 obtain ⟨rfl,⟨n0,n1⟩,hgr,rfl,rfl⟩:=ht
 obtain ⟨px,rfl⟩:=hr.ptr
 obtain ⟨m,rfl⟩:=Int.eq_ofNat_of_zero_le n0
 have hm : m < ns.length:=by omega
 have hmn : m < nn:=by have:=h.s.thru.nn_;omega
 have hd : (1 ≤ d ∧ d ≤ g) ∧ _:=hwk.toks _ List.mem_cons_self
 have hg9:=h.s.thru.rt.2.1
 obtain ⟨j,rfl⟩ : ∃ j : Nat,d = (j : Int):=⟨d.toNat,by omega⟩
 have hj : j < 10:=by omega
 have hnx : (nexts ns t (.gend (j : Int) z) p).map (ahead r) = [(r,⟨p.i,setSp p.sp j ((z : Int),(p.i : Int))⟩)]:=rfl
 rw [hnx]
 obtain ⟨ad,bb,oo,rfl,hp,hbb,hrg⟩:=h.s.thru.node' hm
 have ⟨f0,f1,f2,f3,f4⟩:=cell5 hc
 have p21:=h.p21
 have t21:=h.way.thawed 21
 have hPop:=lhi (h.pop' hr 1 (m : Int) 0 (z : Int))
 have hd5:=lhi (fun w' (hb : Below B w w') => show w'.cell? ⟨bb,oo + 5,none⟩ = some (.int .i64 (j : Int)) from by
  have:=(node_cells (range_below hrg hb hbb)).2.2.2;rwa [hgr] at this)
 have hlowz:=lhi (h.low hPop.out.ch)
 have hWl:=h.way.lt
 have hcl:=hc.lt
 have hcW : cb ≠ W:=hc.apart h.way (by decide)
 have hSl:=h.s.held.lt
 have hSW:=h.ne
 have j0 : (0 : Int) ≤ (j : Int):=by omega
 have j10 : (j : Int) < 10:=by omega
 have hth : (wayC p (.pointer px)).size = 22:=rfl
 clear h hr hc hwk hd hg9 hrg hnx
 go_enter Try.func50,Try.ntmps50
 go_wp2
 clear f0 f1 f2 f3 f4 p21 t21
 generalize (w.setCell ⟨W,21,none⟩ (.pointer px)).alloc (.cells #[.int .i64 1,.int .i64 (m : Int),.int .i64 0,.int .i64 (z : Int)] 89) = wz at *
 have ⟨k0,k1,k2,k3⟩:=cell4 hPop.out.tk
 have p0:=hPop.out.st.p0
 have c0:=hPop.out.st.c0
 have d5:=hd5.out wz hlowz.out
 have hw:=way_range hPop.out.st.way
 have s0 : wz.cell? ⟨W,1 + j * 2,none⟩ = some (.int .i64 (p.sp j).1):=by rw [Nat.mul_comm];exact hw (2 * j) _ (hitL_from p.sp hj)
 have s1 : wz.cell? ⟨W,1 + j * 2 + 1,none⟩ = some (.int .i64 (p.sp j).2):=by rw [Nat.mul_comm,Nat.add_assoc];exact hw (2 * j + 1) _ (hitL_to p.sp hj)
 have t0:=hPop.out.st.way.thawed (1 + j * 2)
 have t1:=hPop.out.st.way.thawed (1 + j * 2 + 1)
 clear hw
 have hfin:=lhi (show GoP w B S W (some ad) nn cn At nt ct ns t g a left v xs b [(r,⟨p.i,setSp p.sp j ((z : Int),(p.i : Int))⟩)] (.returned (.bool true)) ((wz.setCell ⟨W,1 + j * 2,none⟩ (.int .i64 (z : Int))).setCell ⟨W,1 + j * 2 + 1,none⟩ (.int .i64 (p.i : Int))) from by
  have hst:=hPop.out.st
  have hgw:=grown_trans (grown_cell wz W (1 + j * 2) (.int .i64 (z : Int))) (grown_cell _ W (1 + j * 2 + 1) (.int .i64 (p.i : Int)))
  obtain ⟨q1,q2⟩:=hst.wayed hgw (p':=⟨p.i,setSp p.sp j ((z : Int),(p.i : Int))⟩) (pv':=.pointer px) (l':=r) (by have:=(hst.way.put (1 + j * 2) (.int .i64 (z : Int))).put (1 + j * 2 + 1) (.int .i64 (p.i : Int));rwa [way_span p (.pointer px) hj] at this) (hst.row.keep fun b cs hb => hb.grown hgw (fun e => hb.apart hst.way (by decide) (Option.some.inj e)))
  exact .goes (ys:=[]) (by rw [List.append_nil];exact q1) (hPop.out.ch.trans q2) (Nat.zero_le _) (.refl _))
 go_region
 all_goals
  go_wp2
  go_ret
  exact hfin.out.later ((Below.refl _ _).drew)
end
end Go.Proofs.Ytbdfhmefjfaofaa
