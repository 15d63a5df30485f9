/- Contracts and plain facts: M52. -/
import Derived.Test.YtbdfhmefjfaofaaM47
import Derived.Test.YtbdfhmefjfaofaaM51
set_option linter.unusedVariables false
set_option linter.unusedSimpArgs false
set_option maxRecDepth 100000
set_option maxHeartbeats 32000000
namespace Go.Proofs.Ytbdfhmefjfaofaa
open Go.RowKit
section
variable {w w' w1 : World} {B : Nat} {An : Option Addr} {nn cn : Nat} {At : Option Addr} {nt ct : Nat} {ns : List Nod} {t : List UInt8} {g : Int} {a : Nat} {D : Nat} {p : Pt}
theorem reach_6y (m : Nat) (h : Thru w B An nn cn At nt ct ns t g) (hm : m < ns.length) (hp : POK ns t g a p) (hk : (ndA ns (m : Int)).kind = 6) (j : Nat) (hb6 : backAt t (p.sp (ndA ns (m : Int)).grp.toNat) p.i = some j) :
    Calls Try.prog 26 #[.agg #[.slice An nn cn,.int .i64 g],.slice At nt ct,.int .i64 (m : Int),.agg (ptC p)] w (RchQ w ns t m p):=by
 obtain ⟨N0,N1,N2,N3,N4,N5⟩:=nod_at (ndA ns (m : Int))
 rw [hk] at N0
 have hkh:=lhi hk
 have htx:=lhi (show nt = t.length ∧ nt ≤ 1000000 ∧ p.i ≤ t.length from ⟨h.nt_,h.tl,hp.hi⟩)
 have hmn : m < nn:=by have:=h.nn_;omega
 have hmI0 : (0 : Int) ≤ (m : Int):=by omega
 have hmI1 : (m : Int) < (nn : Int):=by omega
 have hph:=lhi hp
 have hThr:=lhi h
 have hrt:=h.rt
 have hgr:=(hrt.2.2 (m : Int) (by omega) (by omega)).2.2.2.2 (.inr hk)
 have hg9:=hrt.2.1
 obtain ⟨q,hq⟩ : ∃ q : Nat,(ndA ns (m : Int)).grp = (q : Int):=⟨(ndA ns (m : Int)).grp.toNat,by omega⟩
 have hb7:=hb6
 rw [hq] at hgr hb7
 rw [hq] at N5
 have hq9 : q < 10:=by omega
 have hsp:=hp.span q
 have hSm:=lhi (fun (w' : World) (hb : Below w.heap.size w w') => show Calls Try.prog 41 #[.slice At nt ct,.agg #[.int .i64 (p.sp q).1,.int .i64 (p.sp q).2],.int .i64 (p.i : Int)] w' (fun e w'' => e = .returned (.int .i64 (samI t (p.sp q) p.i)) ∧ Below w'.heap.size w' w'') from
  rSame_any At nt ct t B p.i (p.sp q).1 (p.sp q).2 w' h.nt_ h.tc h.tl (h.below (hb.mono h.base)).byt (h.below (hb.mono h.base)).base hp.hi (by
   rcases hsp with e | ⟨e1,e2,e3,_⟩
   · left
     have e' : p.sp q = (-1,-1):=e
     rw [e'];exact ⟨rfl,rfl⟩
   · right;exact ⟨e1,e2,e3⟩))
 have hz0 : (ptC p)[1 + q * 2]? = some (.int .i64 (p.sp q).1):=by
  unfold ptC ptL
  rw [List.getElem?_toArray,show 1 + q * 2 = 2 * q + 1 by omega,List.getElem?_cons_succ];exact hitL_from p.sp hq9
 have hz1 : (ptC p)[1 + q * 2 + 1]? = some (.int .i64 (p.sp q).2):=by
  unfold ptC ptL
  rw [List.getElem?_toArray,show 1 + q * 2 + 1 = (2 * q + 1) + 1 by omega,List.getElem?_cons_succ];exact hitL_to p.sp hq9
 have q0 : (0 : Int) ≤ (q : Int):=by omega
 have q10 : (q : Int) < 10:=by omega
 rw [samI_yes (show backAt t (p.sp q) p.i = some j from hb7)] at hSm
 have hdj : decide ((j : Int) < (0 : Int)) = false:=decide_eq_false (by omega)
 have hrl:=lhi (fun q' => show Rel ns t (.node (m : Int)) p q' ↔ q' = ⟨j,p.sp⟩ from by
  rw [rel_back hk,hb6]
  exact ⟨fun ⟨j',h1,h2⟩ => by cases h1;exact h2,fun h1 => ⟨j,rfl,h1⟩⟩)
 clear hb6 hb7 hsp hgr hg9 hrt
 replace hq:=lhi hq
 generalize hx1 : (p.sp q).1 = x1 at *
 generalize hx2 : (p.sp q).2 = x2 at *
 clear hx1 hx2
 obtain ⟨ad,bb,oo,rfl,hpp,hbb,hrn⟩:=h.node' hm
 have hrN:=lhi (fun w' (hb : Below w.heap.size w w') => range_below hrn (hb.mono h.base) hbb)
 have hb2:=lhi (((Below.refl w.heap.size w).alloc (nlr _) (.cells #[.slice (some ad) nn cn,.int .i64 g] 24)).alloc (by simp) (.cells (ptC p) 71))
 have hR2:=lhi (show Held _ w.heap.size 24 #[.slice (some ad) nn cn,.int .i64 g] from (held_new w 24 #[.slice (some ad) nn cn,.int .i64 g]).alloc (.cells (ptC p) 71))
 have hP2:=lhi (show Held _ (w.heap.size + 1) 71 (ptC p) from held_new2 w (.cells #[.slice (some ad) nn cn,.int .i64 g] 24) 71 (ptC p))
 have hl2:=lhi (show ((w.alloc (.cells #[.slice (some ad) nn cn,.int .i64 g] 24)).alloc (.cells (ptC p) 71)).heap.size = w.heap.size + 1 + 1 by simp)
 have hPs:=lhi (show (Try.prog.info? 71).map (·.size) = some (ptC p).size by rw [ptC_size];exact size_pt)
 have hP0 : (ptC p)[0]? = some (.int .i64 (p.i : Int)):=rfl
 have hNl:=lhi (nod_size (ndA ns (m : Int)))
 have hNo:=lhi (nod_cells (ndA ns (m : Int)))
 replace hrn:=lhi hrn
 clear h hp hbb
 generalize hcp : ptC p = CP at *
 replace hcp:=lhi hcp
 replace hk:=lhi hk
 go_enter Try.func26,Try.ntmps26
 go_upto_region 1 with fail
 generalize (w.alloc (.cells #[.slice (some ad) nn cn,.int .i64 g] 24)).alloc (.cells CP 71) = w2 at *
 have r0 : w2.cell? ⟨w.heap.size,0,none⟩ = some (.slice (some ad) nn cn):=hR2.out.at_ rfl
 have hr2:=lhi (hrN.out w2 hb2.out)
 have hnull:=lhi (held_new w2 54 #[.int .i64 0,.int .i64 0,.int .i64 0,.int .i64 0,.int .i64 0,.int .i64 0,.int .u64 0,.int .u64 0,.int .u64 0,.int .u64 0])
 go_upto_region 2 with (first
  | (refine wpList_load_mid rfl 54 (.tmp 23) rfl bb oo rfl (nodL (ndA ns (m : Int))) _ hr2.out Try.underlying54 rfl (by rw [nodL_len];kernel_rfl) ?_)
  | (refine wpList_store_row rfl 54 (.tmp 9) (.tmp 24) rfl w2.heap.size (nodC (ndA ns (m : Int))) rfl rfl 54 _ hnull.out hNl.out rfl hNo.out ?_))
 have hb3:=lhi (below_row (hb2.out.alloc hb2.out.size (.cells #[.int .i64 0,.int .i64 0,.int .i64 0,.int .i64 0,.int .i64 0,.int .i64 0,.int .u64 0,.int .u64 0,.int .u64 0,.int .u64 0] 54)) hb2.out.size (nodC (ndA ns (m : Int))))
 have hl3:=lhi (show w.heap.size ≠ w2.heap.size ∧ w.heap.size + 1 ≠ w2.heap.size by have:=hl2.out;omega)
 have hS3:=lhi (show SRe w.heap.size (w.heap.size + 1) w2.heap.size #[.slice (some ad) nn cn,.int .i64 g] CP (nodC (ndA ns (m : Int))) ((w2.alloc (.cells #[.int .i64 0,.int .i64 0,.int .i64 0,.int .i64 0,.int .i64 0,.int .i64 0,.int .u64 0,.int .u64 0,.int .u64 0,.int .u64 0] 54)).setRow w2.heap.size (nodC (ndA ns (m : Int)))) from
  ⟨(hR2.out.alloc _).row_far (by have:=hl3.out;omega) _,(hP2.out.alloc _).row_far (by have:=hl3.out;omega) _,hnull.out.row _⟩)
 generalize (w2.alloc (.cells #[.int .i64 0,.int .i64 0,.int .i64 0,.int .i64 0,.int .i64 0,.int .i64 0,.int .u64 0,.int .u64 0,.int .u64 0,.int .u64 0] 54)).setRow w2.heap.size (nodC (ndA ns (m : Int))) = w3 at *
 generalize w2.heap.size = H2 at *
 generalize hH1 : w.heap.size + 1 = H1 at *
 clear hb2 hR2 hP2 hr2 hnull r0 hNl hNo hrN hrn hl2 hl3
 generalize hcn : nodC (ndA ns (m : Int)) = CN at *
 replace hcn:=lhi hcn
 replace hH1:=lhi hH1
 have k0 : w3.cell? ⟨H2,0,none⟩ = some (.int .i64 6):=hS3.out.2.2.at_ N0
 have hC:=lhi (hSm.out w3.drew (below_drewN hb3.out 1))
 have hSd:=lhi (show SRe w.heap.size H1 H2 #[.slice (some ad) nn cn,.int .i64 g] CP CN w3.drew from hS3.out.below (below_drewN (Below.refl _ _) 1))
 have N5h:=lhi N5
 have hz0h:=lhi hz0
 have hz1h:=lhi hz1
 have hP0h:=lhi hP0
 clear N0 N1 N2 N3 N4 N5 hz0 hz1 hSm
 go_wp2
 refine wp_region_held_drew (S:=SRe w.heap.size H1 H2 #[.slice (some ad) nn cn,.int .i64 g] CP CN) (by kernel_rfl) hSd.out (fun hS => ?_)
 refine wpAnyH_take (i:=0) (v:=?_) rfl (by kernel_rfl) (by kernel_rfl) (by kernel_rfl) (fun _ _ _ h => h) (Or.inl ⟨by rfl,?_⟩) hS ?_
 rotate_left
 · (intro w' hS';go_simp;try with_reducible rfl)
 (try simp only [Act.put,List.getElem_toArray,List.getElem_cons_zero,List.getElem_cons_succ,List.setIfInBounds_toArray,List.set_cons_zero,List.set_cons_succ])
 refine wpAnyH_take (i:=1) (v:=?_) rfl (by kernel_rfl) (by kernel_rfl) (by kernel_rfl) (fun _ _ _ h => h) (Or.inl ⟨by rfl,?_⟩) hS ?_
 rotate_left
 · (intro w' hS';go_simp;try with_reducible rfl)
 (try simp only [Act.put,List.getElem_toArray,List.getElem_cons_zero,List.getElem_cons_succ,List.setIfInBounds_toArray,List.set_cons_zero,List.set_cons_succ])
 refine wpAnyH_take (i:=2) (v:=?_) rfl (by kernel_rfl) (by kernel_rfl) (by kernel_rfl) (fun _ _ _ h => h) (Or.inl ⟨by rfl,?_⟩) hS ?_
 rotate_left
 · (intro w' hS';have ha : w'.cell? ⟨H2,5,none⟩ = some (.int .i64 (q : Int)):=hS'.2.2.at_ N5h.out;go_simp;try with_reducible rfl)
 (try simp only [Act.put,List.getElem_toArray,List.getElem_cons_zero,List.getElem_cons_succ,List.setIfInBounds_toArray,List.set_cons_zero,List.set_cons_succ])
 refine wpAnyH_take (i:=3) (v:=?_) rfl (by kernel_rfl) (by kernel_rfl) (by kernel_rfl) (fun _ _ _ h => h) (Or.inl ⟨by rfl,?_⟩) hS ?_
 rotate_left
 · (intro w' hS';go_simp;try with_reducible rfl)
 (try simp only [Act.put,List.getElem_toArray,List.getElem_cons_zero,List.getElem_cons_succ,List.setIfInBounds_toArray,List.set_cons_zero,List.set_cons_succ])
 refine wpAnyH_take (i:=4) (v:=?_) rfl (by kernel_rfl) (by kernel_rfl) (by kernel_rfl) (fun _ _ _ h => h) (Or.inl ⟨by rfl,?_⟩) hS ?_
 rotate_left
 · (intro w' hS';go_simp;try with_reducible rfl)
 (try simp only [Act.put,List.getElem_toArray,List.getElem_cons_zero,List.getElem_cons_succ,List.setIfInBounds_toArray,List.set_cons_zero,List.set_cons_succ])
 refine wpAnyH_take (i:=5) (v:=?_) rfl (by kernel_rfl) (by kernel_rfl) (by kernel_rfl) (fun _ _ _ h => h) (Or.inl ⟨by rfl,?_⟩) hS ?_
 rotate_left
 · (intro w' hS';have ha : w'.cell? ⟨H1,1 + q * 2,none⟩ = some (.int .i64 x1):=hS'.2.1.at_ hz0h.out;have hb : w'.cell? ⟨H1,1 + q * 2 + 1,none⟩ = some (.int .i64 x2):=hS'.2.1.at_ hz1h.out;go_simp;try with_reducible rfl)
 (try simp only [Act.put,List.getElem_toArray,List.getElem_cons_zero,List.getElem_cons_succ,List.setIfInBounds_toArray,List.set_cons_zero,List.set_cons_succ])
 refine wpAnyH_take (i:=6) (v:=?_) rfl (by kernel_rfl) (by kernel_rfl) (by kernel_rfl) (fun _ _ _ h => h) (Or.inl ⟨by rfl,?_⟩) hS ?_
 rotate_left
 · (intro w' hS';go_simp;try with_reducible rfl)
 (try simp only [Act.put,List.getElem_toArray,List.getElem_cons_zero,List.getElem_cons_succ,List.setIfInBounds_toArray,List.set_cons_zero,List.set_cons_succ])
 refine wpAnyH_take (i:=7) (v:=?_) rfl (by kernel_rfl) (by kernel_rfl) (by kernel_rfl) (fun _ _ _ h => h) (Or.inl ⟨by rfl,?_⟩) hS ?_
 rotate_left
 · (intro w' hS';have ha : w'.cell? ⟨H1,0,none⟩ = some (.int .i64 (p.i : Int)):=hS'.2.1.at_ hP0h.out;go_simp;try with_reducible rfl)
 (try simp only [Act.put,List.getElem_toArray,List.getElem_cons_zero,List.getElem_cons_succ,List.setIfInBounds_toArray,List.set_cons_zero,List.set_cons_succ])
 refine wpAnyH_ready (rs:=[8]) (by kernel_rfl) (by simp) ?_
 refine AllReadyH.cons rfl (fun K hK => ?_) AllReadyH.nil
 go_simp
 refine hC.out.mono ?_
 rintro e w4 ⟨rfl,hb4'⟩
 go_simp
 refine hK.out _ _ (hS.below hb4') (fun _ => ?_)
 clear hK K
 replace hS:=hS.below hb4'
 (try simp only [Act.put,List.getElem_toArray,List.getElem_cons_zero,List.getElem_cons_succ,List.setIfInBounds_toArray,List.set_cons_zero,List.set_cons_succ])
 refine wpAnyH_take (i:=9) (v:=?_) rfl (by kernel_rfl) (by kernel_rfl) (by kernel_rfl) (fun _ _ _ h => h) (Or.inl ⟨by rfl,?_⟩) hS ?_
 rotate_left
 · (intro w' hS';go_simp;try with_reducible rfl)
 (try simp only [Act.put,List.getElem_toArray,List.getElem_cons_zero,List.getElem_cons_succ,List.setIfInBounds_toArray,List.set_cons_zero,List.set_cons_succ])
 refine wpAnyH_done (by kernel_rfl) ?_ _
 have hB4:=lhi ((below_drewN hb3.out 1).trans (hb4'.mono (below_drewN hb3.out 1).size))
 have hS4:=lhi hS
 clear hb4' hS hSd hC hS3 k0
 have p0 : w4.cell? ⟨H1,0,none⟩ = some (.int .i64 (p.i : Int)):=hS4.out.2.1.at_ hP0
 have y0:=hS4.out.2.1.thawed 0
 have hM:=lhi (show Held (w4.setCell ⟨H1,0,none⟩ (.int .i64 (j : Int))) H1 71 (ptC ⟨j,p.sp⟩) from by
  have h1:=hS4.out.2.1.put 0 (.int .i64 (j : Int))
  rw [← hcp.out] at h1
  exact h1)
 have hB5:=lhi (show Below w.heap.size w (w4.setCell ⟨H1,0,none⟩ (.int .i64 (j : Int))) from hB4.out.setCell (p:=⟨H1,0,none⟩) (by rw [← hH1.out];exact Nat.le_succ _) _)
 have hQs:=lhi (show (Try.prog.info? 71).map (·.size) = some (ptC ⟨j,p.sp⟩).size by rw [ptC_size];exact size_pt)
 generalize hcq : ptC ⟨j,p.sp⟩ = CQ at *
 replace hcq:=lhi hcq
 go_upto_region 43 with fail
 generalize w4.setCell ⟨H1,0,none⟩ (.int .i64 (j : Int)) = w5 at *
 clear p0 y0
 go_wp2_with (first
  | (refine wpList_load_row rfl 71 (.tmp 7) rfl H1 rfl 71 _ (0,0) _ hM.out Try.underlying71 rfl hQs.out ?_)
  | (refine wpList_build_pt rfl (.tmp 171) rfl ⟨j,p.sp⟩ CQ hcq.out rfl ?_))
 go_ret
 refine ⟨⟨_,[⟨j,p.sp⟩],rfl,?_,?_⟩,hB5.out.alloc hB5.out.size _⟩
 · refine ⟨by simp,fun q => ?_⟩
   rw [hrl.out];simp
 · have:=(Pts.one w5 ⟨j,p.sp⟩).mono (b':=w.heap.size) hB5.out.size
   rw [hcq.out] at this
   exact this
theorem reach_6n (m : Nat) (h : Thru w B An nn cn At nt ct ns t g) (hm : m < ns.length) (hp : POK ns t g a p) (hk : (ndA ns (m : Int)).kind = 6) (hb6 : backAt t (p.sp (ndA ns (m : Int)).grp.toNat) p.i = none) :
    Calls Try.prog 26 #[.agg #[.slice An nn cn,.int .i64 g],.slice At nt ct,.int .i64 (m : Int),.agg (ptC p)] w (RchQ w ns t m p):=by
 obtain ⟨N0,N1,N2,N3,N4,N5⟩:=nod_at (ndA ns (m : Int))
 rw [hk] at N0
 have hkh:=lhi hk
 have htx:=lhi (show nt = t.length ∧ nt ≤ 1000000 ∧ p.i ≤ t.length from ⟨h.nt_,h.tl,hp.hi⟩)
 have hmn : m < nn:=by have:=h.nn_;omega
 have hmI0 : (0 : Int) ≤ (m : Int):=by omega
 have hmI1 : (m : Int) < (nn : Int):=by omega
 have hph:=lhi hp
 have hThr:=lhi h
 have hrt:=h.rt
 have hgr:=(hrt.2.2 (m : Int) (by omega) (by omega)).2.2.2.2 (.inr hk)
 have hg9:=hrt.2.1
 obtain ⟨q,hq⟩ : ∃ q : Nat,(ndA ns (m : Int)).grp = (q : Int):=⟨(ndA ns (m : Int)).grp.toNat,by omega⟩
 have hb7:=hb6
 rw [hq] at hgr hb7
 rw [hq] at N5
 have hq9 : q < 10:=by omega
 have hsp:=hp.span q
 have hSm:=lhi (fun (w' : World) (hb : Below w.heap.size w w') => show Calls Try.prog 41 #[.slice At nt ct,.agg #[.int .i64 (p.sp q).1,.int .i64 (p.sp q).2],.int .i64 (p.i : Int)] w' (fun e w'' => e = .returned (.int .i64 (samI t (p.sp q) p.i)) ∧ Below w'.heap.size w' w'') from
  rSame_any At nt ct t B p.i (p.sp q).1 (p.sp q).2 w' h.nt_ h.tc h.tl (h.below (hb.mono h.base)).byt (h.below (hb.mono h.base)).base hp.hi (by
   rcases hsp with e | ⟨e1,e2,e3,_⟩
   · left
     have e' : p.sp q = (-1,-1):=e
     rw [e'];exact ⟨rfl,rfl⟩
   · right;exact ⟨e1,e2,e3⟩))
 have hz0 : (ptC p)[1 + q * 2]? = some (.int .i64 (p.sp q).1):=by
  unfold ptC ptL
  rw [List.getElem?_toArray,show 1 + q * 2 = 2 * q + 1 by omega,List.getElem?_cons_succ];exact hitL_from p.sp hq9
 have hz1 : (ptC p)[1 + q * 2 + 1]? = some (.int .i64 (p.sp q).2):=by
  unfold ptC ptL
  rw [List.getElem?_toArray,show 1 + q * 2 + 1 = (2 * q + 1) + 1 by omega,List.getElem?_cons_succ];exact hitL_to p.sp hq9
 have q0 : (0 : Int) ≤ (q : Int):=by omega
 have q10 : (q : Int) < 10:=by omega
 rw [samI_no (show backAt t (p.sp q) p.i = none from hb7)] at hSm
 have hrl:=lhi (fun q' => show ¬ Rel ns t (.node (m : Int)) p q' from by
  rw [rel_back hk,hb6]
  exact fun ⟨j',h1,h2⟩ => nomatch h1)
 clear hb6 hb7 hsp hgr hg9 hrt
 replace hq:=lhi hq
 generalize hx1 : (p.sp q).1 = x1 at *
 generalize hx2 : (p.sp q).2 = x2 at *
 clear hx1 hx2
 obtain ⟨ad,bb,oo,rfl,hpp,hbb,hrn⟩:=h.node' hm
 have hrN:=lhi (fun w' (hb : Below w.heap.size w w') => range_below hrn (hb.mono h.base) hbb)
 have hb2:=lhi (((Below.refl w.heap.size w).alloc (nlr _) (.cells #[.slice (some ad) nn cn,.int .i64 g] 24)).alloc (by simp) (.cells (ptC p) 71))
 have hR2:=lhi (show Held _ w.heap.size 24 #[.slice (some ad) nn cn,.int .i64 g] from (held_new w 24 #[.slice (some ad) nn cn,.int .i64 g]).alloc (.cells (ptC p) 71))
 have hP2:=lhi (show Held _ (w.heap.size + 1) 71 (ptC p) from held_new2 w (.cells #[.slice (some ad) nn cn,.int .i64 g] 24) 71 (ptC p))
 have hl2:=lhi (show ((w.alloc (.cells #[.slice (some ad) nn cn,.int .i64 g] 24)).alloc (.cells (ptC p) 71)).heap.size = w.heap.size + 1 + 1 by simp)
 have hPs:=lhi (show (Try.prog.info? 71).map (·.size) = some (ptC p).size by rw [ptC_size];exact size_pt)
 have hP0 : (ptC p)[0]? = some (.int .i64 (p.i : Int)):=rfl
 have hNl:=lhi (nod_size (ndA ns (m : Int)))
 have hNo:=lhi (nod_cells (ndA ns (m : Int)))
 replace hrn:=lhi hrn
 clear h hp hbb
 generalize hcp : ptC p = CP at *
 replace hcp:=lhi hcp
 replace hk:=lhi hk
 go_enter Try.func26,Try.ntmps26
 go_upto_region 1 with fail
 generalize (w.alloc (.cells #[.slice (some ad) nn cn,.int .i64 g] 24)).alloc (.cells CP 71) = w2 at *
 have r0 : w2.cell? ⟨w.heap.size,0,none⟩ = some (.slice (some ad) nn cn):=hR2.out.at_ rfl
 have hr2:=lhi (hrN.out w2 hb2.out)
 have hnull:=lhi (held_new w2 54 #[.int .i64 0,.int .i64 0,.int .i64 0,.int .i64 0,.int .i64 0,.int .i64 0,.int .u64 0,.int .u64 0,.int .u64 0,.int .u64 0])
 go_upto_region 2 with (first
  | (refine wpList_load_mid rfl 54 (.tmp 23) rfl bb oo rfl (nodL (ndA ns (m : Int))) _ hr2.out Try.underlying54 rfl (by rw [nodL_len];kernel_rfl) ?_)
  | (refine wpList_store_row rfl 54 (.tmp 9) (.tmp 24) rfl w2.heap.size (nodC (ndA ns (m : Int))) rfl rfl 54 _ hnull.out hNl.out rfl hNo.out ?_))
 have hb3:=lhi (below_row (hb2.out.alloc hb2.out.size (.cells #[.int .i64 0,.int .i64 0,.int .i64 0,.int .i64 0,.int .i64 0,.int .i64 0,.int .u64 0,.int .u64 0,.int .u64 0,.int .u64 0] 54)) hb2.out.size (nodC (ndA ns (m : Int))))
 have hl3:=lhi (show w.heap.size ≠ w2.heap.size ∧ w.heap.size + 1 ≠ w2.heap.size by have:=hl2.out;omega)
 have hS3:=lhi (show SRe w.heap.size (w.heap.size + 1) w2.heap.size #[.slice (some ad) nn cn,.int .i64 g] CP (nodC (ndA ns (m : Int))) ((w2.alloc (.cells #[.int .i64 0,.int .i64 0,.int .i64 0,.int .i64 0,.int .i64 0,.int .i64 0,.int .u64 0,.int .u64 0,.int .u64 0,.int .u64 0] 54)).setRow w2.heap.size (nodC (ndA ns (m : Int)))) from
  ⟨(hR2.out.alloc _).row_far (by have:=hl3.out;omega) _,(hP2.out.alloc _).row_far (by have:=hl3.out;omega) _,hnull.out.row _⟩)
 generalize (w2.alloc (.cells #[.int .i64 0,.int .i64 0,.int .i64 0,.int .i64 0,.int .i64 0,.int .i64 0,.int .u64 0,.int .u64 0,.int .u64 0,.int .u64 0] 54)).setRow w2.heap.size (nodC (ndA ns (m : Int))) = w3 at *
 generalize w2.heap.size = H2 at *
 generalize hH1 : w.heap.size + 1 = H1 at *
 clear hb2 hR2 hP2 hr2 hnull r0 hNl hNo hrN hrn hl2 hl3
 generalize hcn : nodC (ndA ns (m : Int)) = CN at *
 replace hcn:=lhi hcn
 replace hH1:=lhi hH1
 have k0 : w3.cell? ⟨H2,0,none⟩ = some (.int .i64 6):=hS3.out.2.2.at_ N0
 have hC:=lhi (hSm.out w3.drew (below_drewN hb3.out 1))
 have hSd:=lhi (show SRe w.heap.size H1 H2 #[.slice (some ad) nn cn,.int .i64 g] CP CN w3.drew from hS3.out.below (below_drewN (Below.refl _ _) 1))
 have N5h:=lhi N5
 have hz0h:=lhi hz0
 have hz1h:=lhi hz1
 have hP0h:=lhi hP0
 clear N0 N1 N2 N3 N4 N5 hz0 hz1 hSm
 go_wp2
 refine wp_region_held_drew (S:=SRe w.heap.size H1 H2 #[.slice (some ad) nn cn,.int .i64 g] CP CN) (by kernel_rfl) hSd.out (fun hS => ?_)
 refine wpAnyH_take (i:=0) (v:=?_) rfl (by kernel_rfl) (by kernel_rfl) (by kernel_rfl) (fun _ _ _ h => h) (Or.inl ⟨by rfl,?_⟩) hS ?_
 rotate_left
 · (intro w' hS';go_simp;try with_reducible rfl)
 (try simp only [Act.put,List.getElem_toArray,List.getElem_cons_zero,List.getElem_cons_succ,List.setIfInBounds_toArray,List.set_cons_zero,List.set_cons_succ])
 refine wpAnyH_take (i:=1) (v:=?_) rfl (by kernel_rfl) (by kernel_rfl) (by kernel_rfl) (fun _ _ _ h => h) (Or.inl ⟨by rfl,?_⟩) hS ?_
 rotate_left
 · (intro w' hS';go_simp;try with_reducible rfl)
 (try simp only [Act.put,List.getElem_toArray,List.getElem_cons_zero,List.getElem_cons_succ,List.setIfInBounds_toArray,List.set_cons_zero,List.set_cons_succ])
 refine wpAnyH_take (i:=2) (v:=?_) rfl (by kernel_rfl) (by kernel_rfl) (by kernel_rfl) (fun _ _ _ h => h) (Or.inl ⟨by rfl,?_⟩) hS ?_
 rotate_left
 · (intro w' hS';have ha : w'.cell? ⟨H2,5,none⟩ = some (.int .i64 (q : Int)):=hS'.2.2.at_ N5h.out;go_simp;try with_reducible rfl)
 (try simp only [Act.put,List.getElem_toArray,List.getElem_cons_zero,List.getElem_cons_succ,List.setIfInBounds_toArray,List.set_cons_zero,List.set_cons_succ])
 refine wpAnyH_take (i:=3) (v:=?_) rfl (by kernel_rfl) (by kernel_rfl) (by kernel_rfl) (fun _ _ _ h => h) (Or.inl ⟨by rfl,?_⟩) hS ?_
 rotate_left
 · (intro w' hS';go_simp;try with_reducible rfl)
 (try simp only [Act.put,List.getElem_toArray,List.getElem_cons_zero,List.getElem_cons_succ,List.setIfInBounds_toArray,List.set_cons_zero,List.set_cons_succ])
 refine wpAnyH_take (i:=4) (v:=?_) rfl (by kernel_rfl) (by kernel_rfl) (by kernel_rfl) (fun _ _ _ h => h) (Or.inl ⟨by rfl,?_⟩) hS ?_
 rotate_left
 · (intro w' hS';go_simp;try with_reducible rfl)
 (try simp only [Act.put,List.getElem_toArray,List.getElem_cons_zero,List.getElem_cons_succ,List.setIfInBounds_toArray,List.set_cons_zero,List.set_cons_succ])
 refine wpAnyH_take (i:=5) (v:=?_) rfl (by kernel_rfl) (by kernel_rfl) (by kernel_rfl) (fun _ _ _ h => h) (Or.inl ⟨by rfl,?_⟩) hS ?_
 rotate_left
 · (intro w' hS';have ha : w'.cell? ⟨H1,1 + q * 2,none⟩ = some (.int .i64 x1):=hS'.2.1.at_ hz0h.out;have hb : w'.cell? ⟨H1,1 + q * 2 + 1,none⟩ = some (.int .i64 x2):=hS'.2.1.at_ hz1h.out;go_simp;try with_reducible rfl)
 (try simp only [Act.put,List.getElem_toArray,List.getElem_cons_zero,List.getElem_cons_succ,List.setIfInBounds_toArray,List.set_cons_zero,List.set_cons_succ])
 refine wpAnyH_take (i:=6) (v:=?_) rfl (by kernel_rfl) (by kernel_rfl) (by kernel_rfl) (fun _ _ _ h => h) (Or.inl ⟨by rfl,?_⟩) hS ?_
 rotate_left
 · (intro w' hS';go_simp;try with_reducible rfl)
 (try simp only [Act.put,List.getElem_toArray,List.getElem_cons_zero,List.getElem_cons_succ,List.setIfInBounds_toArray,List.set_cons_zero,List.set_cons_succ])
 refine wpAnyH_take (i:=7) (v:=?_) rfl (by kernel_rfl) (by kernel_rfl) (by kernel_rfl) (fun _ _ _ h => h) (Or.inl ⟨by rfl,?_⟩) hS ?_
 rotate_left
 · (intro w' hS';have ha : w'.cell? ⟨H1,0,none⟩ = some (.int .i64 (p.i : Int)):=hS'.2.1.at_ hP0h.out;go_simp;try with_reducible rfl)
 (try simp only [Act.put,List.getElem_toArray,List.getElem_cons_zero,List.getElem_cons_succ,List.setIfInBounds_toArray,List.set_cons_zero,List.set_cons_succ])
 refine wpAnyH_ready (rs:=[8]) (by kernel_rfl) (by simp) ?_
 refine AllReadyH.cons rfl (fun K hK => ?_) AllReadyH.nil
 go_simp
 refine hC.out.mono ?_
 rintro e w4 ⟨rfl,hb4'⟩
 go_simp
 refine hK.out _ _ (hS.below hb4') (fun _ => ?_)
 clear hK K
 replace hS:=hS.below hb4'
 (try simp only [Act.put,List.getElem_toArray,List.getElem_cons_zero,List.getElem_cons_succ,List.setIfInBounds_toArray,List.set_cons_zero,List.set_cons_succ])
 refine wpAnyH_take (i:=9) (v:=?_) rfl (by kernel_rfl) (by kernel_rfl) (by kernel_rfl) (fun _ _ _ h => h) (Or.inl ⟨by rfl,?_⟩) hS ?_
 rotate_left
 · (intro w' hS';go_simp;try with_reducible rfl)
 (try simp only [Act.put,List.getElem_toArray,List.getElem_cons_zero,List.getElem_cons_succ,List.setIfInBounds_toArray,List.set_cons_zero,List.set_cons_succ])
 refine wpAnyH_done (by kernel_rfl) ?_ _
 have hB4:=lhi ((below_drewN hb3.out 1).trans (hb4'.mono (below_drewN hb3.out 1).size))
 have hS4:=lhi hS
 clear hb4' hS hSd hC hS3 k0
 go_wp2
 go_ret
 exact ⟨⟨_,[],rfl,⟨List.nodup_nil,fun q => ⟨(fun h => by cases h),(fun h => by exact absurd h (hrl.out q))⟩⟩,Pts.nil _ _⟩,hB4.out⟩
theorem reach_1y (m : Nat) (h : Thru w B An nn cn At nt ct ns t g) (hm : m < ns.length) (hp : POK ns t g a p) (hk : (ndA ns (m : Int)).kind = 1) (hlt : p.i < t.length) (hr1 : (ndA ns (m : Int)).set (t[p.i]'hlt).toNat = true) :
    Calls Try.prog 26 #[.agg #[.slice An nn cn,.int .i64 g],.slice At nt ct,.int .i64 (m : Int),.agg (ptC p)] w (RchQ w ns t m p):=by
 obtain ⟨N0,N1,N2,N3,N4,N5⟩:=nod_at (ndA ns (m : Int))
 rw [hk] at N0
 have hkh:=lhi hk
 have htx:=lhi (show nt = t.length ∧ nt ≤ 1000000 ∧ p.i ≤ t.length from ⟨h.nt_,h.tl,hp.hi⟩)
 have hmn : m < nn:=by have:=h.nn_;omega
 have hmI0 : (0 : Int) ≤ (m : Int):=by omega
 have hmI1 : (m : Int) < (nn : Int):=by omega
 have hph:=lhi hp
 have hThr:=lhi h
 have hc8 : (t[p.i]'hlt).toNat < 256:=UInt8.toNat_lt _
 obtain ⟨at',rfl,had,hcb⟩:=h.byt.at_ hlt
 have hHas:=lhi (fun w => refHas_any (ndA ns (m : Int)).set (t[p.i]'hlt).toNat w hc8)
 rw [hr1] at hHas
 unfold setV setC at hHas
 have N6 : (nodC (ndA ns (m : Int)))[6]? = some (.int .u64 ((wd (ndA ns (m : Int)).set 0 : Nat) : Int)):=rfl
 have N7 : (nodC (ndA ns (m : Int)))[7]? = some (.int .u64 ((wd (ndA ns (m : Int)).set 1 : Nat) : Int)):=rfl
 have N8 : (nodC (ndA ns (m : Int)))[8]? = some (.int .u64 ((wd (ndA ns (m : Int)).set 2 : Nat) : Int)):=rfl
 have N9 : (nodC (ndA ns (m : Int)))[9]? = some (.int .u64 ((wd (ndA ns (m : Int)).set 3 : Nat) : Int)):=rfl
 have hby:=lhi (fun (w' : World) (hb : Below w.heap.size w w') => show w'.cell? (at'.add p.i) = some (.int .u8 ((t[p.i]'hlt).toNat : Int)) from (hb.cell (p:=at'.add p.i) (by rw [block_add];have:=h.base;omega)).trans hcb)
 have i0 : (0 : Int) ≤ (p.i : Int):=by omega
 have i1 : (p.i : Int) < (nt : Int):=by have:=h.nt_;omega
 have hw1 : IntKind.i64.wrap ((p.i : Int) + 1) = (p.i : Int) + 1:=IntWalk.i64_in _ (by have:=h.nt_;have:=h.tl;omega)
 have hg1:=lhi (show decide ((p.i : Int) < (nt : Int)) = true ∧ p.i < nt from ⟨decide_eq_true (by omega),by omega⟩)
 have hrl:=lhi (fun q' => show Rel ns t (.node (m : Int)) p q' ↔ q' = ⟨p.i + 1,p.sp⟩ from by
  rw [rel_set hk,List.getElem?_eq_getElem hlt]
  exact ⟨fun ⟨c,h1,h2,h3⟩ => h3,fun h3 => ⟨_,rfl,hr1,h3⟩⟩)
 clear hcb had hr1 hc8
 generalize ((t[p.i]'hlt).toNat : Int) = cc at *
 replace hlt:=lhi hlt
 obtain ⟨ad,bb,oo,rfl,hpp,hbb,hrn⟩:=h.node' hm
 have hrN:=lhi (fun w' (hb : Below w.heap.size w w') => range_below hrn (hb.mono h.base) hbb)
 have hb2:=lhi (((Below.refl w.heap.size w).alloc (nlr _) (.cells #[.slice (some ad) nn cn,.int .i64 g] 24)).alloc (by simp) (.cells (ptC p) 71))
 have hR2:=lhi (show Held _ w.heap.size 24 #[.slice (some ad) nn cn,.int .i64 g] from (held_new w 24 #[.slice (some ad) nn cn,.int .i64 g]).alloc (.cells (ptC p) 71))
 have hP2:=lhi (show Held _ (w.heap.size + 1) 71 (ptC p) from held_new2 w (.cells #[.slice (some ad) nn cn,.int .i64 g] 24) 71 (ptC p))
 have hl2:=lhi (show ((w.alloc (.cells #[.slice (some ad) nn cn,.int .i64 g] 24)).alloc (.cells (ptC p) 71)).heap.size = w.heap.size + 1 + 1 by simp)
 have hPs:=lhi (show (Try.prog.info? 71).map (·.size) = some (ptC p).size by rw [ptC_size];exact size_pt)
 have hP0 : (ptC p)[0]? = some (.int .i64 (p.i : Int)):=rfl
 have hNl:=lhi (nod_size (ndA ns (m : Int)))
 have hNo:=lhi (nod_cells (ndA ns (m : Int)))
 replace hrn:=lhi hrn
 clear h hp hbb
 generalize hcp : ptC p = CP at *
 replace hcp:=lhi hcp
 replace hk:=lhi hk
 go_enter Try.func26,Try.ntmps26
 go_upto_region 1 with fail
 generalize (w.alloc (.cells #[.slice (some ad) nn cn,.int .i64 g] 24)).alloc (.cells CP 71) = w2 at *
 have r0 : w2.cell? ⟨w.heap.size,0,none⟩ = some (.slice (some ad) nn cn):=hR2.out.at_ rfl
 have hr2:=lhi (hrN.out w2 hb2.out)
 have hnull:=lhi (held_new w2 54 #[.int .i64 0,.int .i64 0,.int .i64 0,.int .i64 0,.int .i64 0,.int .i64 0,.int .u64 0,.int .u64 0,.int .u64 0,.int .u64 0])
 go_upto_region 2 with (first
  | (refine wpList_load_mid rfl 54 (.tmp 23) rfl bb oo rfl (nodL (ndA ns (m : Int))) _ hr2.out Try.underlying54 rfl (by rw [nodL_len];kernel_rfl) ?_)
  | (refine wpList_store_row rfl 54 (.tmp 9) (.tmp 24) rfl w2.heap.size (nodC (ndA ns (m : Int))) rfl rfl 54 _ hnull.out hNl.out rfl hNo.out ?_))
 have hb3:=lhi (below_row (hb2.out.alloc hb2.out.size (.cells #[.int .i64 0,.int .i64 0,.int .i64 0,.int .i64 0,.int .i64 0,.int .i64 0,.int .u64 0,.int .u64 0,.int .u64 0,.int .u64 0] 54)) hb2.out.size (nodC (ndA ns (m : Int))))
 have hl3:=lhi (show w.heap.size ≠ w2.heap.size ∧ w.heap.size + 1 ≠ w2.heap.size by have:=hl2.out;omega)
 have hS3:=lhi (show SRe w.heap.size (w.heap.size + 1) w2.heap.size #[.slice (some ad) nn cn,.int .i64 g] CP (nodC (ndA ns (m : Int))) ((w2.alloc (.cells #[.int .i64 0,.int .i64 0,.int .i64 0,.int .i64 0,.int .i64 0,.int .i64 0,.int .u64 0,.int .u64 0,.int .u64 0,.int .u64 0] 54)).setRow w2.heap.size (nodC (ndA ns (m : Int)))) from
  ⟨(hR2.out.alloc _).row_far (by have:=hl3.out;omega) _,(hP2.out.alloc _).row_far (by have:=hl3.out;omega) _,hnull.out.row _⟩)
 generalize (w2.alloc (.cells #[.int .i64 0,.int .i64 0,.int .i64 0,.int .i64 0,.int .i64 0,.int .i64 0,.int .u64 0,.int .u64 0,.int .u64 0,.int .u64 0] 54)).setRow w2.heap.size (nodC (ndA ns (m : Int))) = w3 at *
 generalize w2.heap.size = H2 at *
 generalize hH1 : w.heap.size + 1 = H1 at *
 clear hb2 hR2 hP2 hr2 hnull r0 hNl hNo hrN hrn hl2 hl3
 generalize hcn : nodC (ndA ns (m : Int)) = CN at *
 replace hcn:=lhi hcn
 replace hH1:=lhi hH1
 have k0 : w3.cell? ⟨H2,0,none⟩ = some (.int .i64 1):=hS3.out.2.2.at_ N0
 generalize ((wd (ndA ns (m : Int)).set 0 : Nat) : Int) = s0 at *
 generalize ((wd (ndA ns (m : Int)).set 1 : Nat) : Int) = s1 at *
 generalize ((wd (ndA ns (m : Int)).set 2 : Nat) : Int) = s2 at *
 generalize ((wd (ndA ns (m : Int)).set 3 : Nat) : Int) = s3 at *
 have hK:=lhi (fun (w' : World) (hb : Below w3.heap.size w3 w') => show (w'.cell? ⟨H2,6,none⟩ = some (.int .u64 s0) ∧ w'.cell? ⟨H2,7,none⟩ = some (.int .u64 s1) ∧ w'.cell? ⟨H2,8,none⟩ = some (.int .u64 s2) ∧ w'.cell? ⟨H2,9,none⟩ = some (.int .u64 s3) ∧ w'.cell? (at'.add p.i) = some (.int .u8 cc) ∧ w'.cell? ⟨H1,0,none⟩ = some (.int .i64 (p.i : Int))) ∧ SRe w.heap.size H1 H2 #[.slice (some ad) nn cn,.int .i64 g] CP CN w' from
  ⟨⟨(hS3.out.below hb).2.2.at_ N6,(hS3.out.below hb).2.2.at_ N7,(hS3.out.below hb).2.2.at_ N8,(hS3.out.below hb).2.2.at_ N9,hby.out w' (hb3.out.trans (hb.mono hb3.out.size)),(hS3.out.below hb).2.1.at_ hP0⟩,hS3.out.below hb⟩)
 have hK0:=lhi (hK.out _ ((Below.refl _ _).drew))
 have ⟨⟨c6,c7,c8,c9,cb,cp⟩,_⟩:=hK.out w3 (Below.refl _ _)
 clear N0 N1 N2 N3 N4 N5 N6 N7 N8 N9 hby
 go_wp2
 have ⟨g1,g2⟩:=hg1.out
 go_region_held3 (fun w' => w'.cell? ⟨H2,6,none⟩ = some (.int .u64 s0) ∧ w'.cell? ⟨H2,7,none⟩ = some (.int .u64 s1) ∧ w'.cell? ⟨H2,8,none⟩ = some (.int .u64 s2) ∧ w'.cell? ⟨H2,9,none⟩ = some (.int .u64 s3) ∧ w'.cell? (at'.add p.i) = some (.int .u8 cc) ∧ w'.cell? ⟨H1,0,none⟩ = some (.int .i64 (p.i : Int)))
  (first | with_reducible exact hK0.out.1 | with_reducible exact hK4.out | go_keep)
  (first
  | (go_at_call 38;refine (hHas.out _).mono ?_;rintro e w4 ⟨rfl,hb4'⟩;have hb4:=lhi (((Below.refl w3.heap.size w3).drew).trans (hb4'.mono (by simp)));have hk:=hK.out w4 hb4.out;have hK4:=lhi hk.1;have hS4:=lhi hk.2;clear hk hb4'))
 clear hHas hK hK0 c6 c7 c8 c9 cb cp hK4
 have hB4:=lhi (hb3.out.trans (hb4.out.mono hb3.out.size))
 have p0 : w4.cell? ⟨H1,0,none⟩ = some (.int .i64 (p.i : Int)):=hS4.out.2.1.at_ hP0
 have y0:=hS4.out.2.1.thawed 0
 have hM:=lhi (show Held (w4.setCell ⟨H1,0,none⟩ (.int .i64 ((p.i : Int) + 1))) H1 71 (ptC ⟨p.i + 1,p.sp⟩) from by
  have h1:=hS4.out.2.1.put 0 (.int .i64 ((p.i : Int) + 1))
  rw [← hcp.out] at h1
  exact h1)
 have hB5:=lhi (show Below w.heap.size w (w4.setCell ⟨H1,0,none⟩ (.int .i64 ((p.i : Int) + 1))) from hB4.out.setCell (p:=⟨H1,0,none⟩) (by rw [← hH1.out];exact Nat.le_succ _) _)
 have hQs:=lhi (show (Try.prog.info? 71).map (·.size) = some (ptC ⟨p.i + 1,p.sp⟩).size by rw [ptC_size];exact size_pt)
 generalize hcq : ptC ⟨p.i + 1,p.sp⟩ = CQ at *
 replace hcq:=lhi hcq
 go_upto_region 7 with fail
 generalize w4.setCell ⟨H1,0,none⟩ (.int .i64 ((p.i : Int) + 1)) = w5 at *
 clear p0 y0
 go_wp2_with (first
  | (refine wpList_load_row rfl 71 (.tmp 7) rfl H1 rfl 71 _ (0,0) _ hM.out Try.underlying71 rfl hQs.out ?_)
  | (refine wpList_build_pt rfl (.tmp 48) rfl ⟨p.i + 1,p.sp⟩ CQ hcq.out rfl ?_))
 go_ret
 refine ⟨⟨_,[⟨p.i + 1,p.sp⟩],rfl,?_,?_⟩,hB5.out.alloc hB5.out.size _⟩
 · refine ⟨by simp,fun q => ?_⟩
   rw [hrl.out];simp
 · have:=(Pts.one w5 ⟨p.i + 1,p.sp⟩).mono (b':=w.heap.size) hB5.out.size
   rw [hcq.out] at this
   exact this
theorem reach_1n (m : Nat) (h : Thru w B An nn cn At nt ct ns t g) (hm : m < ns.length) (hp : POK ns t g a p) (hk : (ndA ns (m : Int)).kind = 1) (hlt : p.i < t.length) (hr1 : (ndA ns (m : Int)).set (t[p.i]'hlt).toNat = false) :
    Calls Try.prog 26 #[.agg #[.slice An nn cn,.int .i64 g],.slice At nt ct,.int .i64 (m : Int),.agg (ptC p)] w (RchQ w ns t m p):=by
 obtain ⟨N0,N1,N2,N3,N4,N5⟩:=nod_at (ndA ns (m : Int))
 rw [hk] at N0
 have hkh:=lhi hk
 have htx:=lhi (show nt = t.length ∧ nt ≤ 1000000 ∧ p.i ≤ t.length from ⟨h.nt_,h.tl,hp.hi⟩)
 have hmn : m < nn:=by have:=h.nn_;omega
 have hmI0 : (0 : Int) ≤ (m : Int):=by omega
 have hmI1 : (m : Int) < (nn : Int):=by omega
 have hph:=lhi hp
 have hThr:=lhi h
 have hc8 : (t[p.i]'hlt).toNat < 256:=UInt8.toNat_lt _
 obtain ⟨at',rfl,had,hcb⟩:=h.byt.at_ hlt
 have hHas:=lhi (fun w => refHas_any (ndA ns (m : Int)).set (t[p.i]'hlt).toNat w hc8)
 rw [hr1] at hHas
 unfold setV setC at hHas
 have N6 : (nodC (ndA ns (m : Int)))[6]? = some (.int .u64 ((wd (ndA ns (m : Int)).set 0 : Nat) : Int)):=rfl
 have N7 : (nodC (ndA ns (m : Int)))[7]? = some (.int .u64 ((wd (ndA ns (m : Int)).set 1 : Nat) : Int)):=rfl
 have N8 : (nodC (ndA ns (m : Int)))[8]? = some (.int .u64 ((wd (ndA ns (m : Int)).set 2 : Nat) : Int)):=rfl
 have N9 : (nodC (ndA ns (m : Int)))[9]? = some (.int .u64 ((wd (ndA ns (m : Int)).set 3 : Nat) : Int)):=rfl
 have hby:=lhi (fun (w' : World) (hb : Below w.heap.size w w') => show w'.cell? (at'.add p.i) = some (.int .u8 ((t[p.i]'hlt).toNat : Int)) from (hb.cell (p:=at'.add p.i) (by rw [block_add];have:=h.base;omega)).trans hcb)
 have i0 : (0 : Int) ≤ (p.i : Int):=by omega
 have i1 : (p.i : Int) < (nt : Int):=by have:=h.nt_;omega
 have hw1 : IntKind.i64.wrap ((p.i : Int) + 1) = (p.i : Int) + 1:=IntWalk.i64_in _ (by have:=h.nt_;have:=h.tl;omega)
 have hg1:=lhi (show decide ((p.i : Int) < (nt : Int)) = true ∧ p.i < nt from ⟨decide_eq_true (by omega),by omega⟩)
 have hrl:=lhi (fun q' => show ¬ Rel ns t (.node (m : Int)) p q' from by
  rw [rel_set hk,List.getElem?_eq_getElem hlt]
  exact fun ⟨c,h1,h2,h3⟩ => by cases h1;rw [hr1] at h2;cases h2)
 clear hcb had hr1 hc8
 generalize ((t[p.i]'hlt).toNat : Int) = cc at *
 replace hlt:=lhi hlt
 obtain ⟨ad,bb,oo,rfl,hpp,hbb,hrn⟩:=h.node' hm
 have hrN:=lhi (fun w' (hb : Below w.heap.size w w') => range_below hrn (hb.mono h.base) hbb)
 have hb2:=lhi (((Below.refl w.heap.size w).alloc (nlr _) (.cells #[.slice (some ad) nn cn,.int .i64 g] 24)).alloc (by simp) (.cells (ptC p) 71))
 have hR2:=lhi (show Held _ w.heap.size 24 #[.slice (some ad) nn cn,.int .i64 g] from (held_new w 24 #[.slice (some ad) nn cn,.int .i64 g]).alloc (.cells (ptC p) 71))
 have hP2:=lhi (show Held _ (w.heap.size + 1) 71 (ptC p) from held_new2 w (.cells #[.slice (some ad) nn cn,.int .i64 g] 24) 71 (ptC p))
 have hl2:=lhi (show ((w.alloc (.cells #[.slice (some ad) nn cn,.int .i64 g] 24)).alloc (.cells (ptC p) 71)).heap.size = w.heap.size + 1 + 1 by simp)
 have hPs:=lhi (show (Try.prog.info? 71).map (·.size) = some (ptC p).size by rw [ptC_size];exact size_pt)
 have hP0 : (ptC p)[0]? = some (.int .i64 (p.i : Int)):=rfl
 have hNl:=lhi (nod_size (ndA ns (m : Int)))
 have hNo:=lhi (nod_cells (ndA ns (m : Int)))
 replace hrn:=lhi hrn
 clear h hp hbb
 generalize hcp : ptC p = CP at *
 replace hcp:=lhi hcp
 replace hk:=lhi hk
 go_enter Try.func26,Try.ntmps26
 go_upto_region 1 with fail
 generalize (w.alloc (.cells #[.slice (some ad) nn cn,.int .i64 g] 24)).alloc (.cells CP 71) = w2 at *
 have r0 : w2.cell? ⟨w.heap.size,0,none⟩ = some (.slice (some ad) nn cn):=hR2.out.at_ rfl
 have hr2:=lhi (hrN.out w2 hb2.out)
 have hnull:=lhi (held_new w2 54 #[.int .i64 0,.int .i64 0,.int .i64 0,.int .i64 0,.int .i64 0,.int .i64 0,.int .u64 0,.int .u64 0,.int .u64 0,.int .u64 0])
 go_upto_region 2 with (first
  | (refine wpList_load_mid rfl 54 (.tmp 23) rfl bb oo rfl (nodL (ndA ns (m : Int))) _ hr2.out Try.underlying54 rfl (by rw [nodL_len];kernel_rfl) ?_)
  | (refine wpList_store_row rfl 54 (.tmp 9) (.tmp 24) rfl w2.heap.size (nodC (ndA ns (m : Int))) rfl rfl 54 _ hnull.out hNl.out rfl hNo.out ?_))
 have hb3:=lhi (below_row (hb2.out.alloc hb2.out.size (.cells #[.int .i64 0,.int .i64 0,.int .i64 0,.int .i64 0,.int .i64 0,.int .i64 0,.int .u64 0,.int .u64 0,.int .u64 0,.int .u64 0] 54)) hb2.out.size (nodC (ndA ns (m : Int))))
 have hl3:=lhi (show w.heap.size ≠ w2.heap.size ∧ w.heap.size + 1 ≠ w2.heap.size by have:=hl2.out;omega)
 have hS3:=lhi (show SRe w.heap.size (w.heap.size + 1) w2.heap.size #[.slice (some ad) nn cn,.int .i64 g] CP (nodC (ndA ns (m : Int))) ((w2.alloc (.cells #[.int .i64 0,.int .i64 0,.int .i64 0,.int .i64 0,.int .i64 0,.int .i64 0,.int .u64 0,.int .u64 0,.int .u64 0,.int .u64 0] 54)).setRow w2.heap.size (nodC (ndA ns (m : Int)))) from
  ⟨(hR2.out.alloc _).row_far (by have:=hl3.out;omega) _,(hP2.out.alloc _).row_far (by have:=hl3.out;omega) _,hnull.out.row _⟩)
 generalize (w2.alloc (.cells #[.int .i64 0,.int .i64 0,.int .i64 0,.int .i64 0,.int .i64 0,.int .i64 0,.int .u64 0,.int .u64 0,.int .u64 0,.int .u64 0] 54)).setRow w2.heap.size (nodC (ndA ns (m : Int))) = w3 at *
 generalize w2.heap.size = H2 at *
 generalize hH1 : w.heap.size + 1 = H1 at *
 clear hb2 hR2 hP2 hr2 hnull r0 hNl hNo hrN hrn hl2 hl3
 generalize hcn : nodC (ndA ns (m : Int)) = CN at *
 replace hcn:=lhi hcn
 replace hH1:=lhi hH1
 have k0 : w3.cell? ⟨H2,0,none⟩ = some (.int .i64 1):=hS3.out.2.2.at_ N0
 generalize ((wd (ndA ns (m : Int)).set 0 : Nat) : Int) = s0 at *
 generalize ((wd (ndA ns (m : Int)).set 1 : Nat) : Int) = s1 at *
 generalize ((wd (ndA ns (m : Int)).set 2 : Nat) : Int) = s2 at *
 generalize ((wd (ndA ns (m : Int)).set 3 : Nat) : Int) = s3 at *
 have hK:=lhi (fun (w' : World) (hb : Below w3.heap.size w3 w') => show (w'.cell? ⟨H2,6,none⟩ = some (.int .u64 s0) ∧ w'.cell? ⟨H2,7,none⟩ = some (.int .u64 s1) ∧ w'.cell? ⟨H2,8,none⟩ = some (.int .u64 s2) ∧ w'.cell? ⟨H2,9,none⟩ = some (.int .u64 s3) ∧ w'.cell? (at'.add p.i) = some (.int .u8 cc) ∧ w'.cell? ⟨H1,0,none⟩ = some (.int .i64 (p.i : Int))) ∧ SRe w.heap.size H1 H2 #[.slice (some ad) nn cn,.int .i64 g] CP CN w' from
  ⟨⟨(hS3.out.below hb).2.2.at_ N6,(hS3.out.below hb).2.2.at_ N7,(hS3.out.below hb).2.2.at_ N8,(hS3.out.below hb).2.2.at_ N9,hby.out w' (hb3.out.trans (hb.mono hb3.out.size)),(hS3.out.below hb).2.1.at_ hP0⟩,hS3.out.below hb⟩)
 have hK0:=lhi (hK.out _ ((Below.refl _ _).drew))
 have ⟨⟨c6,c7,c8,c9,cb,cp⟩,_⟩:=hK.out w3 (Below.refl _ _)
 clear N0 N1 N2 N3 N4 N5 N6 N7 N8 N9 hby
 go_wp2
 have ⟨g1,g2⟩:=hg1.out
 go_region_held3 (fun w' => w'.cell? ⟨H2,6,none⟩ = some (.int .u64 s0) ∧ w'.cell? ⟨H2,7,none⟩ = some (.int .u64 s1) ∧ w'.cell? ⟨H2,8,none⟩ = some (.int .u64 s2) ∧ w'.cell? ⟨H2,9,none⟩ = some (.int .u64 s3) ∧ w'.cell? (at'.add p.i) = some (.int .u8 cc) ∧ w'.cell? ⟨H1,0,none⟩ = some (.int .i64 (p.i : Int)))
  (first | with_reducible exact hK0.out.1 | with_reducible exact hK4.out | go_keep)
  (first
  | (go_at_call 38;refine (hHas.out _).mono ?_;rintro e w4 ⟨rfl,hb4'⟩;have hb4:=lhi (((Below.refl w3.heap.size w3).drew).trans (hb4'.mono (by simp)));have hk:=hK.out w4 hb4.out;have hK4:=lhi hk.1;have hS4:=lhi hk.2;clear hk hb4'))
 clear hHas hK hK0 c6 c7 c8 c9 cb cp hK4
 have hB4:=lhi (hb3.out.trans (hb4.out.mono hb3.out.size))
 go_wp2
 go_ret
 exact ⟨⟨_,[],rfl,⟨List.nodup_nil,fun q => ⟨(fun h => by cases h),(fun h => by exact absurd h (hrl.out q))⟩⟩,Pts.nil _ _⟩,hB4.out⟩
theorem reach_1e (m : Nat) (h : Thru w B An nn cn At nt ct ns t g) (hm : m < ns.length) (hp : POK ns t g a p) (hk : (ndA ns (m : Int)).kind = 1) (hge : t.length ≤ p.i) :
    Calls Try.prog 26 #[.agg #[.slice An nn cn,.int .i64 g],.slice At nt ct,.int .i64 (m : Int),.agg (ptC p)] w (RchQ w ns t m p):=by
 obtain ⟨N0,N1,N2,N3,N4,N5⟩:=nod_at (ndA ns (m : Int))
 rw [hk] at N0
 have hkh:=lhi hk
 have htx:=lhi (show nt = t.length ∧ nt ≤ 1000000 ∧ p.i ≤ t.length from ⟨h.nt_,h.tl,hp.hi⟩)
 have hmn : m < nn:=by have:=h.nn_;omega
 have hmI0 : (0 : Int) ≤ (m : Int):=by omega
 have hmI1 : (m : Int) < (nn : Int):=by omega
 have hph:=lhi hp
 have hThr:=lhi h
 have hrl:=lhi (fun q' => show ¬ Rel ns t (.node (m : Int)) p q' from by
  rw [rel_set hk,List.getElem?_eq_none hge]
  exact fun ⟨c,h1,h2,h3⟩ => nomatch h1)
 have hqd:=lhi (show decide ((p.i : Int) < (nt : Int)) = false from decide_eq_false (by have:=h.nt_;omega))
 replace hge:=lhi hge
 obtain ⟨ad,bb,oo,rfl,hpp,hbb,hrn⟩:=h.node' hm
 have hrN:=lhi (fun w' (hb : Below w.heap.size w w') => range_below hrn (hb.mono h.base) hbb)
 have hb2:=lhi (((Below.refl w.heap.size w).alloc (nlr _) (.cells #[.slice (some ad) nn cn,.int .i64 g] 24)).alloc (by simp) (.cells (ptC p) 71))
 have hR2:=lhi (show Held _ w.heap.size 24 #[.slice (some ad) nn cn,.int .i64 g] from (held_new w 24 #[.slice (some ad) nn cn,.int .i64 g]).alloc (.cells (ptC p) 71))
 have hP2:=lhi (show Held _ (w.heap.size + 1) 71 (ptC p) from held_new2 w (.cells #[.slice (some ad) nn cn,.int .i64 g] 24) 71 (ptC p))
 have hl2:=lhi (show ((w.alloc (.cells #[.slice (some ad) nn cn,.int .i64 g] 24)).alloc (.cells (ptC p) 71)).heap.size = w.heap.size + 1 + 1 by simp)
 have hPs:=lhi (show (Try.prog.info? 71).map (·.size) = some (ptC p).size by rw [ptC_size];exact size_pt)
 have hP0 : (ptC p)[0]? = some (.int .i64 (p.i : Int)):=rfl
 have hNl:=lhi (nod_size (ndA ns (m : Int)))
 have hNo:=lhi (nod_cells (ndA ns (m : Int)))
 replace hrn:=lhi hrn
 clear h hp hbb
 generalize hcp : ptC p = CP at *
 replace hcp:=lhi hcp
 replace hk:=lhi hk
 go_enter Try.func26,Try.ntmps26
 go_upto_region 1 with fail
 generalize (w.alloc (.cells #[.slice (some ad) nn cn,.int .i64 g] 24)).alloc (.cells CP 71) = w2 at *
 have r0 : w2.cell? ⟨w.heap.size,0,none⟩ = some (.slice (some ad) nn cn):=hR2.out.at_ rfl
 have hr2:=lhi (hrN.out w2 hb2.out)
 have hnull:=lhi (held_new w2 54 #[.int .i64 0,.int .i64 0,.int .i64 0,.int .i64 0,.int .i64 0,.int .i64 0,.int .u64 0,.int .u64 0,.int .u64 0,.int .u64 0])
 go_upto_region 2 with (first
  | (refine wpList_load_mid rfl 54 (.tmp 23) rfl bb oo rfl (nodL (ndA ns (m : Int))) _ hr2.out Try.underlying54 rfl (by rw [nodL_len];kernel_rfl) ?_)
  | (refine wpList_store_row rfl 54 (.tmp 9) (.tmp 24) rfl w2.heap.size (nodC (ndA ns (m : Int))) rfl rfl 54 _ hnull.out hNl.out rfl hNo.out ?_))
 have hb3:=lhi (below_row (hb2.out.alloc hb2.out.size (.cells #[.int .i64 0,.int .i64 0,.int .i64 0,.int .i64 0,.int .i64 0,.int .i64 0,.int .u64 0,.int .u64 0,.int .u64 0,.int .u64 0] 54)) hb2.out.size (nodC (ndA ns (m : Int))))
 have hl3:=lhi (show w.heap.size ≠ w2.heap.size ∧ w.heap.size + 1 ≠ w2.heap.size by have:=hl2.out;omega)
 have hS3:=lhi (show SRe w.heap.size (w.heap.size + 1) w2.heap.size #[.slice (some ad) nn cn,.int .i64 g] CP (nodC (ndA ns (m : Int))) ((w2.alloc (.cells #[.int .i64 0,.int .i64 0,.int .i64 0,.int .i64 0,.int .i64 0,.int .i64 0,.int .u64 0,.int .u64 0,.int .u64 0,.int .u64 0] 54)).setRow w2.heap.size (nodC (ndA ns (m : Int)))) from
  ⟨(hR2.out.alloc _).row_far (by have:=hl3.out;omega) _,(hP2.out.alloc _).row_far (by have:=hl3.out;omega) _,hnull.out.row _⟩)
 generalize (w2.alloc (.cells #[.int .i64 0,.int .i64 0,.int .i64 0,.int .i64 0,.int .i64 0,.int .i64 0,.int .u64 0,.int .u64 0,.int .u64 0,.int .u64 0] 54)).setRow w2.heap.size (nodC (ndA ns (m : Int))) = w3 at *
 generalize w2.heap.size = H2 at *
 generalize hH1 : w.heap.size + 1 = H1 at *
 clear hb2 hR2 hP2 hr2 hnull r0 hNl hNo hrN hrn hl2 hl3
 generalize hcn : nodC (ndA ns (m : Int)) = CN at *
 replace hcn:=lhi hcn
 replace hH1:=lhi hH1
 have k0 : w3.cell? ⟨H2,0,none⟩ = some (.int .i64 1):=hS3.out.2.2.at_ N0
 have hSd:=lhi (show SRe w.heap.size H1 H2 #[.slice (some ad) nn cn,.int .i64 g] CP CN w3.drew from hS3.out.below (below_drewN (Below.refl _ _) 1))
 have hB4:=lhi (below_drewN hb3.out 1)
 have hP0h:=lhi hP0
 go_wp2
 refine wp_region_held_drew (S:=SRe w.heap.size H1 H2 #[.slice (some ad) nn cn,.int .i64 g] CP CN) (by kernel_rfl) hSd.out (fun hS => ?_)
 refine wpAnyH_take (i:=0) (v:=?_) rfl (by kernel_rfl) (by kernel_rfl) (by kernel_rfl) (fun _ _ _ h => h) (Or.inl ⟨by rfl,?_⟩) hS ?_
 rotate_left
 · (intro w' hS';go_simp;try with_reducible rfl)
 (try simp only [Act.put,List.getElem_toArray,List.getElem_cons_zero,List.getElem_cons_succ,List.setIfInBounds_toArray,List.set_cons_zero,List.set_cons_succ])
 refine wpAnyH_take (i:=1) (v:=?_) rfl (by kernel_rfl) (by kernel_rfl) (by kernel_rfl) (fun _ _ _ h => h) (Or.inl ⟨by rfl,?_⟩) hS ?_
 rotate_left
 · (intro w' hS';have ha : w'.cell? ⟨H1,0,none⟩ = some (.int .i64 (p.i : Int)):=hS'.2.1.at_ hP0h.out;go_simp;try with_reducible rfl)
 (try simp only [Act.put,List.getElem_toArray,List.getElem_cons_zero,List.getElem_cons_succ,List.setIfInBounds_toArray,List.set_cons_zero,List.set_cons_succ])
 refine wpAnyH_take (i:=2) (v:=?_) rfl (by kernel_rfl) (by kernel_rfl) (by kernel_rfl) (fun _ _ _ h => h) (Or.inl ⟨by rfl,?_⟩) hS ?_
 rotate_left
 · (intro w' hS';go_simp;try with_reducible rfl)
 (try simp only [Act.put,List.getElem_toArray,List.getElem_cons_zero,List.getElem_cons_succ,List.setIfInBounds_toArray,List.set_cons_zero,List.set_cons_succ])
 refine wpAnyH_take (i:=3) (v:=?_) rfl (by kernel_rfl) (by kernel_rfl) (by kernel_rfl) (fun _ _ _ h => h) (Or.inl ⟨by rfl,?_⟩) hS ?_
 rotate_left
 · (intro w' hS';go_simp;try with_reducible rfl)
 (try simp only [Act.put,List.getElem_toArray,List.getElem_cons_zero,List.getElem_cons_succ,List.setIfInBounds_toArray,List.set_cons_zero,List.set_cons_succ])
 refine wpAnyH_take (i:=4) (v:=.bool false) rfl (by kernel_rfl) (by kernel_rfl) (by kernel_rfl) (fun _ _ _ h => h) (Or.inl ⟨by rfl,?_⟩) hS ?_
 · (intro w' hS';go_simp;have:=htx.out;have:=hge.out;omega)
 (try simp only [Act.put,List.getElem_toArray,List.getElem_cons_zero,List.getElem_cons_succ,List.setIfInBounds_toArray,List.set_cons_zero,List.set_cons_succ])
 refine wpAnyH_take (i:=5) (v:=.bool false) rfl (by kernel_rfl) (by kernel_rfl) (by kernel_rfl) (fun _ _ _ h => h) (Or.inl ⟨by rfl,?_⟩) hS ?_
 · (intro w' hS';go_simp;try with_reducible rfl)
 (try simp only [Act.put,List.getElem_toArray,List.getElem_cons_zero,List.getElem_cons_succ,List.setIfInBounds_toArray,List.set_cons_zero,List.set_cons_succ])
 refine wpAnyH_take (i:=6) (v:=undef) rfl (by kernel_rfl) (by kernel_rfl) (by kernel_rfl) (fun _ _ _ h => h) (Or.inr ⟨by rfl,rfl⟩) hS ?_
 (try simp only [Act.put,List.getElem_toArray,List.getElem_cons_zero,List.getElem_cons_succ,List.setIfInBounds_toArray,List.set_cons_zero,List.set_cons_succ])
 refine wpAnyH_take (i:=7) (v:=undef) rfl (by kernel_rfl) (by kernel_rfl) (by kernel_rfl) (fun _ _ _ h => h) (Or.inr ⟨by rfl,rfl⟩) hS ?_
 (try simp only [Act.put,List.getElem_toArray,List.getElem_cons_zero,List.getElem_cons_succ,List.setIfInBounds_toArray,List.set_cons_zero,List.set_cons_succ])
 refine wpAnyH_take (i:=8) (v:=undef) rfl (by kernel_rfl) (by kernel_rfl) (by kernel_rfl) (fun _ _ _ h => h) (Or.inr ⟨by rfl,rfl⟩) hS ?_
 (try simp only [Act.put,List.getElem_toArray,List.getElem_cons_zero,List.getElem_cons_succ,List.setIfInBounds_toArray,List.set_cons_zero,List.set_cons_succ])
 refine wpAnyH_take (i:=9) (v:=undef) rfl (by kernel_rfl) (by kernel_rfl) (by kernel_rfl) (fun _ _ _ h => h) (Or.inr ⟨by rfl,rfl⟩) hS ?_
 (try simp only [Act.put,List.getElem_toArray,List.getElem_cons_zero,List.getElem_cons_succ,List.setIfInBounds_toArray,List.set_cons_zero,List.set_cons_succ])
 refine wpAnyH_take (i:=10) (v:=undef) rfl (by kernel_rfl) (by kernel_rfl) (by kernel_rfl) (fun _ _ _ h => h) (Or.inr ⟨by rfl,rfl⟩) hS ?_
 (try simp only [Act.put,List.getElem_toArray,List.getElem_cons_zero,List.getElem_cons_succ,List.setIfInBounds_toArray,List.set_cons_zero,List.set_cons_succ])
 refine wpAnyH_take (i:=11) (v:=undef) rfl (by kernel_rfl) (by kernel_rfl) (by kernel_rfl) (fun _ _ _ h => h) (Or.inr ⟨by rfl,rfl⟩) hS ?_
 (try simp only [Act.put,List.getElem_toArray,List.getElem_cons_zero,List.getElem_cons_succ,List.setIfInBounds_toArray,List.set_cons_zero,List.set_cons_succ])
 refine wpAnyH_take (i:=12) (v:=undef) rfl (by kernel_rfl) (by kernel_rfl) (by kernel_rfl) (fun _ _ _ h => h) (Or.inr ⟨by rfl,rfl⟩) hS ?_
 (try simp only [Act.put,List.getElem_toArray,List.getElem_cons_zero,List.getElem_cons_succ,List.setIfInBounds_toArray,List.set_cons_zero,List.set_cons_succ])
 refine wpAnyH_take (i:=13) (v:=undef) rfl (by kernel_rfl) (by kernel_rfl) (by kernel_rfl) (fun _ _ _ h => h) (Or.inr ⟨by rfl,rfl⟩) hS ?_
 (try simp only [Act.put,List.getElem_toArray,List.getElem_cons_zero,List.getElem_cons_succ,List.setIfInBounds_toArray,List.set_cons_zero,List.set_cons_succ])
 refine wpAnyH_take (i:=14) (v:=?_) rfl (by kernel_rfl) (by kernel_rfl) (by kernel_rfl) (fun _ _ _ h => h) (Or.inl ⟨by rfl,?_⟩) hS ?_
 rotate_left
 · (intro w' hS';go_simp;try with_reducible rfl)
 (try simp only [Act.put,List.getElem_toArray,List.getElem_cons_zero,List.getElem_cons_succ,List.setIfInBounds_toArray,List.set_cons_zero,List.set_cons_succ])
 refine wpAnyH_done (by kernel_rfl) ?_ _
 go_wp2
 go_ret
 exact ⟨⟨_,[],rfl,⟨List.nodup_nil,fun q => ⟨(fun h => by cases h),(fun h => by exact absurd h (hrl.out q))⟩⟩,Pts.nil _ _⟩,hB4.out⟩
end
end Go.Proofs.Ytbdfhmefjfaofaa
