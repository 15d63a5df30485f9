/- Contracts and plain facts: M38. -/
import Derived.Test.YtjopmieaikgbcaaM35
import Derived.Test.YtjopmieaikgbcaaM37
set_option linter.unusedVariables false
set_option linter.unusedSimpArgs false
set_option maxRecDepth 100000
set_option maxHeartbeats 32000000
namespace Go.Proofs.Ytjopmieaikgbcaa
open Go.RowKit
theorem rnode_any {F B : Nat} {An : Option Addr} {nn cn : Nat} {At : Option Addr} {nt ct : Nat} {ns : List Nod} {t : List UInt8} {g : Int} {a : Nat} {M : Int} {D : Nat} (hW : WaysOK F B An nn cn At nt ct ns t g a M D) : NodeOK F B An nn cn At nt ct ns t g a M D:=by
 intro w f A n c l p m h hwk hk4 hT hn hnc hcm hn1 hD hf1 hM
 have hmm : 0 ≤ (m : Int) ∧ (m : Int) < ns.length:=hwk.toks _ (List.mem_cons_self ..)
 have hkk:=(h.thru.rt.2.2 (m : Int) hmm.1 hmm.2).1
 have hc : (ndA ns (m : Int)).kind = 0 ∨ (ndA ns (m : Int)).kind = 1 ∨ (ndA ns (m : Int)).kind = 2 ∨ (ndA ns (m : Int)).kind = 3 ∨ (ndA ns (m : Int)).kind = 5 ∨ (ndA ns (m : Int)).kind = 6 ∨ (ndA ns (m : Int)).kind = 7 ∨ (ndA ns (m : Int)).kind = 8:=by omega
 rcases hc with hk | hk | hk | hk | hk | hk | hk | hk
 · exact rnode_0 hW m h hwk hk hT hn hnc hcm hn1 hD hf1 hM
 · by_cases hlt : p.i < t.length
   · cases hr : (ndA ns (m : Int)).set (t[p.i]'hlt).toNat with
     | true => exact rnode_1_y hW m h hwk hk hT hn hnc hcm hn1 hD hf1 hM hlt hr
     | false => exact rnode_1_n hW m h hwk hk hT hn hnc hcm hn1 hD hf1 hM hlt hr
   · exact rnode_1_e hW m h hwk hk hT hn hnc hcm hn1 hD hf1 hM (by omega)
 · exact rnode_2 hW m h hwk hk hT hn hnc hcm hn1 hD hf1 hM
 · exact rnode_3 hW m h hwk hk hT hn hnc hcm hn1 hD hf1 hM
 · exact rnode_5 hW m h hwk hk hT hn hnc hcm hn1 hD hf1 hM
 · cases hb : backAt t (p.sp (ndA ns (m : Int)).grp.toNat) p.i with
   | some j => exact rnode_6_y hW m h hwk hk hT hn hnc hcm hn1 hD hf1 hM j hb
   | none => exact rnode_6_n hW m h hwk hk hT hn hnc hcm hn1 hD hf1 hM hb
 · by_cases hq : p.i = 0
   · exact rnode_7_y hW m h hwk hk hT hn hnc hcm hn1 hD hf1 hM hq
   · exact rnode_7_n hW m h hwk hk hT hn hnc hcm hn1 hD hf1 hM hq
 · by_cases hq : p.i = t.length
   · exact rnode_8_y hW m h hwk hk hT hn hnc hcm hn1 hD hf1 hM hq
   · exact rnode_8_n hW m h hwk hk hT hn hnc hcm hn1 hD hf1 hM hq
section
variable {w w' w1 : World} {F B : Nat} {An : Option Addr} {nn cn : Nat} {At : Option Addr} {nt ct : Nat} {ns : List Nod} {t : List UInt8} {g : Int} {a : Nat} {M : Int} {f f' f1 : Fnd} {D : Nat} {A : Option Addr} {n c : Nat} {l : List Tsk} {p : Pt} {tk : Tsk}
theorem rways_out (h : Fst w F B An nn cn At nt ct ns t g a M f) (hn : n = (tk :: l).length) (hf0 : 0 ≤ f.cost) (hf1 : f.cost ≤ 2 * M + 1) (hx : M < f.cost + 1) :
    Calls Try.prog 24 #[.pointer (some ⟨F,0,none⟩),.agg #[.slice An nn cn,.int .i64 g],.slice At nt ct,.int .i64 (p.i : Int),hitV p.sp,.slice A n c] w (WayRet w F ns t a M [(tk :: l,p)] f (max (f.cost + 1) (2 * M + 1 - f.cost))):=by
 show Calls Try.prog 24 #[.pointer (some ⟨F,0,none⟩),.agg #[.slice An nn cn,.int .i64 g],.slice At nt ct,.int .i64 (p.i : Int),.agg (hitC p.sp),.slice A n c] w _
 have hm1:=h.m1
 have hb2:=lhi (((Below.refl w.heap.size w).alloc (nlr _) (.cells #[.slice An nn cn,.int .i64 g] 24)).alloc (by simp) (.cells (hitC p.sp) 29))
 have hg2:=lhi (grown_of hb2.out (some F))
 have h2:=lhi (h.keep hb2.out)
 have hz : ((n : Int) == 0) = false:=by rw [bef,hn];simp;omega
 have hw1 : IntKind.i64.wrap (f.cost + 1) = f.cost + 1:=IntWalk.i64_in _ (by omega)
 have hd : decide (M < f.cost + 1) = true:=decide_eq_true hx
 have hxx:=lhi hx
 clear hn hf0 hf1 hm1 h hx
 generalize hitC p.sp = CS at *
 go_enter Try.func24,Try.ntmps24
 go_upto_region 1 with fail
 generalize (w.alloc (.cells #[.slice An nn cn,.int .i64 g] 24)).alloc (.cells CS 29) = w2 at *
 clear hb2
 generalize w.heap.size + 1 = H1 at *
 generalize w.heap.size = H0 at *
 have c21 : w2.cell? ⟨F,21,none⟩ = some (.int .i64 f.cost):=h2.out.held.at_ rfl
 have c22 : w2.cell? ⟨F,22,none⟩ = some (.int .i64 M):=h2.out.held.at_ rfl
 have t21:=h2.out.held.thawed 21
 have h3:=lhi (h2.out.spent (f.cost + 1))
 have hg3:=lhi (grown_trans hg2.out (grown_cell w2 F 21 (.int .i64 (f.cost + 1))))
 have hres:=lhi (show Run ns t a M [(tk :: l,p)] f ⟨f.best,f.cost + 1⟩ from Run.out hxx.out hxx.out)
 go_wp2
 go_quiet (fail)
 go_wp2
 go_end0
 refine ⟨rfl,⟨f.best,f.cost + 1⟩,(h3.out.keep (below_drewN (Below.refl _ _) _)).held,grown_then hg3.out (below_drewN (Below.refl _ _) _),hres.out,by show f.cost ≤ f.cost + 1;omega,by show f.cost + 1 ≤ _;omega⟩
end
section
variable {w w' w1 : World} {F B : Nat} {An : Option Addr} {nn cn : Nat} {At : Option Addr} {nt ct : Nat} {ns : List Nod} {t : List UInt8} {g : Int} {a : Nat} {M : Int} {f f' f1 : Fnd} {D : Nat} {A : Option Addr} {n c : Nat} {l : List Tsk} {p : Pt} {tk : Tsk}
theorem fnd_best {f : Fnd} {a : Nat} {M : Int} {m : Spn} {cs : Array Value} (hs : cs.size = 24) (h : ∀ i,cs[i]? = if 1 ≤ i ∧ i < 1 + (hitL m).length ∧ i < (fndC f a M).size then (hitL m)[i - 1]? else (fndC f a M)[i]?) :
    cs.setIfInBounds 0 (.bool true) = fndC ⟨some m,f.cost⟩ a M:=by
 apply Array.ext_getElem?
 intro i
 rw [Array.getElem?_setIfInBounds,h i]
 have hsz : (fndC f a M).size = 24:=rfl
 rw [hitL_len,hsz]
 by_cases e : 0 = i
 · subst e
   rw [if_pos rfl,if_pos (by omega)];rfl
 · rw [if_neg e]
   by_cases hi : i < 24
   · obtain ⟨j,rfl⟩ : ∃ j,i = j + 1:=⟨i - 1,by omega⟩
     by_cases h5 : j < 20
     · rw [if_pos (by omega),Nat.add_sub_cancel]
       have : j = 0 ∨ j = 1 ∨ j = 2 ∨ j = 3 ∨ j = 4 ∨ j = 5 ∨ j = 6 ∨ j = 7 ∨ j = 8 ∨ j = 9 ∨ j = 10 ∨ j = 11 ∨ j = 12 ∨ j = 13 ∨ j = 14 ∨ j = 15 ∨ j = 16 ∨ j = 17 ∨ j = 18 ∨ j = 19:=by omega
       rcases this with rfl | rfl | rfl | rfl | rfl | rfl | rfl | rfl | rfl | rfl | rfl | rfl | rfl | rfl | rfl | rfl | rfl | rfl | rfl | rfl <;> rfl
     · rw [if_neg (by omega)]
       have : j = 20 ∨ j = 21 ∨ j = 22:=by omega
       rcases this with rfl | rfl | rfl <;> rfl
   · rw [if_neg (by omega),Array.getElem?_eq_none (by rw [hsz];omega),Array.getElem?_eq_none (by show 24 ≤ i;omega)]
theorem rways_none (h : Fst w F B An nn cn At nt ct ns t g a M f) (hbest : f.best = none) :
    Calls Try.prog 24 #[.pointer (some ⟨F,0,none⟩),.agg #[.slice An nn cn,.int .i64 g],.slice At nt ct,.int .i64 (p.i : Int),hitV p.sp,.slice A 0 c] w (WayRet w F ns t a M [([],p)] f (max (f.cost + 1) (2 * M + 1 - f.cost))):=by
 show Calls Try.prog 24 #[.pointer (some ⟨F,0,none⟩),.agg #[.slice An nn cn,.int .i64 g],.slice At nt ct,.int .i64 (p.i : Int),.agg (hitC p.sp),.slice A 0 c] w _
 have hb2:=lhi (((Below.refl w.heap.size w).alloc (nlr _) (.cells #[.slice An nn cn,.int .i64 g] 24)).alloc (by simp) (.cells (hitC p.sp) 29))
 have hg2:=lhi (grown_of hb2.out (some F))
 have h2:=lhi (h.keep hb2.out)
 have hb3:=lhi ((hb2.out.setCell (p:=⟨w.heap.size + 1,0,none⟩) (Nat.le_succ _) (.int .i64 (a : Int))).setCell (p:=⟨w.heap.size + 1,1,none⟩) (Nat.le_succ _) (.int .i64 (p.i : Int)))
 have hg3:=lhi (grown_of hb3.out (some F))
 have h3:=lhi (h.keep hb3.out)
 have hS:=lhi (held_new2 w (.cells #[.slice An nn cn,.int .i64 g] 24) 29 (hitC p.sp))
 have hrun:=lhi (show Run ns t a M [([],p)] f ⟨some (hitS a p),f.cost⟩ from by have:=Run.leaf (ns:=ns) (t:=t) (M:=M) (a:=a) (p:=p) (f:=f);rwa [hbest] at this)
 have hFl:=lhi h.held.lt
 clear h
 generalize hcp : hitC p.sp = CS at *
 replace hcp:=lhi hcp
 go_enter Try.func24,Try.ntmps24
 go_upto_region 1 with fail
 generalize (w.alloc (.cells #[.slice An nn cn,.int .i64 g] 24)).alloc (.cells CS 29) = w2 at *
 clear hb2 hb3 hg2
 have hFne:=lhi (show F ≠ w.heap.size + 1 by have:=hFl.out;omega)
 generalize w.heap.size + 1 = H1 at *
 generalize w.heap.size = H0 at *
 have hS0:=hS.out
 rw [← hcp.out] at hS0
 have hM3:=lhi (show Held ((w2.setCell ⟨H1,0,none⟩ (.int .i64 (a : Int))).setCell ⟨H1,1,none⟩ (.int .i64 (p.i : Int))) H1 29 (hitC (hitS a p)) from hS0.span (k:=0) (by decide) ((a : Int),(p.i : Int)))
 have ⟨z0,z1⟩:=span_there hS0 (k:=0) (by decide)
 have y0:=hS0.thawed 0
 have y1:=hS0.thawed 1
 have c23 : w2.cell? ⟨F,23,none⟩ = some (.int .i64 (a : Int)):=h2.out.held.at_ rfl
 clear hS hS0
 go_upto_region 3 with fail
 generalize (w2.setCell ⟨H1,0,none⟩ (.int .i64 (a : Int))).setCell ⟨H1,1,none⟩ (.int .i64 (p.i : Int)) = w3 at *
 clear z0 z1 y0 y1 c23 h2 hFl hFne hcp
 have hMs:=lhi (hitC_size (hitS a p))
 have hMo:=lhi (hit_cells (hitS a p))
 have hnull:=lhi (held_new w3 31 (hitC sp00))
 have hb4:=lhi (below_row ((Below.refl w3.heap.size w3).alloc (nlr _) (.cells (hitC sp00) 31)) (nlr _) (hitC (hitS a p)))
 have hH4:=lhi (hnull.out.row (hitC (hitS a p)))
 rw [show (w3.alloc (.cells (hitC sp00) 31)) = w3.alloc (.cells #[.int .i64 0,.int .i64 0,.int .i64 0,.int .i64 0,.int .i64 0,.int .i64 0,.int .i64 0,.int .i64 0,.int .i64 0,.int .i64 0,.int .i64 0,.int .i64 0,.int .i64 0,.int .i64 0,.int .i64 0,.int .i64 0,.int .i64 0,.int .i64 0,.int .i64 0,.int .i64 0] 31) from rfl] at hb4 hH4
 have hbd:=lhi (fun (w : World) => build_hit (hitS a p) w)
 generalize hcm : hitC (hitS a p) = CM at *
 replace hcm:=lhi hcm
 go_upto_region 4 with (first
  | (refine wpList_load_row rfl 29 (.tmp 10) rfl H1 rfl 29 _ (0,0) _ hM3.out Try.underlying29 rfl (by rw [hMs.out];exact size_ten) ?_)
  | (refine wpList_build_hit rfl (.tmp 25) rfl (hitS a p) CM hcm.out rfl ?_)
  | (refine wpList_store_row rfl 31 (.tmp 12) (.tmp 26) rfl w3.heap.size CM rfl rfl 31 _ hnull.out (by rw [hMs.out];exact size_hit) (by rw [hMs.out];rfl) hMo.out ?_))
 have hh:=lhi (h3.out.keep hb4.out)
 have hg4:=lhi (grown_then hg3.out hb4.out)
 generalize (w3.alloc (.cells #[.int .i64 0,.int .i64 0,.int .i64 0,.int .i64 0,.int .i64 0,.int .i64 0,.int .i64 0,.int .i64 0,.int .i64 0,.int .i64 0,.int .i64 0,.int .i64 0,.int .i64 0,.int .i64 0,.int .i64 0,.int .i64 0,.int .i64 0,.int .i64 0,.int .i64 0,.int .i64 0] 31)).setRow w3.heap.size CM = w4 at *
 generalize w3.heap.size = K at *
 clear hb4 hM3 h3 hg3 hnull hbd
 have c0 : w4.cell? ⟨F,0,none⟩ = some (.bool false):=by have:=hh.out.held.at_ (i:=0) (v:=.bool f.best.isSome) rfl;rwa [hbest] at this
 go_wp2
 go_quiet (fail)
 generalize hw5 : w4.drewN _ = w5
 have hb5:=lhi (show Below w4.heap.size w4 w5 from hw5 ▸ below_drewN (Below.refl _ _) _)
 clear hw5 c0
 have hF5:=lhi (hh.out.held.keep hb5.out)
 have hH5:=lhi (hH4.out.keep hb5.out)
 obtain ⟨cs',k1,k2,k3⟩:=setCells_held (hitL (hitS a p)) 1 _ _ hF5.out
 have hfin:=lhi (show Held ((w5.setCells F 1 (hitL (hitS a p))).setCell ⟨F,0,none⟩ (.bool true)) F 62 (fndC ⟨some (hitS a p),f.cost⟩ a M) from (fnd_best k2 k3) ▸ k1.put 0 (.bool true))
 have c0' : (w5.setCells F 1 (hitL (hitS a p))).cell? ⟨F,0,none⟩ = some (.bool false):=k1.at_ (by rw [k3,if_neg (by omega)];show some (Value.bool f.best.isSome) = _;rw [hbest];rfl)
 have t0':=k1.thawed 0
 have hgr:=lhi (grown_trans (grown_then hg4.out hb5.out) (grown_trans (setCells_grown F (hitL (hitS a p)) 1 w5) (grown_cell _ F 0 (.bool true))))
 have hres:=lhi (And.intro hfin.out hgr.out)
 rw [show hitL (hitS a p) = (hitC (hitS a p)).toList from by unfold hitC;rw [List.toList_toArray]] at c0' t0' hres
 rw [hcm.out] at c0' t0' hres
 clear k1 k2 k3 hfin hgr
 go_wp2_with (first
  | (refine wpList_load_row rfl 31 (.tmp 12) rfl K rfl 31 _ (0,0) _ hH5.out Try.underlying31 rfl (by rw [hMs.out];exact size_hit) ?_)
  | (refine wpList_store_mid rfl 31 (.tmp 43) (.tmp 41) rfl F 1 CM rfl rfl (hF5.out.there 1 _ (by rw [hMs.out];show 21 ≤ 24;decide)) (by rw [hMs.out];exact size_hit) hMo.out ?_))
 go_end0
 exact ⟨rfl,⟨some (hitS a p),f.cost⟩,hres.out.1,hres.out.2,hrun.out,Int.le_refl _,by show f.cost ≤ _;omega⟩
end
def SLf (K F : Nat) (CM FC : Array Value) (w' : World) : Prop:=Held w' K 31 CM ∧ Held w' F 62 FC
theorem SLf.below {K F : Nat} {CM FC : Array Value} {w1 w2 : World} (h : SLf K F CM FC w1) (hb : Below w1.heap.size w1 w2) : SLf K F CM FC w2:=⟨h.1.keep hb,h.2.keep hb⟩
theorem fnd_range {w : World} {F : Nat} {a : Nat} {M c : Int} {m : Spn} (h : Held w F 62 (fndC ⟨some m,c⟩ a M)) : w.rangeAt F 1 (hitC m).toList:=fun j u hj => by
 have hj2 : (hitL m)[j]? = some u:=by unfold hitC at hj;rwa [List.toList_toArray] at hj
 refine h.at_ ?_
 have hlt : j < 20:=by have:=(List.getElem?_eq_some_iff.1 hj2).1;rwa [hitL_len] at this
 have : j = 0 ∨ j = 1 ∨ j = 2 ∨ j = 3 ∨ j = 4 ∨ j = 5 ∨ j = 6 ∨ j = 7 ∨ j = 8 ∨ j = 9 ∨ j = 10 ∨ j = 11 ∨ j = 12 ∨ j = 13 ∨ j = 14 ∨ j = 15 ∨ j = 16 ∨ j = 17 ∨ j = 18 ∨ j = 19:=by omega
 rcases this with rfl | rfl | rfl | rfl | rfl | rfl | rfl | rfl | rfl | rfl | rfl | rfl | rfl | rfl | rfl | rfl | rfl | rfl | rfl | rfl <;> exact hj2
section
variable {w w' w1 : World} {F B : Nat} {An : Option Addr} {nn cn : Nat} {At : Option Addr} {nt ct : Nat} {ns : List Nod} {t : List UInt8} {g : Int} {a : Nat} {M : Int} {f f' f1 : Fnd} {D : Nat} {A : Option Addr} {n c : Nat} {l : List Tsk} {p : Pt} {tk : Tsk}
theorem rways_some (h : Fst w F B An nn cn At nt ct ns t g a M f) (m0 : Spn) (hbest : f.best = some m0) :
    Calls Try.prog 24 #[.pointer (some ⟨F,0,none⟩),.agg #[.slice An nn cn,.int .i64 g],.slice At nt ct,.int .i64 (p.i : Int),hitV p.sp,.slice A 0 c] w (WayRet w F ns t a M [([],p)] f (max (f.cost + 1) (2 * M + 1 - f.cost))):=by
 show Calls Try.prog 24 #[.pointer (some ⟨F,0,none⟩),.agg #[.slice An nn cn,.int .i64 g],.slice At nt ct,.int .i64 (p.i : Int),.agg (hitC p.sp),.slice A 0 c] w _
 have hb2:=lhi (((Below.refl w.heap.size w).alloc (nlr _) (.cells #[.slice An nn cn,.int .i64 g] 24)).alloc (by simp) (.cells (hitC p.sp) 29))
 have hg2:=lhi (grown_of hb2.out (some F))
 have h2:=lhi (h.keep hb2.out)
 have hb3:=lhi ((hb2.out.setCell (p:=⟨w.heap.size + 1,0,none⟩) (Nat.le_succ _) (.int .i64 (a : Int))).setCell (p:=⟨w.heap.size + 1,1,none⟩) (Nat.le_succ _) (.int .i64 (p.i : Int)))
 have hg3:=lhi (grown_of hb3.out (some F))
 have h3:=lhi (h.keep hb3.out)
 have hS:=lhi (held_new2 w (.cells #[.slice An nn cn,.int .i64 g] 24) 29 (hitC p.sp))
 have hrun:=lhi (show Run ns t a M [([],p)] f ⟨some (if bet (hitS a p) m0 = true then hitS a p else m0),f.cost⟩ from by have:=Run.leaf (ns:=ns) (t:=t) (M:=M) (a:=a) (p:=p) (f:=f);rwa [hbest] at this)
 have hFl:=lhi h.held.lt
 clear h
 generalize hcp : hitC p.sp = CS at *
 replace hcp:=lhi hcp
 go_enter Try.func24,Try.ntmps24
 go_upto_region 1 with fail
 generalize (w.alloc (.cells #[.slice An nn cn,.int .i64 g] 24)).alloc (.cells CS 29) = w2 at *
 clear hb2 hb3 hg2
 have hFne:=lhi (show F ≠ w.heap.size + 1 by have:=hFl.out;omega)
 generalize w.heap.size + 1 = H1 at *
 generalize w.heap.size = H0 at *
 have hS0:=hS.out
 rw [← hcp.out] at hS0
 have hM3:=lhi (show Held ((w2.setCell ⟨H1,0,none⟩ (.int .i64 (a : Int))).setCell ⟨H1,1,none⟩ (.int .i64 (p.i : Int))) H1 29 (hitC (hitS a p)) from hS0.span (k:=0) (by decide) ((a : Int),(p.i : Int)))
 have ⟨z0,z1⟩:=span_there hS0 (k:=0) (by decide)
 have y0:=hS0.thawed 0
 have y1:=hS0.thawed 1
 have c23 : w2.cell? ⟨F,23,none⟩ = some (.int .i64 (a : Int)):=h2.out.held.at_ rfl
 clear hS hS0
 go_upto_region 3 with fail
 generalize (w2.setCell ⟨H1,0,none⟩ (.int .i64 (a : Int))).setCell ⟨H1,1,none⟩ (.int .i64 (p.i : Int)) = w3 at *
 clear z0 z1 y0 y1 c23 h2 hFl hFne hcp
 have hMs:=lhi (hitC_size (hitS a p))
 have hMo:=lhi (hit_cells (hitS a p))
 have hnull:=lhi (held_new w3 31 (hitC sp00))
 have hb4:=lhi (below_row ((Below.refl w3.heap.size w3).alloc (nlr _) (.cells (hitC sp00) 31)) (nlr _) (hitC (hitS a p)))
 have hH4:=lhi (hnull.out.row (hitC (hitS a p)))
 rw [show (w3.alloc (.cells (hitC sp00) 31)) = w3.alloc (.cells #[.int .i64 0,.int .i64 0,.int .i64 0,.int .i64 0,.int .i64 0,.int .i64 0,.int .i64 0,.int .i64 0,.int .i64 0,.int .i64 0,.int .i64 0,.int .i64 0,.int .i64 0,.int .i64 0,.int .i64 0,.int .i64 0,.int .i64 0,.int .i64 0,.int .i64 0,.int .i64 0] 31) from rfl] at hb4 hH4
 have hbd:=lhi (fun (w : World) => build_hit (hitS a p) w)
 generalize hcm : hitC (hitS a p) = CM at *
 replace hcm:=lhi hcm
 go_upto_region 4 with (first
  | (refine wpList_load_row rfl 29 (.tmp 10) rfl H1 rfl 29 _ (0,0) _ hM3.out Try.underlying29 rfl (by rw [hMs.out];exact size_ten) ?_)
  | (refine wpList_build_hit rfl (.tmp 25) rfl (hitS a p) CM hcm.out rfl ?_)
  | (refine wpList_store_row rfl 31 (.tmp 12) (.tmp 26) rfl w3.heap.size CM rfl rfl 31 _ hnull.out (by rw [hMs.out];exact size_hit) (by rw [hMs.out];rfl) hMo.out ?_))
 have hh:=lhi (h3.out.keep hb4.out)
 have hg4:=lhi (grown_then hg3.out hb4.out)
 generalize (w3.alloc (.cells #[.int .i64 0,.int .i64 0,.int .i64 0,.int .i64 0,.int .i64 0,.int .i64 0,.int .i64 0,.int .i64 0,.int .i64 0,.int .i64 0,.int .i64 0,.int .i64 0,.int .i64 0,.int .i64 0,.int .i64 0,.int .i64 0,.int .i64 0,.int .i64 0,.int .i64 0,.int .i64 0] 31)).setRow w3.heap.size CM = w4 at *
 generalize w3.heap.size = K at *
 clear hb4 hM3 h3 hg3 hnull hbd
 have hBt:=lhi (show ∀ w : World,Calls Try.prog 27 #[.agg (hitC (hitS a p)),.agg (hitC m0)] w fun e w' => e = .returned (.bool (bet (hitS a p) m0)) ∧ Below w.heap.size w w' from fun w => rBetter_any (hitS a p) m0 w)
 rw [hcm.out] at hBt
 have hL:=lhi (show (hitC m0).toList.length = 20 from rfl)
 have hFC : fndC f a M = fndC ⟨some m0,f.cost⟩ a M:=by cases f;cases hbest;rfl
 have hF4:=lhi (show Held w4 F 62 (fndC ⟨some m0,f.cost⟩ a M) from hFC ▸ hh.out.held)
 have hSd:=lhi (show SLf K F CM (fndC ⟨some m0,f.cost⟩ a M) w4.drew from ⟨hH4.out.drew,hF4.out.drew⟩)
 have hR:=lhi (fun (w' : World) (hS' : SLf K F CM (fndC ⟨some m0,f.cost⟩ a M) w') => show w'.rangeAt F 1 (hitC m0).toList from fnd_range hS'.2)
 have hRa:=lhi (fun (w' : World) (hS' : SLf K F CM (fndC ⟨some m0,f.cost⟩ a M) w') => show w'.cell? ⟨F,0,none⟩ = some (.bool true) from hS'.2.at_ rfl)
 have hMl:=lhi (show CM.toList.length = 20 by rw [Array.length_toList,hMs.out])
 have hb5:=lhi ((Below.refl w4.heap.size w4).drew)
 generalize bet (hitS a p) m0 = bt at *
 generalize hitC m0 = C0 at *
 clear hF4 hH4 hFC
 go_wp2
 refine wp_region_held_drew (S:=SLf K F CM (fndC ⟨some m0,f.cost⟩ a M)) (by kernel_rfl) hSd.out (fun hS => ?_)
 refine wpAnyH_take (i:=0) (v:=?_) rfl (by kernel_rfl) (by kernel_rfl) (by kernel_rfl) (fun _ _ _ h => h) (Or.inl ⟨by rfl,?_⟩) hS ?_
 rotate_left
 · (intro w' hS';go_simp;try with_reducible rfl)
 (try simp only [Act.put,List.getElem_toArray,List.getElem_cons_zero,List.getElem_cons_succ,List.setIfInBounds_toArray,List.set_cons_zero,List.set_cons_succ])
 refine wpAnyH_take (i:=1) (v:=?_) rfl (by kernel_rfl) (by kernel_rfl) (by kernel_rfl) (fun _ _ _ h => h) (Or.inl ⟨by rfl,?_⟩) hS ?_
 rotate_left
 · (intro w' hS';go_simp;try with_reducible rfl)
 (try simp only [Act.put,List.getElem_toArray,List.getElem_cons_zero,List.getElem_cons_succ,List.setIfInBounds_toArray,List.set_cons_zero,List.set_cons_succ])
 refine wpAnyH_take (i:=2) (v:=?_) rfl (by kernel_rfl) (by kernel_rfl) (by kernel_rfl) (fun _ _ _ h => h) (Or.inl ⟨by rfl,?_⟩) hS ?_
 rotate_left
 · (intro w' hS';go_simp;try with_reducible rfl)
 (try simp only [Act.put,List.getElem_toArray,List.getElem_cons_zero,List.getElem_cons_succ,List.setIfInBounds_toArray,List.set_cons_zero,List.set_cons_succ])
 refine wpAnyH_take (i:=3) (v:=?_) rfl (by kernel_rfl) (by kernel_rfl) (by kernel_rfl) (fun _ _ _ h => h) (Or.inl ⟨by rfl,?_⟩) hS ?_
 rotate_left
 · (intro w' hS';have hc:=hRa.out w' hS';go_simp;try with_reducible rfl)
 (try simp only [Act.put,List.getElem_toArray,List.getElem_cons_zero,List.getElem_cons_succ,List.setIfInBounds_toArray,List.set_cons_zero,List.set_cons_succ])
 refine wpAnyH_take (i:=4) (v:=?_) rfl (by kernel_rfl) (by kernel_rfl) (by kernel_rfl) (fun _ _ _ h => h) (Or.inl ⟨by rfl,?_⟩) hS ?_
 rotate_left
 · (intro w' hS';go_simp;try with_reducible rfl)
 (try simp only [Act.put,List.getElem_toArray,List.getElem_cons_zero,List.getElem_cons_succ,List.setIfInBounds_toArray,List.set_cons_zero,List.set_cons_succ])
 refine wpAnyH_take (i:=5) (v:=?_) rfl (by kernel_rfl) (by kernel_rfl) (by kernel_rfl) (fun _ _ _ h => h) (Or.inl ⟨by rfl,?_⟩) hS ?_
 rotate_left
 · (intro w' hS';go_simp;try with_reducible rfl)
 (try simp only [Act.put,List.getElem_toArray,List.getElem_cons_zero,List.getElem_cons_succ,List.setIfInBounds_toArray,List.set_cons_zero,List.set_cons_succ])
 refine wpAnyH_take (i:=6) (v:=_) rfl (by kernel_rfl) (by kernel_rfl) (by kernel_rfl) (fun _ _ _ h => h) (yieldsIf_load_mid (by rfl) _ _ rfl (K) 0 rfl (CM.toList) _ (fun _ hS' => hS'.1.range) Try.underlying31 rfl (by rw [hMl.out];exact size_hit)) hS ?_
 (try simp only [Act.put,List.getElem_toArray,List.getElem_cons_zero,List.getElem_cons_succ,List.setIfInBounds_toArray,List.set_cons_zero,List.set_cons_succ])
 refine wpAnyH_take (i:=7) (v:=?_) rfl (by kernel_rfl) (by kernel_rfl) (by kernel_rfl) (fun _ _ _ h => h) (Or.inl ⟨by rfl,?_⟩) hS ?_
 rotate_left
 · (intro w' hS';go_simp;try with_reducible rfl)
 (try simp only [Act.put,List.getElem_toArray,List.getElem_cons_zero,List.getElem_cons_succ,List.setIfInBounds_toArray,List.set_cons_zero,List.set_cons_succ])
 refine wpAnyH_take (i:=8) (v:=?_) rfl (by kernel_rfl) (by kernel_rfl) (by kernel_rfl) (fun _ _ _ h => h) (Or.inl ⟨by rfl,?_⟩) hS ?_
 rotate_left
 · (intro w' hS';go_simp;try with_reducible rfl)
 (try simp only [Act.put,List.getElem_toArray,List.getElem_cons_zero,List.getElem_cons_succ,List.setIfInBounds_toArray,List.set_cons_zero,List.set_cons_succ])
 refine wpAnyH_take (i:=9) (v:=?_) rfl (by kernel_rfl) (by kernel_rfl) (by kernel_rfl) (fun _ _ _ h => h) (Or.inl ⟨by rfl,?_⟩) hS ?_
 rotate_left
 · (intro w' hS';go_simp;try with_reducible rfl)
 (try simp only [Act.put,List.getElem_toArray,List.getElem_cons_zero,List.getElem_cons_succ,List.setIfInBounds_toArray,List.set_cons_zero,List.set_cons_succ])
 refine wpAnyH_take (i:=10) (v:=_) rfl (by kernel_rfl) (by kernel_rfl) (by kernel_rfl) (fun _ _ _ h => h) (yieldsIf_load_mid (by rfl) _ _ rfl (F) 1 rfl (C0.toList) _ (fun _ hS' => hR.out _ hS') Try.underlying31 rfl (by rw [hL.out];exact size_hit)) hS ?_
 (try simp only [Act.put,List.getElem_toArray,List.getElem_cons_zero,List.getElem_cons_succ,List.setIfInBounds_toArray,List.set_cons_zero,List.set_cons_succ])
 refine wpAnyH_ready (rs:=[11]) (by kernel_rfl) (by simp) ?_
 refine AllReadyH.cons rfl (fun K hK => ?_) AllReadyH.nil
 go_simp
 refine (hBt.out _).mono ?_
 rintro e w5 ⟨rfl,hb6⟩
 go_simp
 refine hK.out _ _ (hS.below hb6) (fun _ => ?_)
 clear hK K
 replace hS:=hS.below hb6
 (try simp only [Act.put,List.getElem_toArray,List.getElem_cons_zero,List.getElem_cons_succ,List.setIfInBounds_toArray,List.set_cons_zero,List.set_cons_succ])
 refine wpAnyH_take (i:=12) (v:=?_) rfl (by kernel_rfl) (by kernel_rfl) (by kernel_rfl) (fun _ _ _ h => h) (Or.inl ⟨by rfl,?_⟩) hS ?_
 rotate_left
 · (intro w' hS';go_simp;try with_reducible rfl)
 (try simp only [Act.put,List.getElem_toArray,List.getElem_cons_zero,List.getElem_cons_succ,List.setIfInBounds_toArray,List.set_cons_zero,List.set_cons_succ])
 refine wpAnyH_done (by kernel_rfl) ?_ _
 have hg5:=lhi (grown_then hg4.out (hb5.out.trans (hb6.mono hb5.out.size)))
 cases bt with
 | false =>
  have hfin:=lhi (show Held (w5.setCell ⟨F,0,none⟩ (.bool true)) F 62 (fndC ⟨some m0,f.cost⟩ a M) from hS.2.put 0 (.bool true))
  have hgr:=lhi (grown_trans hg5.out (grown_cell w5 F 0 (.bool true)))
  have c0:=hRa.out _ hS
  have t0:=hS.2.thawed 0
  clear hS hR hRa hBt
  go_wp2
  go_end0
  exact ⟨rfl,⟨some m0,f.cost⟩,hfin.out,hgr.out,hrun.out,Int.le_refl _,by show f.cost ≤ _;omega⟩
 | true =>
  clear hR hRa hBt
  have hF5:=lhi (hS.2)
  have hH5:=lhi hS.1
  obtain ⟨cs',k1,k2,k3⟩:=setCells_held (hitL (hitS a p)) 1 _ _ hF5.out
  have hfin:=lhi (show Held ((w5.setCells F 1 (hitL (hitS a p))).setCell ⟨F,0,none⟩ (.bool true)) F 62 (fndC ⟨some (hitS a p),f.cost⟩ a M) from (fnd_best (f:=⟨some m0,f.cost⟩) k2 k3) ▸ k1.put 0 (.bool true))
  have c0' : (w5.setCells F 1 (hitL (hitS a p))).cell? ⟨F,0,none⟩ = some (.bool true):=k1.at_ (by rw [k3,if_neg (by omega)];rfl)
  have t0':=k1.thawed 0
  have hgr:=lhi (grown_trans (hg5.out) (grown_trans (setCells_grown F (hitL (hitS a p)) 1 w5) (grown_cell _ F 0 (.bool true))))
  have hres:=lhi (And.intro hfin.out hgr.out)
  rw [show hitL (hitS a p) = (hitC (hitS a p)).toList from by unfold hitC;rw [List.toList_toArray]] at c0' t0' hres
  rw [hcm.out] at c0' t0' hres
  clear k1 k2 k3 hfin hgr
  go_wp2_with (first
   | (refine wpList_load_row rfl 31 (.tmp 12) rfl K rfl 31 _ (0,0) _ hH5.out Try.underlying31 rfl (by rw [hMs.out];exact size_hit) ?_)
   | (refine wpList_store_mid rfl 31 (.tmp 43) (.tmp 41) rfl F 1 CM rfl rfl (hF5.out.there 1 _ (by rw [hMs.out];show 21 ≤ 24;decide)) (by rw [hMs.out];exact size_hit) hMo.out ?_))
  go_end0
  exact ⟨rfl,⟨some (hitS a p),f.cost⟩,hres.out.1,hres.out.2,hrun.out,Int.le_refl _,by show f.cost ≤ _;omega⟩
end
end Go.Proofs.Ytjopmieaikgbcaa
