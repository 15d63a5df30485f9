/- Contracts and plain facts: M36. -/
import Derived.Test.YtjopmieaikgbcaaM34
set_option linter.unusedVariables false
set_option linter.unusedSimpArgs false
set_option maxRecDepth 100000
set_option maxHeartbeats 32000000
namespace Go.Proofs.Ytjopmieaikgbcaa
open Go.RowKit
section
variable {w w' w1 : World} {F B : Nat} {An : Option Addr} {nn cn : Nat} {At : Option Addr} {nt ct : Nat} {ns : List Nod} {t : List UInt8} {g : Int} {a : Nat} {M : Int} {f f' f1 : Fnd} {D : Nat} {A : Option Addr} {n c : Nat} {l : List Tsk} {p : Pt}
theorem rnode_3 (hW : WaysOK F B An nn cn At nt ct ns t g a M D) (m : Nat) (h : Fst w F B An nn cn At nt ct ns t g a M f) (hwk : WOK ns t g a (.node (m : Int) :: l,p)) (hk : (ndA ns (m : Int)).kind = 3) (hT : Trow w F A l) (hn : n = l.length) (hnc : n ≤ c) (hcm : c ≤ maxLen) (hn1 : (n : Int) + 1 ≤ f.cost) (hD : (M + 1 - f.cost).toNat ≤ D) (hf1 : 1 ≤ f.cost) (hM : f.cost ≤ M) :
    Calls Try.prog 37 #[.pointer (some ⟨F,0,none⟩),.agg #[.slice An nn cn,.int .i64 g],.slice At nt ct,.int .i64 (p.i : Int),hitV p.sp,nodV (ndA ns (m : Int)),.slice A n c] w (WayRet w F ns t a M ((nexts ns t (.node (m : Int)) p).map (ahead l)) f (2 * M + 2 - f.cost)):=by
 show Calls Try.prog 37 #[.pointer (some ⟨F,0,none⟩),.agg #[.slice An nn cn,.int .i64 g],.slice At nt ct,.int .i64 (p.i : Int),.agg (hitC p.sp),.agg (nodC (ndA ns (m : Int))),.slice A n c] w _
 have hwA:=lhi (show WOK ns t g a ([.node (ndA ns (m : Int)).a] ++ l,p) from WOK.next h.thru.rt hwk _ (by rw [next_alt hk];exact List.mem_cons_self ..))
 have hwB:=lhi (show WOK ns t g a ([.node (ndA ns (m : Int)).b] ++ l,p) from WOK.next h.thru.rt hwk _ (by rw [next_alt hk];exact List.mem_cons_of_mem _ (List.mem_cons_self ..)))
 rw [next_alt hk]
 obtain ⟨N0,N1,N2,N3,N4,N5⟩:=nod_at (ndA ns (m : Int))
 rw [hk] at N0
 have hok:=lhi hwk
 have hbd:=lhi (show 1 ≤ f.cost ∧ f.cost ≤ M ∧ M ≤ 400000 ∧ (n : Int) + 1 ≤ f.cost ∧ (M + 1 - f.cost).toNat ≤ D ∧ n = l.length ∧ n ≤ c ∧ c ≤ maxLen from ⟨hf1,hM,h.m1,hn1,hD,hn,hnc,hcm⟩)
 have hS2:=lhi (snd_new w #[.slice An nn cn,.int .i64 g] (hitC p.sp) (nodC (ndA ns (m : Int))))
 have hb2:=lhi ((((Below.refl w.heap.size w).alloc (nlr _) (.cells #[.slice An nn cn,.int .i64 g] 24)).alloc (by simp) (.cells (hitC p.sp) 29)).alloc (by simp;omega) (.cells (nodC (ndA ns (m : Int))) 54))
 have h2:=lhi (h.keep hb2.out)
 have hg2:=lhi (grown_of hb2.out (some F))
 have hT2:=lhi (hT.below hb2.out)
 have hCS:=lhi (hitC_size p.sp)
 have hFl:=lhi h.held.lt
 have htx:=lhi (show nt = t.length ∧ nt ≤ 1000000 ∧ p.i ≤ t.length from ⟨h.thru.nt_,h.thru.tl,hwk.hi⟩)
 clear h hT hn hnc hcm hn1 hD hf1 hM hwk
 have hWx:=lhi (show ∀ (w : World) (f : Fnd) (A : Option Addr) (n c : Nat) (l : List Tsk) (p : Pt),Fst w F B An nn cn At nt ct ns t g a M f → WOK ns t g a (l,p) → Trow w F A l → n = l.length → n ≤ c → c ≤ maxLen → (n : Int) ≤ f.cost + 1 → (M + 1 - f.cost).toNat ≤ D → 0 ≤ f.cost → f.cost ≤ 2 * M + 1 → Calls Try.prog 24 #[.pointer (some ⟨F,0,none⟩),.agg #[.slice An nn cn,.int .i64 g],.slice At nt ct,.int .i64 (p.i : Int),.agg (hitC p.sp),.slice A n c] w (WayRet w F ns t a M [(l,p)] f (max (f.cost + 1) (2 * M + 1 - f.cost))) from hW)
 clear hW
 show Calls _ _ _ _ (WayRet w F ns t a M [([.node (ndA ns (m : Int)).a] ++ l,p),([.node (ndA ns (m : Int)).b] ++ l,p)] f (2 * M + 2 - f.cost))
 have hF3:=lhi (show F ≠ w.heap.size ∧ F ≠ w.heap.size + 1 ∧ F ≠ w.heap.size + 1 + 1 by have:=hFl.out;omega)
 have hFs:=lhi (show F < (((w.alloc (.cells #[.slice An nn cn,.int .i64 g] 24)).alloc (.cells (hitC p.sp) 29)).alloc (.cells (nodC (ndA ns (m : Int))) 54)).heap.size by have:=hFl.out;simp;omega)
 have hWp:=lhi (fun w f A n c l => hWx.out w f A n c l p)
 clear hWx
 generalize hitC p.sp = CS at *
 generalize nodC (ndA ns (m : Int)) = CN at *
 replace hk:=lhi hk
 generalize (ndA ns (m : Int)).a = na at *
 generalize (ndA ns (m : Int)).b = nb at *
 go_enter Try.func37,Try.ntmps37
 go_upto_region 1 with fail
 generalize ((w.alloc (.cells #[.slice An nn cn,.int .i64 g] 24)).alloc (.cells CS 29)).alloc (.cells CN 54) = w2 at *
 clear hb2
 generalize w.heap.size + 1 + 1 = H2 at *
 generalize w.heap.size + 1 = H1 at *
 generalize w.heap.size = H0 at *
 have n0 : w2.cell? ⟨H2,0,none⟩ = some (.int .i64 3):=hS2.out.2.2.at_ N0
 replace N1:=lhi N1
 replace N2:=lhi N2
 clear N0 N3 N4 N5
 have hb3:=lhi (((Below.refl w2.heap.size w2).alloc (nlr _) (.cells #[.int .i64 0,.int .i64 na,.int .i64 0,.int .i64 0] 66)).drew)
 have hR:=lhi (rrow_any ((w2.alloc (.cells #[.int .i64 0,.int .i64 na,.int .i64 0,.int .i64 0] 66)).drew) F (by have:=hFs.out;simp;omega) A n c l hbd.out.2.2.2.2.2.1 hbd.out.2.2.2.2.2.2.1 (hT2.out.below hb3.out) (some ⟨w2.heap.size,0,none⟩) 1 1 [.node na] rfl (nlr _) ((trow_new w2 F [.node na] hFs.out).below ((Below.refl _ _).drew)) (by have:=hbd.out;omega))
 have hSd:=lhi (hS2.out.below ((Below.refl _ _).drew))
 clear hS2
 go_wp2
 refine wp_region_held_drew (S:=SNd H0 H1 H2 #[.slice An nn cn,.int .i64 g] CS CN) (by kernel_rfl) hSd.out (fun hS => ?_)
 refine wpAnyH_take (i:=0) (v:=?_) rfl (by kernel_rfl) (by kernel_rfl) (by kernel_rfl) (fun _ _ _ h => h) (Or.inl ⟨by rfl,?_⟩) hS ?_
 rotate_left
 · (intro w' hS';go_simp;try with_reducible rfl)
 (try simp only [Act.put,List.getElem_toArray,List.getElem_cons_zero,List.getElem_cons_succ,List.setIfInBounds_toArray,List.set_cons_zero,List.set_cons_succ])
 refine wpAnyH_take (i:=1) (v:=?_) rfl (by kernel_rfl) (by kernel_rfl) (by kernel_rfl) (fun _ _ _ h => h) (Or.inl ⟨by rfl,?_⟩) hS ?_
 rotate_left
 · (intro w' hS';have ha : w'.cell? ⟨H0,0,none⟩ = some (.slice An nn cn):=hS'.1.at_ rfl;have hb : w'.cell? ⟨H0,1,none⟩ = some (.int .i64 g):=hS'.1.at_ rfl;go_simp;try with_reducible rfl)
 (try simp only [Act.put,List.getElem_toArray,List.getElem_cons_zero,List.getElem_cons_succ,List.setIfInBounds_toArray,List.set_cons_zero,List.set_cons_succ])
 refine wpAnyH_take (i:=2) (v:=?_) rfl (by kernel_rfl) (by kernel_rfl) (by kernel_rfl) (fun _ _ _ h => h) (Or.inl ⟨by rfl,?_⟩) hS ?_
 rotate_left
 · (intro w' hS';go_simp;try with_reducible rfl)
 (try simp only [Act.put,List.getElem_toArray,List.getElem_cons_zero,List.getElem_cons_succ,List.setIfInBounds_toArray,List.set_cons_zero,List.set_cons_succ])
 refine wpAnyH_take (i:=3) (v:=?_) rfl (by kernel_rfl) (by kernel_rfl) (by kernel_rfl) (fun _ _ _ h => h) (Or.inl ⟨by rfl,?_⟩) hS ?_
 rotate_left
 · (intro w' hS';go_simp;try with_reducible rfl)
 (try simp only [Act.put,List.getElem_toArray,List.getElem_cons_zero,List.getElem_cons_succ,List.setIfInBounds_toArray,List.set_cons_zero,List.set_cons_succ])
 refine wpAnyH_take (i:=4) (v:=_) rfl (by kernel_rfl) (by kernel_rfl) (by kernel_rfl) (fun _ _ _ h => h) (yieldsIf_load_mid (by rfl) _ _ rfl (H1) 0 rfl (CS.toList) _ (fun _ hS' => hS'.2.1.range) Try.underlying29 rfl (by rw [Array.length_toList,hCS.out];exact size_ten)) hS ?_
 (try simp only [Act.put,List.getElem_toArray,List.getElem_cons_zero,List.getElem_cons_succ,List.setIfInBounds_toArray,List.set_cons_zero,List.set_cons_succ])
 refine wpAnyH_take (i:=5) (v:=?_) rfl (by kernel_rfl) (by kernel_rfl) (by kernel_rfl) (fun _ _ _ h => h) (Or.inl ⟨by rfl,?_⟩) hS ?_
 rotate_left
 · (intro w' hS';go_simp;try with_reducible rfl)
 (try simp only [Act.put,List.getElem_toArray,List.getElem_cons_zero,List.getElem_cons_succ,List.setIfInBounds_toArray,List.set_cons_zero,List.set_cons_succ])
 refine wpAnyH_take (i:=6) (v:=?_) rfl (by kernel_rfl) (by kernel_rfl) (by kernel_rfl) (fun _ _ _ h => h) (Or.inl ⟨by rfl,?_⟩) hS ?_
 rotate_left
 · (intro w' hS';go_simp;try with_reducible rfl)
 (try simp only [Act.put,List.getElem_toArray,List.getElem_cons_zero,List.getElem_cons_succ,List.setIfInBounds_toArray,List.set_cons_zero,List.set_cons_succ])
 refine wpAnyH_take (i:=7) (v:=?_) rfl (by kernel_rfl) (by kernel_rfl) (by kernel_rfl) (fun _ _ _ h => h) (Or.inl ⟨by rfl,?_⟩) hS ?_
 rotate_left
 · (intro w' hS';have hc : w'.cell? ⟨H2,1,none⟩ = some (.int .i64 na):=hS'.2.2.at_ N1.out;go_simp;try with_reducible rfl)
 (try simp only [Act.put,List.getElem_toArray,List.getElem_cons_zero,List.getElem_cons_succ,List.setIfInBounds_toArray,List.set_cons_zero,List.set_cons_succ])
 refine wpAnyH_take (i:=8) (v:=?_) rfl (by kernel_rfl) (by kernel_rfl) (by kernel_rfl) (fun _ _ _ h => h) (Or.inl ⟨by rfl,?_⟩) hS ?_
 rotate_left
 · (intro w' hS';go_simp;try with_reducible rfl)
 (try simp only [Act.put,List.getElem_toArray,List.getElem_cons_zero,List.getElem_cons_succ,List.setIfInBounds_toArray,List.set_cons_zero,List.set_cons_succ])
 refine wpAnyH_ready (rs:=[9]) (by kernel_rfl) (by simp) ?_
 refine AllReadyH.cons rfl (fun K hK => ?_) AllReadyH.nil
 go_simp
 refine hK.out _ _ (hS.below ((Below.refl _ _).alloc (nlr _) (.cells #[.int .i64 0,.int .i64 na,.int .i64 0,.int .i64 0] 66))) (fun _ => ?_)
 clear hK K
 replace hS:=hS.below ((Below.refl _ _).alloc (nlr _) (.cells #[.int .i64 0,.int .i64 na,.int .i64 0,.int .i64 0] 66))
 (try simp only [Act.put,List.getElem_toArray,List.getElem_cons_zero,List.getElem_cons_succ,List.setIfInBounds_toArray,List.set_cons_zero,List.set_cons_succ])
 refine wpAnyH_ready (rs:=[10]) (by kernel_rfl) (by simp) ?_
 refine AllReadyH.cons rfl (fun K hK => ?_) AllReadyH.nil
 go_simp
 refine (hR.out).mono ?_
 rintro e w3 ⟨⟨A5,nA5,cA5,rfl,k1,k2,k3,k4⟩,hb4⟩
 replace k1:=lhi k1
 replace k2:=lhi k2
 go_simp
 refine hK.out _ _ (hS.below hb4) (fun _ => ?_)
 clear hK K
 replace hS:=hS.below hb4
 (try simp only [Act.put,List.getElem_toArray,List.getElem_cons_zero,List.getElem_cons_succ,List.setIfInBounds_toArray,List.set_cons_zero,List.set_cons_succ])
 refine wpAnyH_ready (rs:=[11]) (by kernel_rfl) (by simp) ?_
 refine AllReadyH.cons rfl (fun K hK => ?_) AllReadyH.nil
 go_simp
 refine (hWp.out w3 f A5 nA5 cA5 _ (h2.out.keep (hb3.out.trans (hb4.mono hb3.out.size))) hwA.out k4 k1.out k2.out k3 (by have:=hbd.out;have q:=k1.out;simp at q;omega) (by have:=hbd.out;omega) (by have:=hbd.out;omega) (by have:=hbd.out;omega)).mono ?_
 rintro e w4 ⟨rfl,qf,q1,q2,q3,q4,q5⟩
 go_simp
 refine hK.out _ _ (hS.grown q2 hF3.out) (fun _ => ?_)
 clear hK K
 replace hS:=hS.grown q2 hF3.out
 (try simp only [Act.put,List.getElem_toArray,List.getElem_cons_zero,List.getElem_cons_succ,List.setIfInBounds_toArray,List.set_cons_zero,List.set_cons_succ])
 refine wpAnyH_done (by kernel_rfl) ?_ _
 have hSd4:=lhi (hS.below ((Below.refl _ _).drew))
 have hb34:=lhi (hb3.out.trans (hb4.mono hb3.out.size))
 have h4:=lhi ((h2.out.keep hb34.out).turned q2 q1)
 have hT4:=lhi ((hT2.out.below hb34.out).keep q2)
 have hg4:=lhi (grown_trans hg2.out (grown_trans (grown_of hb34.out _) q2))
 have hq3:=lhi q3
 have hq45:=lhi (show f.cost ≤ qf.cost ∧ qf.cost ≤ max (f.cost + 1) (2 * M + 1 - f.cost) from ⟨q4,q5⟩)
 have hFs4:=lhi h4.out.held.lt
 have hb6:=lhi (((Below.refl w4.heap.size w4).alloc (nlr _) (.cells #[.int .i64 0,.int .i64 nb,.int .i64 0,.int .i64 0] 66)).drew)
 have hR6:=lhi (rrow_any ((w4.alloc (.cells #[.int .i64 0,.int .i64 nb,.int .i64 0,.int .i64 0] 66)).drew) F (by have:=hFs4.out;simp;omega) A n c l hbd.out.2.2.2.2.2.1 hbd.out.2.2.2.2.2.2.1 (hT4.out.below hb6.out) (some ⟨w4.heap.size,0,none⟩) 1 1 [.node nb] rfl (nlr _) ((trow_new w4 F [.node nb] hFs4.out).below ((Below.refl _ _).drew)) (by have:=hbd.out;omega))
 clear hS q1 q2 q3 q4 q5 hb4 hR hb3 hSd hT2 hg2 k1 k2 k3 k4 hwA hb34
 go_wp2
 refine wp_region_held_drew (S:=SNd H0 H1 H2 #[.slice An nn cn,.int .i64 g] CS CN) (by kernel_rfl) hSd4.out (fun hS => ?_)
 refine wpAnyH_take (i:=0) (v:=?_) rfl (by kernel_rfl) (by kernel_rfl) (by kernel_rfl) (fun _ _ _ h => h) (Or.inl ⟨by rfl,?_⟩) hS ?_
 rotate_left
 · (intro w' hS';go_simp;try with_reducible rfl)
 (try simp only [Act.put,List.getElem_toArray,List.getElem_cons_zero,List.getElem_cons_succ,List.setIfInBounds_toArray,List.set_cons_zero,List.set_cons_succ])
 refine wpAnyH_take (i:=1) (v:=?_) rfl (by kernel_rfl) (by kernel_rfl) (by kernel_rfl) (fun _ _ _ h => h) (Or.inl ⟨by rfl,?_⟩) hS ?_
 rotate_left
 · (intro w' hS';have ha : w'.cell? ⟨H0,0,none⟩ = some (.slice An nn cn):=hS'.1.at_ rfl;have hb : w'.cell? ⟨H0,1,none⟩ = some (.int .i64 g):=hS'.1.at_ rfl;go_simp;try with_reducible rfl)
 (try simp only [Act.put,List.getElem_toArray,List.getElem_cons_zero,List.getElem_cons_succ,List.setIfInBounds_toArray,List.set_cons_zero,List.set_cons_succ])
 refine wpAnyH_take (i:=2) (v:=?_) rfl (by kernel_rfl) (by kernel_rfl) (by kernel_rfl) (fun _ _ _ h => h) (Or.inl ⟨by rfl,?_⟩) hS ?_
 rotate_left
 · (intro w' hS';go_simp;try with_reducible rfl)
 (try simp only [Act.put,List.getElem_toArray,List.getElem_cons_zero,List.getElem_cons_succ,List.setIfInBounds_toArray,List.set_cons_zero,List.set_cons_succ])
 refine wpAnyH_take (i:=3) (v:=?_) rfl (by kernel_rfl) (by kernel_rfl) (by kernel_rfl) (fun _ _ _ h => h) (Or.inl ⟨by rfl,?_⟩) hS ?_
 rotate_left
 · (intro w' hS';go_simp;try with_reducible rfl)
 (try simp only [Act.put,List.getElem_toArray,List.getElem_cons_zero,List.getElem_cons_succ,List.setIfInBounds_toArray,List.set_cons_zero,List.set_cons_succ])
 refine wpAnyH_take (i:=4) (v:=_) rfl (by kernel_rfl) (by kernel_rfl) (by kernel_rfl) (fun _ _ _ h => h) (yieldsIf_load_mid (by rfl) _ _ rfl (H1) 0 rfl (CS.toList) _ (fun _ hS' => hS'.2.1.range) Try.underlying29 rfl (by rw [Array.length_toList,hCS.out];exact size_ten)) hS ?_
 (try simp only [Act.put,List.getElem_toArray,List.getElem_cons_zero,List.getElem_cons_succ,List.setIfInBounds_toArray,List.set_cons_zero,List.set_cons_succ])
 refine wpAnyH_take (i:=5) (v:=?_) rfl (by kernel_rfl) (by kernel_rfl) (by kernel_rfl) (fun _ _ _ h => h) (Or.inl ⟨by rfl,?_⟩) hS ?_
 rotate_left
 · (intro w' hS';go_simp;try with_reducible rfl)
 (try simp only [Act.put,List.getElem_toArray,List.getElem_cons_zero,List.getElem_cons_succ,List.setIfInBounds_toArray,List.set_cons_zero,List.set_cons_succ])
 refine wpAnyH_take (i:=6) (v:=?_) rfl (by kernel_rfl) (by kernel_rfl) (by kernel_rfl) (fun _ _ _ h => h) (Or.inl ⟨by rfl,?_⟩) hS ?_
 rotate_left
 · (intro w' hS';go_simp;try with_reducible rfl)
 (try simp only [Act.put,List.getElem_toArray,List.getElem_cons_zero,List.getElem_cons_succ,List.setIfInBounds_toArray,List.set_cons_zero,List.set_cons_succ])
 refine wpAnyH_take (i:=7) (v:=?_) rfl (by kernel_rfl) (by kernel_rfl) (by kernel_rfl) (fun _ _ _ h => h) (Or.inl ⟨by rfl,?_⟩) hS ?_
 rotate_left
 · (intro w' hS';have hc : w'.cell? ⟨H2,2,none⟩ = some (.int .i64 nb):=hS'.2.2.at_ N2.out;go_simp;try with_reducible rfl)
 (try simp only [Act.put,List.getElem_toArray,List.getElem_cons_zero,List.getElem_cons_succ,List.setIfInBounds_toArray,List.set_cons_zero,List.set_cons_succ])
 refine wpAnyH_take (i:=8) (v:=?_) rfl (by kernel_rfl) (by kernel_rfl) (by kernel_rfl) (fun _ _ _ h => h) (Or.inl ⟨by rfl,?_⟩) hS ?_
 rotate_left
 · (intro w' hS';go_simp;try with_reducible rfl)
 (try simp only [Act.put,List.getElem_toArray,List.getElem_cons_zero,List.getElem_cons_succ,List.setIfInBounds_toArray,List.set_cons_zero,List.set_cons_succ])
 refine wpAnyH_ready (rs:=[9]) (by kernel_rfl) (by simp) ?_
 refine AllReadyH.cons rfl (fun K hK => ?_) AllReadyH.nil
 go_simp
 refine hK.out _ _ (hS.below ((Below.refl _ _).alloc (nlr _) (.cells #[.int .i64 0,.int .i64 nb,.int .i64 0,.int .i64 0] 66))) (fun _ => ?_)
 clear hK K
 replace hS:=hS.below ((Below.refl _ _).alloc (nlr _) (.cells #[.int .i64 0,.int .i64 nb,.int .i64 0,.int .i64 0] 66))
 (try simp only [Act.put,List.getElem_toArray,List.getElem_cons_zero,List.getElem_cons_succ,List.setIfInBounds_toArray,List.set_cons_zero,List.set_cons_succ])
 refine wpAnyH_ready (rs:=[10]) (by kernel_rfl) (by simp) ?_
 refine AllReadyH.cons rfl (fun K hK => ?_) AllReadyH.nil
 go_simp
 refine (hR6.out).mono ?_
 rintro e w5 ⟨⟨A6,nA6,cA6,rfl,j1,j2,j3,j4⟩,hb7⟩
 replace j1:=lhi j1
 replace j2:=lhi j2
 go_simp
 refine hK.out _ _ (hS.below hb7) (fun _ => ?_)
 clear hK K
 replace hS:=hS.below hb7
 (try simp only [Act.put,List.getElem_toArray,List.getElem_cons_zero,List.getElem_cons_succ,List.setIfInBounds_toArray,List.set_cons_zero,List.set_cons_succ])
 refine wpAnyH_ready (rs:=[11]) (by kernel_rfl) (by simp) ?_
 refine AllReadyH.cons rfl (fun K hK => ?_) AllReadyH.nil
 go_simp
 refine (hWp.out w5 qf A6 nA6 cA6 _ (h4.out.keep (hb6.out.trans (hb7.mono hb6.out.size))) hwB.out j4 j1.out j2.out j3 (by have:=hbd.out;have hq:=hq45.out;have q:=j1.out;simp at q;omega) (by have:=hbd.out;have hq:=hq45.out;omega) (by have:=hbd.out;have hq:=hq45.out;omega) (by have:=hbd.out;have hq:=hq45.out;omega)).mono ?_
 rintro e w6 ⟨rfl,rf,r1,r2,r3,r4,r5⟩
 go_simp
 refine hK.out _ _ (hS.grown r2 hF3.out) (fun _ => ?_)
 clear hK K
 replace hS:=hS.grown r2 hF3.out
 (try simp only [Act.put,List.getElem_toArray,List.getElem_cons_zero,List.getElem_cons_succ,List.setIfInBounds_toArray,List.set_cons_zero,List.set_cons_succ])
 refine wpAnyH_done (by kernel_rfl) ?_ _
 go_wp2
 go_end0
 exact ⟨rfl,rf,r1,grown_trans hg4.out (grown_trans (grown_of (hb6.out.trans (hb7.mono hb6.out.size)) _) r2),Run.two hq3.out r3 r4,by have:=hq45.out;omega,by have:=hbd.out;have hq:=hq45.out;omega⟩
end
def halfN (x k : Nat) : Nat:=x / 2 ^ k
theorem halfN_zero (x : Nat) : halfN x 0 = x:=by simp [halfN]
theorem halfN_next (x k : Nat) : halfN x k / 2 = halfN x (k + 1):=by
 unfold halfN;rw [Nat.div_div_eq_div_mul,Nat.pow_succ]
theorem halfN_lt (x k : Nat) (h : x < 18446744073709551616) : halfN x k < 18446744073709551616:=Nat.lt_of_le_of_lt (Nat.div_le_self _ _) h
theorem halfN_end (f : Nat → Bool) (c k i : Nat) (h : c = 64 * k + i) (hi : i < 64) : ((((halfN (wd f k) i : Nat) : Int) % 2) == 1) = f c:=by
 have:=wd_bit f k i hi
 rw [← h,Nat.testBit_eq_decide_div_mod_eq] at this
 rw [← this]
 unfold halfN
 generalize wd f k / 2 ^ i = z
 rw [Bool.eq_iff_iff]
 simp only [beq_iff_eq,decide_eq_true_eq]
 omega
def RelHalf (x i0 : Nat) (v i : Value) : Prop:=∃ k : Nat,k ≤ i0 ∧ v = .int .u64 ((halfN x k : Nat) : Int) ∧ i = .int .u8 (k : Nat)
theorem RelHalf.mk {x i0 : Nat} {v i : Value} (h : ∃ k : Nat,k ≤ i0 ∧ v = .int .u64 ((halfN x k : Nat) : Int) ∧ i = .int .u8 (k : Nat)) : RelHalf x i0 v i:=h
theorem refHas_any (f : Nat → Bool) (c : Nat) (w : World) (hc : c < 256) :
    Calls Try.prog 38 #[setV f,.int .u8 (c : Int)] w fun e w' => e = .returned (.bool (f c)) ∧ Below w.heap.size w w':=by
 obtain ⟨K,i,he,hi,hK⟩:=byte_parts c hc
 have hA:=lhi (halfN_end f c K i he hi)
 have hx:=wd_lt f K
 have hs:=(set_new w f).cell' hK
 have h0:=tdiv_of he hi
 have h1:=ediv_of he hi
 have h2 : (c : Int).tmod 64 = (i : Int):=by rw [Int.tmod_eq_emod_of_nonneg (by omega)];omega
 have h3 : (c : Int) % 64 = (i : Int):=by omega
 have k0 : (0 : Int) ≤ (K : Int):=by omega
 have k1 : (K : Int) < 4:=by omega
 have k2 : IntKind.u8.wrap (K : Int) = (K : Int):=IntWalk.u8_in _ (by omega)
 have hi':=lhi hi
 clear he hK
 unfold setV setC
 unfold setC at hs
 go_enter Try.func38,Try.ntmps38
 go_wp2
 generalize wd f K = x at *
 go_loop [5,6] (RelHalf x i) (fun _ j => 64 - (intOf j).toNat)
 case atStart => exact RelHalf.mk ⟨0,by omega,by rw [halfN_zero],rfl⟩
 case round =>
  obtain ⟨k,hk,rfl,rfl⟩:=hrel
  have hl:=halfN_lt x k hx
  have hnx:=lhi (halfN_next x k)
  by_cases hlt : k < i
  · generalize halfN x k = z at *
    go_wp2
    go_round
    case rel => exact RelHalf.mk ⟨k + 1,by omega,by rw [← hnx.out];go_num,by go_num⟩
    case measure => simp [intOf];omega
  · obtain rfl : k = i:=by omega
    go_wp2
    go_ret
    exact ⟨ret_bool hA.out,(Below.refl _ _).alloc (nlr _) _⟩
def notS (f : Nat → Bool) (k : Nat) : Nat → Bool:=fun c => if c < 64 * k then !f c else f c
def RelNot (w : World) (f : Nat → Bool) (i : Value) (wr : World) : Prop :=
 ∃ k : Nat,k ≤ 4 ∧ i = .int .i64 (k : Nat) ∧ SetAt wr w.heap.size (notS f k) ∧ SetAt wr (w.heap.size + 1) (fun _ => false) ∧ Below w.heap.size w wr
theorem RelNot.mk {w : World} {f : Nat → Bool} {i : Value} {wr : World} (h : ∃ k : Nat,k ≤ 4 ∧ i = .int .i64 (k : Nat) ∧ SetAt wr w.heap.size (notS f k) ∧ SetAt wr (w.heap.size + 1) (fun _ => false) ∧ Below w.heap.size w wr) : RelNot w f i wr:=h
end Go.Proofs.Ytjopmieaikgbcaa
