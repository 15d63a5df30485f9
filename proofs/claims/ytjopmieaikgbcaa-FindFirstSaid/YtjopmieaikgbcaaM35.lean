/- Contracts and plain facts: M35. -/
import Derived.Test.YtjopmieaikgbcaaM34
set_option linter.unusedVariables false
set_option linter.unusedSimpArgs false
set_option maxRecDepth 100000
set_option maxHeartbeats 32000000
namespace Go.Proofs.Ytjopmieaikgbcaa
open Go.RowKit
section
variable {w w' w1 : World} {F B : Nat} {An : Option Addr} {nn cn : Nat} {At : Option Addr} {nt ct : Nat} {ns : List Nod} {t : List UInt8} {g : Int} {a : Nat} {M : Int} {f f' f1 : Fnd} {D : Nat} {A : Option Addr} {n c : Nat} {l : List Tsk} {p : Pt}
theorem rnode_5 (hW : WaysOK F B An nn cn At nt ct ns t g a M D) (m : Nat) (h : Fst w F B An nn cn At nt ct ns t g a M f) (hwk : WOK ns t g a (.node (m : Int) :: l,p)) (hk : (ndA ns (m : Int)).kind = 5) (hT : Trow w F A l) (hn : n = l.length) (hnc : n ≤ c) (hcm : c ≤ maxLen) (hn1 : (n : Int) + 1 ≤ f.cost) (hD : (M + 1 - f.cost).toNat ≤ D) (hf1 : 1 ≤ f.cost) (hM : f.cost ≤ M) :
    Calls Try.prog 37 #[.pointer (some ⟨F,0,none⟩),.agg #[.slice An nn cn,.int .i64 g],.slice At nt ct,.int .i64 (p.i : Int),hitV p.sp,nodV (ndA ns (m : Int)),.slice A n c] w (WayRet w F ns t a M ((nexts ns t (.node (m : Int)) p).map (ahead l)) f (2 * M + 2 - f.cost)):=by
 show Calls Try.prog 37 #[.pointer (some ⟨F,0,none⟩),.agg #[.slice An nn cn,.int .i64 g],.slice At nt ct,.int .i64 (p.i : Int),.agg (hitC p.sp),.agg (nodC (ndA ns (m : Int))),.slice A n c] w _
 have hwN:=lhi (show WOK ns t g a ([.node (ndA ns (m : Int)).a,.gend (ndA ns (m : Int)).grp p.i] ++ l,p) from WOK.next h.thru.rt hwk _ (by rw [next_grp hk];exact List.mem_singleton.2 rfl))
 rw [next_grp hk]
 obtain ⟨N0,N1,N2,N3,N4,N5⟩:=nod_at (ndA ns (m : Int))
 rw [hk] at N0
 have hok:=lhi hwk
 have hbd:=lhi (show 1 ≤ f.cost ∧ f.cost ≤ M ∧ M ≤ 400000 ∧ (n : Int) + 1 ≤ f.cost ∧ (M + 1 - f.cost).toNat ≤ D ∧ n = l.length ∧ n ≤ c ∧ c ≤ maxLen from ⟨hf1,hM,h.m1,hn1,hD,hn,hnc,hcm⟩)
 have hS2:=lhi (snd_new w #[.slice An nn cn,.int .i64 g] (hitC p.sp) (nodC (ndA ns (m : Int))))
 have hb2:=lhi ((((Below.refl w.heap.size w).alloc (nlr _) (.cells #[.slice An nn cn,.int .i64 g] 24)).alloc (by simp) (.cells (hitC p.sp) 29)).alloc (by simp;omega) (.cells (nodC (ndA ns (m : Int))) 54))
 have h2:=lhi (h.keep hb2.out)
 have hg2:=lhi (grown_of hb2.out (some F))
 have hT2:=lhi (hT.below hb2.out)
 have hCS:=lhi (hitC_size p.sp)
 have hFl:=lhi h.held.lt
 have htx:=lhi (show nt = t.length ∧ nt ≤ 1000000 ∧ p.i ≤ t.length from ⟨h.thru.nt_,h.thru.tl,hwk.hi⟩)
 clear h hT hn hnc hcm hn1 hD hf1 hM hwk
 have hWx:=lhi (show ∀ (w : World) (f : Fnd) (A : Option Addr) (n c : Nat) (l : List Tsk) (p : Pt),Fst w F B An nn cn At nt ct ns t g a M f → WOK ns t g a (l,p) → Trow w F A l → n = l.length → n ≤ c → c ≤ maxLen → (n : Int) ≤ f.cost + 1 → (M + 1 - f.cost).toNat ≤ D → 0 ≤ f.cost → f.cost ≤ 2 * M + 1 → Calls Try.prog 24 #[.pointer (some ⟨F,0,none⟩),.agg #[.slice An nn cn,.int .i64 g],.slice At nt ct,.int .i64 (p.i : Int),.agg (hitC p.sp),.slice A n c] w (WayRet w F ns t a M [(l,p)] f (max (f.cost + 1) (2 * M + 1 - f.cost))) from hW)
 clear hW
 show Calls _ _ _ _ (WayRet w F ns t a M [([.node (ndA ns (m : Int)).a,.gend (ndA ns (m : Int)).grp p.i] ++ l,p)] f (2 * M + 2 - f.cost))
 have hF3:=lhi (show F ≠ w.heap.size ∧ F ≠ w.heap.size + 1 ∧ F ≠ w.heap.size + 1 + 1 by have:=hFl.out;omega)
 have hFs:=lhi (show F < (((w.alloc (.cells #[.slice An nn cn,.int .i64 g] 24)).alloc (.cells (hitC p.sp) 29)).alloc (.cells (nodC (ndA ns (m : Int))) 54)).heap.size by have:=hFl.out;simp;omega)
 have hWp:=lhi (fun w f A n c l => hWx.out w f A n c l p)
 clear hWx
 generalize hitC p.sp = CS at *
 generalize nodC (ndA ns (m : Int)) = CN at *
 replace hk:=lhi hk
 generalize (ndA ns (m : Int)).a = na at *
 generalize (ndA ns (m : Int)).grp = ng at *
 go_enter Try.func37,Try.ntmps37
 go_upto_region 1 with fail
 generalize ((w.alloc (.cells #[.slice An nn cn,.int .i64 g] 24)).alloc (.cells CS 29)).alloc (.cells CN 54) = w2 at *
 clear hb2
 generalize w.heap.size + 1 + 1 = H2 at *
 generalize w.heap.size + 1 = H1 at *
 generalize w.heap.size = H0 at *
 have n0 : w2.cell? ⟨H2,0,none⟩ = some (.int .i64 5):=hS2.out.2.2.at_ N0
 replace N1:=lhi N1
 replace N5:=lhi N5
 clear N0 N2 N3 N4
 have hb3:=lhi (((Below.refl w2.heap.size w2).alloc (nlr _) (.cells #[.int .i64 0,.int .i64 na,.int .i64 0,.int .i64 0,.int .i64 1,.int .i64 ng,.int .i64 0,.int .i64 (p.i : Int)] 66)).drew)
 have hR:=lhi (rrow_any ((w2.alloc (.cells #[.int .i64 0,.int .i64 na,.int .i64 0,.int .i64 0,.int .i64 1,.int .i64 ng,.int .i64 0,.int .i64 (p.i : Int)] 66)).drew) F (by have:=hFs.out;simp;omega) A n c l hbd.out.2.2.2.2.2.1 hbd.out.2.2.2.2.2.2.1 (hT2.out.below hb3.out) (some ⟨w2.heap.size,0,none⟩) 2 2 [.node na,.gend ng p.i] rfl (nlr _) ((trow_new w2 F [.node na,.gend ng p.i] hFs.out).below ((Below.refl _ _).drew)) (by have:=hbd.out;omega))
 have hSd:=lhi (hS2.out.below ((Below.refl _ _).drew))
 clear hS2
 go_wp2
 refine wp_region_held_drew (S:=SNd H0 H1 H2 #[.slice An nn cn,.int .i64 g] CS CN) (by kernel_rfl) hSd.out (fun hS => ?_)
 refine wpAnyH_take (i:=0) (v:=?_) rfl (by kernel_rfl) (by kernel_rfl) (by kernel_rfl) (fun _ _ _ h => h) (Or.inl ⟨by rfl,?_⟩) hS ?_
 rotate_left
 · (intro w' hS';go_simp;try with_reducible rfl)
 (try simp only [Act.put,List.getElem_toArray,List.getElem_cons_zero,List.getElem_cons_succ,List.setIfInBounds_toArray,List.set_cons_zero,List.set_cons_succ])
 refine wpAnyH_take (i:=1) (v:=?_) rfl (by kernel_rfl) (by kernel_rfl) (by kernel_rfl) (fun _ _ _ h => h) (Or.inl ⟨by rfl,?_⟩) hS ?_
 rotate_left
 · (intro w' hS';have ha : w'.cell? ⟨H0,0,none⟩ = some (.slice An nn cn):=hS'.1.at_ rfl;have hb : w'.cell? ⟨H0,1,none⟩ = some (.int .i64 g):=hS'.1.at_ rfl;go_simp;try with_reducible rfl)
 (try simp only [Act.put,List.getElem_toArray,List.getElem_cons_zero,List.getElem_cons_succ,List.setIfInBounds_toArray,List.set_cons_zero,List.set_cons_succ])
 refine wpAnyH_take (i:=2) (v:=?_) rfl (by kernel_rfl) (by kernel_rfl) (by kernel_rfl) (fun _ _ _ h => h) (Or.inl ⟨by rfl,?_⟩) hS ?_
 rotate_left
 · (intro w' hS';go_simp;try with_reducible rfl)
 (try simp only [Act.put,List.getElem_toArray,List.getElem_cons_zero,List.getElem_cons_succ,List.setIfInBounds_toArray,List.set_cons_zero,List.set_cons_succ])
 refine wpAnyH_take (i:=3) (v:=?_) rfl (by kernel_rfl) (by kernel_rfl) (by kernel_rfl) (fun _ _ _ h => h) (Or.inl ⟨by rfl,?_⟩) hS ?_
 rotate_left
 · (intro w' hS';go_simp;try with_reducible rfl)
 (try simp only [Act.put,List.getElem_toArray,List.getElem_cons_zero,List.getElem_cons_succ,List.setIfInBounds_toArray,List.set_cons_zero,List.set_cons_succ])
 refine wpAnyH_take (i:=4) (v:=_) rfl (by kernel_rfl) (by kernel_rfl) (by kernel_rfl) (fun _ _ _ h => h) (yieldsIf_load_mid (by rfl) _ _ rfl (H1) 0 rfl (CS.toList) _ (fun _ hS' => hS'.2.1.range) Try.underlying29 rfl (by rw [Array.length_toList,hCS.out];exact size_ten)) hS ?_
 (try simp only [Act.put,List.getElem_toArray,List.getElem_cons_zero,List.getElem_cons_succ,List.setIfInBounds_toArray,List.set_cons_zero,List.set_cons_succ])
 refine wpAnyH_take (i:=5) (v:=?_) rfl (by kernel_rfl) (by kernel_rfl) (by kernel_rfl) (fun _ _ _ h => h) (Or.inl ⟨by rfl,?_⟩) hS ?_
 rotate_left
 · (intro w' hS';go_simp;try with_reducible rfl)
 (try simp only [Act.put,List.getElem_toArray,List.getElem_cons_zero,List.getElem_cons_succ,List.setIfInBounds_toArray,List.set_cons_zero,List.set_cons_succ])
 refine wpAnyH_take (i:=6) (v:=?_) rfl (by kernel_rfl) (by kernel_rfl) (by kernel_rfl) (fun _ _ _ h => h) (Or.inl ⟨by rfl,?_⟩) hS ?_
 rotate_left
 · (intro w' hS';go_simp;try with_reducible rfl)
 (try simp only [Act.put,List.getElem_toArray,List.getElem_cons_zero,List.getElem_cons_succ,List.setIfInBounds_toArray,List.set_cons_zero,List.set_cons_succ])
 refine wpAnyH_take (i:=7) (v:=?_) rfl (by kernel_rfl) (by kernel_rfl) (by kernel_rfl) (fun _ _ _ h => h) (Or.inl ⟨by rfl,?_⟩) hS ?_
 rotate_left
 · (intro w' hS';have hc : w'.cell? ⟨H2,1,none⟩ = some (.int .i64 na):=hS'.2.2.at_ N1.out;go_simp;try with_reducible rfl)
 (try simp only [Act.put,List.getElem_toArray,List.getElem_cons_zero,List.getElem_cons_succ,List.setIfInBounds_toArray,List.set_cons_zero,List.set_cons_succ])
 refine wpAnyH_take (i:=8) (v:=?_) rfl (by kernel_rfl) (by kernel_rfl) (by kernel_rfl) (fun _ _ _ h => h) (Or.inl ⟨by rfl,?_⟩) hS ?_
 rotate_left
 · (intro w' hS';go_simp;try with_reducible rfl)
 (try simp only [Act.put,List.getElem_toArray,List.getElem_cons_zero,List.getElem_cons_succ,List.setIfInBounds_toArray,List.set_cons_zero,List.set_cons_succ])
 refine wpAnyH_take (i:=9) (v:=?_) rfl (by kernel_rfl) (by kernel_rfl) (by kernel_rfl) (fun _ _ _ h => h) (Or.inl ⟨by rfl,?_⟩) hS ?_
 rotate_left
 · (intro w' hS';go_simp;try with_reducible rfl)
 (try simp only [Act.put,List.getElem_toArray,List.getElem_cons_zero,List.getElem_cons_succ,List.setIfInBounds_toArray,List.set_cons_zero,List.set_cons_succ])
 refine wpAnyH_take (i:=10) (v:=?_) rfl (by kernel_rfl) (by kernel_rfl) (by kernel_rfl) (fun _ _ _ h => h) (Or.inl ⟨by rfl,?_⟩) hS ?_
 rotate_left
 · (intro w' hS';have hc : w'.cell? ⟨H2,5,none⟩ = some (.int .i64 ng):=hS'.2.2.at_ N5.out;go_simp;try with_reducible rfl)
 (try simp only [Act.put,List.getElem_toArray,List.getElem_cons_zero,List.getElem_cons_succ,List.setIfInBounds_toArray,List.set_cons_zero,List.set_cons_succ])
 refine wpAnyH_take (i:=11) (v:=?_) rfl (by kernel_rfl) (by kernel_rfl) (by kernel_rfl) (fun _ _ _ h => h) (Or.inl ⟨by rfl,?_⟩) hS ?_
 rotate_left
 · (intro w' hS';go_simp;try with_reducible rfl)
 (try simp only [Act.put,List.getElem_toArray,List.getElem_cons_zero,List.getElem_cons_succ,List.setIfInBounds_toArray,List.set_cons_zero,List.set_cons_succ])
 refine wpAnyH_take (i:=12) (v:=?_) rfl (by kernel_rfl) (by kernel_rfl) (by kernel_rfl) (fun _ _ _ h => h) (Or.inl ⟨by rfl,?_⟩) hS ?_
 rotate_left
 · (intro w' hS';go_simp;try with_reducible rfl)
 (try simp only [Act.put,List.getElem_toArray,List.getElem_cons_zero,List.getElem_cons_succ,List.setIfInBounds_toArray,List.set_cons_zero,List.set_cons_succ])
 refine wpAnyH_ready (rs:=[13]) (by kernel_rfl) (by simp) ?_
 refine AllReadyH.cons rfl (fun K hK => ?_) AllReadyH.nil
 go_simp
 refine hK.out _ _ (hS.below ((Below.refl _ _).alloc (nlr _) (.cells #[.int .i64 0,.int .i64 na,.int .i64 0,.int .i64 0,.int .i64 1,.int .i64 ng,.int .i64 0,.int .i64 (p.i : Int)] 66))) (fun _ => ?_)
 clear hK K
 replace hS:=hS.below ((Below.refl _ _).alloc (nlr _) (.cells #[.int .i64 0,.int .i64 na,.int .i64 0,.int .i64 0,.int .i64 1,.int .i64 ng,.int .i64 0,.int .i64 (p.i : Int)] 66))
 (try simp only [Act.put,List.getElem_toArray,List.getElem_cons_zero,List.getElem_cons_succ,List.setIfInBounds_toArray,List.set_cons_zero,List.set_cons_succ])
 refine wpAnyH_ready (rs:=[14]) (by kernel_rfl) (by simp) ?_
 refine AllReadyH.cons rfl (fun K hK => ?_) AllReadyH.nil
 go_simp
 refine (hR.out).mono ?_
 rintro e w3 ⟨⟨A5,n5,c5,rfl,k1,k2,k3,k4⟩,hb4⟩
 replace k1:=lhi k1
 replace k2:=lhi k2
 go_simp
 refine hK.out _ _ (hS.below hb4) (fun _ => ?_)
 clear hK K
 replace hS:=hS.below hb4
 (try simp only [Act.put,List.getElem_toArray,List.getElem_cons_zero,List.getElem_cons_succ,List.setIfInBounds_toArray,List.set_cons_zero,List.set_cons_succ])
 refine wpAnyH_ready (rs:=[15]) (by kernel_rfl) (by simp) ?_
 refine AllReadyH.cons rfl (fun K hK => ?_) AllReadyH.nil
 go_simp
 refine (hWp.out w3 f A5 n5 c5 _ (h2.out.keep (hb3.out.trans (hb4.mono hb3.out.size))) hwN.out k4 k1.out k2.out k3 (by have:=hbd.out;have q:=k1.out;simp at q;omega) hbd.out.2.2.2.2.1 (by have:=hbd.out;omega) (by have:=hbd.out;omega)).mono ?_
 rintro e w4 ⟨rfl,f',q1,q2,q3,q4,q5⟩
 go_simp
 refine hK.out _ _ (hS.grown q2 hF3.out) (fun _ => ?_)
 clear hK K
 replace hS:=hS.grown q2 hF3.out
 (try simp only [Act.put,List.getElem_toArray,List.getElem_cons_zero,List.getElem_cons_succ,List.setIfInBounds_toArray,List.set_cons_zero,List.set_cons_succ])
 refine wpAnyH_done (by kernel_rfl) ?_ _
 go_wp2
 go_end0
 exact ⟨rfl,f',q1,grown_trans hg2.out (grown_trans (grown_of (hb3.out.trans (hb4.mono hb3.out.size)) _) q2),q3,q4,by have:=hbd.out;omega⟩
end
section
variable {w w' w1 : World} {F B : Nat} {An : Option Addr} {nn cn : Nat} {At : Option Addr} {nt ct : Nat} {ns : List Nod} {t : List UInt8} {g : Int} {a : Nat} {M : Int} {f f' f1 : Fnd} {D : Nat} {A : Option Addr} {n c : Nat} {l : List Tsk} {p : Pt}
theorem rnode_6_y (hW : WaysOK F B An nn cn At nt ct ns t g a M D) (m : Nat) (h : Fst w F B An nn cn At nt ct ns t g a M f) (hwk : WOK ns t g a (.node (m : Int) :: l,p)) (hk : (ndA ns (m : Int)).kind = 6) (hT : Trow w F A l) (hn : n = l.length) (hnc : n ≤ c) (hcm : c ≤ maxLen) (hn1 : (n : Int) + 1 ≤ f.cost) (hD : (M + 1 - f.cost).toNat ≤ D) (hf1 : 1 ≤ f.cost) (hM : f.cost ≤ M) (j : Nat) (hb6 : backAt t (p.sp (ndA ns (m : Int)).grp.toNat) p.i = some j) :
    Calls Try.prog 37 #[.pointer (some ⟨F,0,none⟩),.agg #[.slice An nn cn,.int .i64 g],.slice At nt ct,.int .i64 (p.i : Int),hitV p.sp,nodV (ndA ns (m : Int)),.slice A n c] w (WayRet w F ns t a M ((nexts ns t (.node (m : Int)) p).map (ahead l)) f (2 * M + 2 - f.cost)):=by
 show Calls Try.prog 37 #[.pointer (some ⟨F,0,none⟩),.agg #[.slice An nn cn,.int .i64 g],.slice At nt ct,.int .i64 (p.i : Int),.agg (hitC p.sp),.agg (nodC (ndA ns (m : Int))),.slice A n c] w _
 have hmm : 0 ≤ (m : Int) ∧ (m : Int) < ns.length:=hwk.toks _ (List.mem_cons_self ..)
 have hgr:=(h.thru.rt.2.2 (m : Int) hmm.1 hmm.2).2.2.2.2 (.inr hk)
 have hg9:=h.thru.rt.2.1
 obtain ⟨q,hq⟩ : ∃ q : Nat,(ndA ns (m : Int)).grp = (q : Int):=⟨(ndA ns (m : Int)).grp.toNat,by omega⟩
 have hb7:=hb6
 rw [hq] at hgr hb7
 have hq9 : q < 10:=by omega
 have hsp:=hwk.span q
 have hSm:=lhi (fun (w' : World) (hb : Below w.heap.size w w') => show Calls Try.prog 41 #[.slice At nt ct,.agg #[.int .i64 (p.sp q).1,.int .i64 (p.sp q).2],.int .i64 (p.i : Int)] w' (fun e w'' => e = .returned (.int .i64 (samI t (p.sp q) p.i)) ∧ Below w'.heap.size w' w'') from
  rSame_any At nt ct t B p.i (p.sp q).1 (p.sp q).2 w' h.thru.nt_ h.thru.tc h.thru.tl (h.keep hb).thru.byt (h.keep hb).thru.base hwk.hi (by
   rcases hsp with e | ⟨e1,e2,e3,_⟩
   · left;rw [e];exact ⟨rfl,rfl⟩
   · right;exact ⟨e1,e2,e3⟩))
 have hz0 : (hitC p.sp)[q * 2]? = some (.int .i64 (p.sp q).1):=by rw [Nat.mul_comm];unfold hitC;rw [List.getElem?_toArray];exact hitL_from p.sp hq9
 have hz1 : (hitC p.sp)[q * 2 + 1]? = some (.int .i64 (p.sp q).2):=by rw [Nat.mul_comm];unfold hitC;rw [List.getElem?_toArray];exact hitL_to p.sp hq9
 have q0 : (0 : Int) ≤ (q : Int):=by omega
 have q10 : (q : Int) < 10:=by omega
 rw [samI_yes (show backAt t (p.sp q) p.i = some j from hb7)] at hSm
 have hwN:=lhi (show WOK ns t g a (l,⟨j,p.sp⟩) from WOK.next h.thru.rt hwk _ (by rw [next_back hk hb6];exact List.mem_singleton.2 rfl))
 rw [next_back hk hb6]
 show Calls _ _ _ _ (WayRet w F ns t a M [(l,⟨j,p.sp⟩)] f (2 * M + 2 - f.cost))
 have hdj : decide ((0 : Int) ≤ (j : Int)) = true:=decide_eq_true (by omega)
 have j0 : (0 : Int) ≤ (j : Int):=by omega
 clear hb6 hb7 hsp hgr hg9 hmm
 obtain ⟨N0,N1,N2,N3,N4,N5⟩:=nod_at (ndA ns (m : Int))
 rw [hk] at N0
 have hok:=lhi hwk
 have hbd:=lhi (show 1 ≤ f.cost ∧ f.cost ≤ M ∧ M ≤ 400000 ∧ (n : Int) + 1 ≤ f.cost ∧ (M + 1 - f.cost).toNat ≤ D ∧ n = l.length ∧ n ≤ c ∧ c ≤ maxLen from ⟨hf1,hM,h.m1,hn1,hD,hn,hnc,hcm⟩)
 have hS2:=lhi (snd_new w #[.slice An nn cn,.int .i64 g] (hitC p.sp) (nodC (ndA ns (m : Int))))
 have hb2:=lhi ((((Below.refl w.heap.size w).alloc (nlr _) (.cells #[.slice An nn cn,.int .i64 g] 24)).alloc (by simp) (.cells (hitC p.sp) 29)).alloc (by simp;omega) (.cells (nodC (ndA ns (m : Int))) 54))
 have hSm2:=lhi (hSm.out _ hb2.out)
 rw [hq] at N5
 have h2:=lhi (h.keep hb2.out)
 have hg2:=lhi (grown_of hb2.out (some F))
 have hT2:=lhi (hT.below hb2.out)
 have hCS:=lhi (hitC_size p.sp)
 have hFl:=lhi h.held.lt
 have htx:=lhi (show nt = t.length ∧ nt ≤ 1000000 ∧ p.i ≤ t.length from ⟨h.thru.nt_,h.thru.tl,hwk.hi⟩)
 clear h hT hn hnc hcm hn1 hD hf1 hM hwk
 have hWx:=lhi (show ∀ (w : World) (f : Fnd) (A : Option Addr) (n c : Nat) (l : List Tsk) (p : Pt),Fst w F B An nn cn At nt ct ns t g a M f → WOK ns t g a (l,p) → Trow w F A l → n = l.length → n ≤ c → c ≤ maxLen → (n : Int) ≤ f.cost + 1 → (M + 1 - f.cost).toNat ≤ D → 0 ≤ f.cost → f.cost ≤ 2 * M + 1 → Calls Try.prog 24 #[.pointer (some ⟨F,0,none⟩),.agg #[.slice An nn cn,.int .i64 g],.slice At nt ct,.int .i64 (p.i : Int),.agg (hitC p.sp),.slice A n c] w (WayRet w F ns t a M [(l,p)] f (max (f.cost + 1) (2 * M + 1 - f.cost))) from hW)
 clear hW
 have hCall:=lhi (fun w' hb => show Calls Try.prog 24 #[.pointer (some ⟨F,0,none⟩),.agg #[.slice An nn cn,.int .i64 g],.slice At nt ct,.int .i64 (j : Int),.agg (hitC p.sp),.slice A n c] w' (WayRet w' F ns t a M [(l,⟨j,p.sp⟩)] f (max (f.cost + 1) (2 * M + 1 - f.cost))) from hWx.out w' f A n c l ⟨j,p.sp⟩ (h2.out.keep hb) hwN.out (hT2.out.below hb) hbd.out.2.2.2.2.2.1 hbd.out.2.2.2.2.2.2.1 hbd.out.2.2.2.2.2.2.2 (by have:=hbd.out;omega) hbd.out.2.2.2.2.1 (by have:=hbd.out;omega) (by have:=hbd.out;omega))
 generalize hitC p.sp = CS at *
 generalize nodC (ndA ns (m : Int)) = CN at *
 replace hk:=lhi hk
 replace hq:=lhi hq
 generalize (p.sp q).1 = x1 at *
 generalize (p.sp q).2 = x2 at *
 clear hWx hSm
 go_enter Try.func37,Try.ntmps37
 go_upto_region 1 with fail
 generalize ((w.alloc (.cells #[.slice An nn cn,.int .i64 g] 24)).alloc (.cells CS 29)).alloc (.cells CN 54) = w2 at *
 clear hb2
 generalize w.heap.size + 1 + 1 = H2 at *
 generalize w.heap.size + 1 = H1 at *
 generalize w.heap.size = H0 at *
 have n0 : w2.cell? ⟨H2,0,none⟩ = some (.int .i64 6):=hS2.out.2.2.at_ N0
 have n5 : w2.cell? ⟨H2,5,none⟩ = some (.int .i64 (q : Int)):=hS2.out.2.2.at_ N5
 have s0 : w2.cell? ⟨H1,q * 2,none⟩ = some (.int .i64 x1):=hS2.out.2.1.at_ hz0
 have s1 : w2.cell? ⟨H1,q * 2 + 1,none⟩ = some (.int .i64 x2):=hS2.out.2.1.at_ hz1
 clear N0 N1 N2 N3 N4 N5 hz0 hz1
 go_wp2_with (first
  | (have _h:=hS3;refine wpList_load_row rfl 29 (.tmp 11) rfl H1 rfl 29 _ (0,0) _ hS3.out.2.1 Try.underlying29 rfl (by rw [hCS.out];exact size_ten) ?_)
  | (go_at_call 41;refine (hSm2.out).mono ?_;rintro e w3 ⟨rfl,hb3'⟩;have hb3:=lhi hb3';have hS3:=lhi (hS2.out.below hb3');have r03 : w3.cell? ⟨H0,0,none⟩ = some (.slice An nn cn):=hS3.out.1.at_ rfl;have r13 : w3.cell? ⟨H0,1,none⟩ = some (.int .i64 g):=hS3.out.1.at_ rfl;clear hb3')
  | (have _h:=hS3;go_at_call 24;refine (hCall.out _ hb3.out).mono ?_;rintro e w4 ⟨rfl,f',q1,q2,q3,q4,q5⟩))
 go_end0
 exact ⟨rfl,f',q1,grown_trans hg2.out (grown_trans (grown_of hb3.out _) q2),q3,q4,by have:=hbd.out;omega⟩
theorem rnode_6_n (hW : WaysOK F B An nn cn At nt ct ns t g a M D) (m : Nat) (h : Fst w F B An nn cn At nt ct ns t g a M f) (hwk : WOK ns t g a (.node (m : Int) :: l,p)) (hk : (ndA ns (m : Int)).kind = 6) (hT : Trow w F A l) (hn : n = l.length) (hnc : n ≤ c) (hcm : c ≤ maxLen) (hn1 : (n : Int) + 1 ≤ f.cost) (hD : (M + 1 - f.cost).toNat ≤ D) (hf1 : 1 ≤ f.cost) (hM : f.cost ≤ M) (hb6 : backAt t (p.sp (ndA ns (m : Int)).grp.toNat) p.i = none) :
    Calls Try.prog 37 #[.pointer (some ⟨F,0,none⟩),.agg #[.slice An nn cn,.int .i64 g],.slice At nt ct,.int .i64 (p.i : Int),hitV p.sp,nodV (ndA ns (m : Int)),.slice A n c] w (WayRet w F ns t a M ((nexts ns t (.node (m : Int)) p).map (ahead l)) f (2 * M + 2 - f.cost)):=by
 show Calls Try.prog 37 #[.pointer (some ⟨F,0,none⟩),.agg #[.slice An nn cn,.int .i64 g],.slice At nt ct,.int .i64 (p.i : Int),.agg (hitC p.sp),.agg (nodC (ndA ns (m : Int))),.slice A n c] w _
 have hmm : 0 ≤ (m : Int) ∧ (m : Int) < ns.length:=hwk.toks _ (List.mem_cons_self ..)
 have hgr:=(h.thru.rt.2.2 (m : Int) hmm.1 hmm.2).2.2.2.2 (.inr hk)
 have hg9:=h.thru.rt.2.1
 obtain ⟨q,hq⟩ : ∃ q : Nat,(ndA ns (m : Int)).grp = (q : Int):=⟨(ndA ns (m : Int)).grp.toNat,by omega⟩
 have hb7:=hb6
 rw [hq] at hgr hb7
 have hq9 : q < 10:=by omega
 have hsp:=hwk.span q
 have hSm:=lhi (fun (w' : World) (hb : Below w.heap.size w w') => show Calls Try.prog 41 #[.slice At nt ct,.agg #[.int .i64 (p.sp q).1,.int .i64 (p.sp q).2],.int .i64 (p.i : Int)] w' (fun e w'' => e = .returned (.int .i64 (samI t (p.sp q) p.i)) ∧ Below w'.heap.size w' w'') from
  rSame_any At nt ct t B p.i (p.sp q).1 (p.sp q).2 w' h.thru.nt_ h.thru.tc h.thru.tl (h.keep hb).thru.byt (h.keep hb).thru.base hwk.hi (by
   rcases hsp with e | ⟨e1,e2,e3,_⟩
   · left;rw [e];exact ⟨rfl,rfl⟩
   · right;exact ⟨e1,e2,e3⟩))
 have hz0 : (hitC p.sp)[q * 2]? = some (.int .i64 (p.sp q).1):=by rw [Nat.mul_comm];unfold hitC;rw [List.getElem?_toArray];exact hitL_from p.sp hq9
 have hz1 : (hitC p.sp)[q * 2 + 1]? = some (.int .i64 (p.sp q).2):=by rw [Nat.mul_comm];unfold hitC;rw [List.getElem?_toArray];exact hitL_to p.sp hq9
 have q0 : (0 : Int) ≤ (q : Int):=by omega
 have q10 : (q : Int) < 10:=by omega
 rw [samI_no (show backAt t (p.sp q) p.i = none from hb7)] at hSm
 rw [next_back_no hk hb6]
 show Calls _ _ _ _ (WayRet w F ns t a M [] f (2 * M + 2 - f.cost))
 clear hb6 hb7 hsp hgr hg9 hmm
 obtain ⟨N0,N1,N2,N3,N4,N5⟩:=nod_at (ndA ns (m : Int))
 rw [hk] at N0
 have hok:=lhi hwk
 have hbd:=lhi (show 1 ≤ f.cost ∧ f.cost ≤ M ∧ M ≤ 400000 ∧ (n : Int) + 1 ≤ f.cost ∧ (M + 1 - f.cost).toNat ≤ D ∧ n = l.length ∧ n ≤ c ∧ c ≤ maxLen from ⟨hf1,hM,h.m1,hn1,hD,hn,hnc,hcm⟩)
 have hS2:=lhi (snd_new w #[.slice An nn cn,.int .i64 g] (hitC p.sp) (nodC (ndA ns (m : Int))))
 have hb2:=lhi ((((Below.refl w.heap.size w).alloc (nlr _) (.cells #[.slice An nn cn,.int .i64 g] 24)).alloc (by simp) (.cells (hitC p.sp) 29)).alloc (by simp;omega) (.cells (nodC (ndA ns (m : Int))) 54))
 have hSm2:=lhi (hSm.out _ hb2.out)
 rw [hq] at N5
 have h2:=lhi (h.keep hb2.out)
 have hg2:=lhi (grown_of hb2.out (some F))
 have hT2:=lhi (hT.below hb2.out)
 have hCS:=lhi (hitC_size p.sp)
 have hFl:=lhi h.held.lt
 have htx:=lhi (show nt = t.length ∧ nt ≤ 1000000 ∧ p.i ≤ t.length from ⟨h.thru.nt_,h.thru.tl,hwk.hi⟩)
 clear h hT hn hnc hcm hn1 hD hf1 hM hwk
 have hWx:=lhi (show ∀ (w : World) (f : Fnd) (A : Option Addr) (n c : Nat) (l : List Tsk) (p : Pt),Fst w F B An nn cn At nt ct ns t g a M f → WOK ns t g a (l,p) → Trow w F A l → n = l.length → n ≤ c → c ≤ maxLen → (n : Int) ≤ f.cost + 1 → (M + 1 - f.cost).toNat ≤ D → 0 ≤ f.cost → f.cost ≤ 2 * M + 1 → Calls Try.prog 24 #[.pointer (some ⟨F,0,none⟩),.agg #[.slice An nn cn,.int .i64 g],.slice At nt ct,.int .i64 (p.i : Int),.agg (hitC p.sp),.slice A n c] w (WayRet w F ns t a M [(l,p)] f (max (f.cost + 1) (2 * M + 1 - f.cost))) from hW)
 clear hW
 generalize hitC p.sp = CS at *
 generalize nodC (ndA ns (m : Int)) = CN at *
 replace hk:=lhi hk
 replace hq:=lhi hq
 generalize (p.sp q).1 = x1 at *
 generalize (p.sp q).2 = x2 at *
 clear hWx hSm
 go_enter Try.func37,Try.ntmps37
 go_upto_region 1 with fail
 generalize ((w.alloc (.cells #[.slice An nn cn,.int .i64 g] 24)).alloc (.cells CS 29)).alloc (.cells CN 54) = w2 at *
 clear hb2
 generalize w.heap.size + 1 + 1 = H2 at *
 generalize w.heap.size + 1 = H1 at *
 generalize w.heap.size = H0 at *
 have n0 : w2.cell? ⟨H2,0,none⟩ = some (.int .i64 6):=hS2.out.2.2.at_ N0
 have n5 : w2.cell? ⟨H2,5,none⟩ = some (.int .i64 (q : Int)):=hS2.out.2.2.at_ N5
 have s0 : w2.cell? ⟨H1,q * 2,none⟩ = some (.int .i64 x1):=hS2.out.2.1.at_ hz0
 have s1 : w2.cell? ⟨H1,q * 2 + 1,none⟩ = some (.int .i64 x2):=hS2.out.2.1.at_ hz1
 clear N0 N1 N2 N3 N4 N5 hz0 hz1
 go_wp2_with (first
  | (go_at_call 41;refine (hSm2.out).mono ?_;rintro e w3 ⟨rfl,hb3'⟩;have hb3:=lhi hb3';have hS3:=lhi (hS2.out.below hb3');have r03 : w3.cell? ⟨H0,0,none⟩ = some (.slice An nn cn):=hS3.out.1.at_ rfl;have r13 : w3.cell? ⟨H0,1,none⟩ = some (.int .i64 g):=hS3.out.1.at_ rfl;clear hb3'))
 go_end0
 exact ⟨rfl,f,(h2.out.keep hb3.out).held,grown_trans hg2.out (grown_of hb3.out _),Run.none_ hbd.out.2.1,Int.le_refl _,by have:=hbd.out;omega⟩
end
end Go.Proofs.Ytjopmieaikgbcaa
