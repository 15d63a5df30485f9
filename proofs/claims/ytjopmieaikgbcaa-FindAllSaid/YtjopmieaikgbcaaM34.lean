/- Contracts and plain facts: M34. -/
import Derived.Test.YtjopmieaikgbcaaM33
set_option linter.unusedVariables false
set_option linter.unusedSimpArgs false
set_option maxRecDepth 100000
set_option maxHeartbeats 32000000
namespace Go.Proofs.Ytjopmieaikgbcaa
open Go.RowKit
section
variable {w w' w1 : World} {F B : Nat} {An : Option Addr} {nn cn : Nat} {At : Option Addr} {nt ct : Nat} {ns : List Nod} {t : List UInt8} {g : Int} {a : Nat} {M : Int} {f f' f1 : Fnd} {D : Nat} {A : Option Addr} {n c : Nat} {l : List Tsk} {p : Pt}
theorem rnode_7_y (hW : WaysOK F B An nn cn At nt ct ns t g a M D) (m : Nat) (h : Fst w F B An nn cn At nt ct ns t g a M f) (hwk : WOK ns t g a (.node (m : Int) :: l,p)) (hk : (ndA ns (m : Int)).kind = 7) (hT : Trow w F A l) (hn : n = l.length) (hnc : n ≤ c) (hcm : c ≤ maxLen) (hn1 : (n : Int) + 1 ≤ f.cost) (hD : (M + 1 - f.cost).toNat ≤ D) (hf1 : 1 ≤ f.cost) (hM : f.cost ≤ M) (hq : p.i = 0) :
    Calls Try.prog 37 #[.pointer (some ⟨F,0,none⟩),.agg #[.slice An nn cn,.int .i64 g],.slice At nt ct,.int .i64 (p.i : Int),hitV p.sp,nodV (ndA ns (m : Int)),.slice A n c] w (WayRet w F ns t a M ((nexts ns t (.node (m : Int)) p).map (ahead l)) f (2 * M + 2 - f.cost)):=by
 show Calls Try.prog 37 #[.pointer (some ⟨F,0,none⟩),.agg #[.slice An nn cn,.int .i64 g],.slice At nt ct,.int .i64 (p.i : Int),.agg (hitC p.sp),.agg (nodC (ndA ns (m : Int))),.slice A n c] w _
 obtain ⟨N0,N1,N2,N3,N4,N5⟩:=nod_at (ndA ns (m : Int))
 rw [hk] at N0
 have hok:=lhi hwk
 have hbd:=lhi (show 1 ≤ f.cost ∧ f.cost ≤ M ∧ M ≤ 400000 ∧ (n : Int) + 1 ≤ f.cost ∧ (M + 1 - f.cost).toNat ≤ D ∧ n = l.length ∧ n ≤ c ∧ c ≤ maxLen from ⟨hf1,hM,h.m1,hn1,hD,hn,hnc,hcm⟩)
 have hS2:=lhi (snd_new w #[.slice An nn cn,.int .i64 g] (hitC p.sp) (nodC (ndA ns (m : Int))))
 have hb2:=lhi ((((Below.refl w.heap.size w).alloc (nlr _) (.cells #[.slice An nn cn,.int .i64 g] 24)).alloc (by simp) (.cells (hitC p.sp) 29)).alloc (by simp;omega) (.cells (nodC (ndA ns (m : Int))) 54))
 have h2:=lhi (h.keep hb2.out)
 have hg2:=lhi (grown_of hb2.out (some F))
 have hT2:=lhi (hT.below hb2.out)
 have hCS:=lhi (hitC_size p.sp)
 have hFl:=lhi h.held.lt
 have htx:=lhi (show nt = t.length ∧ nt ≤ 1000000 ∧ p.i ≤ t.length from ⟨h.thru.nt_,h.thru.tl,hwk.hi⟩)
 clear h hT hn hnc hcm hn1 hD hf1 hM hwk
 have hWx:=lhi (show ∀ (w : World) (f : Fnd) (A : Option Addr) (n c : Nat) (l : List Tsk) (p : Pt),Fst w F B An nn cn At nt ct ns t g a M f → WOK ns t g a (l,p) → Trow w F A l → n = l.length → n ≤ c → c ≤ maxLen → (n : Int) ≤ f.cost + 1 → (M + 1 - f.cost).toNat ≤ D → 0 ≤ f.cost → f.cost ≤ 2 * M + 1 → Calls Try.prog 24 #[.pointer (some ⟨F,0,none⟩),.agg #[.slice An nn cn,.int .i64 g],.slice At nt ct,.int .i64 (p.i : Int),.agg (hitC p.sp),.slice A n c] w (WayRet w F ns t a M [(l,p)] f (max (f.cost + 1) (2 * M + 1 - f.cost))) from hW)
 clear hW
 rw [next_bol hk,if_pos hq]
 show Calls _ _ _ _ (WayRet w F ns t a M [(l,p)] f (2 * M + 2 - f.cost))
 have hqd : ((p.i : Int) == 0) = true:=by rw [beq_iff_eq];have:=htx.out;omega
 replace hq:=lhi hq
 have hCall:=lhi (fun w' hb => hWx.out w' f A n c l p (h2.out.keep hb) (⟨hok.out.lo,hok.out.hi,hok.out.lies,fun tk htk => hok.out.toks tk (List.mem_cons_of_mem _ htk)⟩) (hT2.out.below hb) hbd.out.2.2.2.2.2.1 hbd.out.2.2.2.2.2.2.1 hbd.out.2.2.2.2.2.2.2 (by have:=hbd.out;omega) hbd.out.2.2.2.2.1 (by have:=hbd.out;omega) (by have:=hbd.out;omega))
 generalize hitC p.sp = CS at *
 generalize nodC (ndA ns (m : Int)) = CN at *
 replace hk:=lhi hk
 clear hWx
 go_enter Try.func37,Try.ntmps37
 go_upto_region 1 with fail
 generalize ((w.alloc (.cells #[.slice An nn cn,.int .i64 g] 24)).alloc (.cells CS 29)).alloc (.cells CN 54) = w2 at *
 clear hb2
 generalize w.heap.size + 1 + 1 = H2 at *
 generalize w.heap.size + 1 = H1 at *
 generalize w.heap.size = H0 at *
 have n0 : w2.cell? ⟨H2,0,none⟩ = some (.int .i64 7):=hS2.out.2.2.at_ N0
 have r0 : w2.cell? ⟨H0,0,none⟩ = some (.slice An nn cn):=hS2.out.1.at_ rfl
 have r1 : w2.cell? ⟨H0,1,none⟩ = some (.int .i64 g):=hS2.out.1.at_ rfl
 clear N0 N1 N2 N3 N4 N5
 go_wp2_with (first
  | (refine wpList_load_row rfl 29 (.tmp 11) rfl H1 rfl 29 _ (0,0) _ hS2.out.2.1 Try.underlying29 rfl (by rw [hCS.out];exact size_ten) ?_)
  | (go_at_call 24;refine (hCall.out _ (Below.refl _ _)).mono ?_;rintro e w4 ⟨rfl,f',q1,q2,q3,q4,q5⟩))
 go_end0
 exact ⟨rfl,f',q1,grown_trans hg2.out q2,q3,q4,by have:=hbd.out;omega⟩
theorem rnode_7_n (hW : WaysOK F B An nn cn At nt ct ns t g a M D) (m : Nat) (h : Fst w F B An nn cn At nt ct ns t g a M f) (hwk : WOK ns t g a (.node (m : Int) :: l,p)) (hk : (ndA ns (m : Int)).kind = 7) (hT : Trow w F A l) (hn : n = l.length) (hnc : n ≤ c) (hcm : c ≤ maxLen) (hn1 : (n : Int) + 1 ≤ f.cost) (hD : (M + 1 - f.cost).toNat ≤ D) (hf1 : 1 ≤ f.cost) (hM : f.cost ≤ M) (hq : ¬ p.i = 0) :
    Calls Try.prog 37 #[.pointer (some ⟨F,0,none⟩),.agg #[.slice An nn cn,.int .i64 g],.slice At nt ct,.int .i64 (p.i : Int),hitV p.sp,nodV (ndA ns (m : Int)),.slice A n c] w (WayRet w F ns t a M ((nexts ns t (.node (m : Int)) p).map (ahead l)) f (2 * M + 2 - f.cost)):=by
 show Calls Try.prog 37 #[.pointer (some ⟨F,0,none⟩),.agg #[.slice An nn cn,.int .i64 g],.slice At nt ct,.int .i64 (p.i : Int),.agg (hitC p.sp),.agg (nodC (ndA ns (m : Int))),.slice A n c] w _
 obtain ⟨N0,N1,N2,N3,N4,N5⟩:=nod_at (ndA ns (m : Int))
 rw [hk] at N0
 have hok:=lhi hwk
 have hbd:=lhi (show 1 ≤ f.cost ∧ f.cost ≤ M ∧ M ≤ 400000 ∧ (n : Int) + 1 ≤ f.cost ∧ (M + 1 - f.cost).toNat ≤ D ∧ n = l.length ∧ n ≤ c ∧ c ≤ maxLen from ⟨hf1,hM,h.m1,hn1,hD,hn,hnc,hcm⟩)
 have hS2:=lhi (snd_new w #[.slice An nn cn,.int .i64 g] (hitC p.sp) (nodC (ndA ns (m : Int))))
 have hb2:=lhi ((((Below.refl w.heap.size w).alloc (nlr _) (.cells #[.slice An nn cn,.int .i64 g] 24)).alloc (by simp) (.cells (hitC p.sp) 29)).alloc (by simp;omega) (.cells (nodC (ndA ns (m : Int))) 54))
 have h2:=lhi (h.keep hb2.out)
 have hg2:=lhi (grown_of hb2.out (some F))
 have hT2:=lhi (hT.below hb2.out)
 have hCS:=lhi (hitC_size p.sp)
 have hFl:=lhi h.held.lt
 have htx:=lhi (show nt = t.length ∧ nt ≤ 1000000 ∧ p.i ≤ t.length from ⟨h.thru.nt_,h.thru.tl,hwk.hi⟩)
 clear h hT hn hnc hcm hn1 hD hf1 hM hwk
 have hWx:=lhi (show ∀ (w : World) (f : Fnd) (A : Option Addr) (n c : Nat) (l : List Tsk) (p : Pt),Fst w F B An nn cn At nt ct ns t g a M f → WOK ns t g a (l,p) → Trow w F A l → n = l.length → n ≤ c → c ≤ maxLen → (n : Int) ≤ f.cost + 1 → (M + 1 - f.cost).toNat ≤ D → 0 ≤ f.cost → f.cost ≤ 2 * M + 1 → Calls Try.prog 24 #[.pointer (some ⟨F,0,none⟩),.agg #[.slice An nn cn,.int .i64 g],.slice At nt ct,.int .i64 (p.i : Int),.agg (hitC p.sp),.slice A n c] w (WayRet w F ns t a M [(l,p)] f (max (f.cost + 1) (2 * M + 1 - f.cost))) from hW)
 clear hW
 rw [next_bol hk,if_neg hq]
 show Calls _ _ _ _ (WayRet w F ns t a M [] f (2 * M + 2 - f.cost))
 have hqd : ((p.i : Int) == 0) = false:=by rw [bef];have:=htx.out;omega
 replace hq:=lhi hq
 generalize hitC p.sp = CS at *
 generalize nodC (ndA ns (m : Int)) = CN at *
 replace hk:=lhi hk
 clear hWx
 go_enter Try.func37,Try.ntmps37
 go_upto_region 1 with fail
 generalize ((w.alloc (.cells #[.slice An nn cn,.int .i64 g] 24)).alloc (.cells CS 29)).alloc (.cells CN 54) = w2 at *
 clear hb2
 generalize w.heap.size + 1 + 1 = H2 at *
 generalize w.heap.size + 1 = H1 at *
 generalize w.heap.size = H0 at *
 have n0 : w2.cell? ⟨H2,0,none⟩ = some (.int .i64 7):=hS2.out.2.2.at_ N0
 have r0 : w2.cell? ⟨H0,0,none⟩ = some (.slice An nn cn):=hS2.out.1.at_ rfl
 have r1 : w2.cell? ⟨H0,1,none⟩ = some (.int .i64 g):=hS2.out.1.at_ rfl
 clear N0 N1 N2 N3 N4 N5
 go_wp2
 go_end0
 exact ⟨rfl,f,h2.out.held,hg2.out,Run.none_ hbd.out.2.1,Int.le_refl _,by have:=hbd.out;omega⟩
theorem rnode_8_y (hW : WaysOK F B An nn cn At nt ct ns t g a M D) (m : Nat) (h : Fst w F B An nn cn At nt ct ns t g a M f) (hwk : WOK ns t g a (.node (m : Int) :: l,p)) (hk : (ndA ns (m : Int)).kind = 8) (hT : Trow w F A l) (hn : n = l.length) (hnc : n ≤ c) (hcm : c ≤ maxLen) (hn1 : (n : Int) + 1 ≤ f.cost) (hD : (M + 1 - f.cost).toNat ≤ D) (hf1 : 1 ≤ f.cost) (hM : f.cost ≤ M) (hq : p.i = t.length) :
    Calls Try.prog 37 #[.pointer (some ⟨F,0,none⟩),.agg #[.slice An nn cn,.int .i64 g],.slice At nt ct,.int .i64 (p.i : Int),hitV p.sp,nodV (ndA ns (m : Int)),.slice A n c] w (WayRet w F ns t a M ((nexts ns t (.node (m : Int)) p).map (ahead l)) f (2 * M + 2 - f.cost)):=by
 show Calls Try.prog 37 #[.pointer (some ⟨F,0,none⟩),.agg #[.slice An nn cn,.int .i64 g],.slice At nt ct,.int .i64 (p.i : Int),.agg (hitC p.sp),.agg (nodC (ndA ns (m : Int))),.slice A n c] w _
 obtain ⟨N0,N1,N2,N3,N4,N5⟩:=nod_at (ndA ns (m : Int))
 rw [hk] at N0
 have hok:=lhi hwk
 have hbd:=lhi (show 1 ≤ f.cost ∧ f.cost ≤ M ∧ M ≤ 400000 ∧ (n : Int) + 1 ≤ f.cost ∧ (M + 1 - f.cost).toNat ≤ D ∧ n = l.length ∧ n ≤ c ∧ c ≤ maxLen from ⟨hf1,hM,h.m1,hn1,hD,hn,hnc,hcm⟩)
 have hS2:=lhi (snd_new w #[.slice An nn cn,.int .i64 g] (hitC p.sp) (nodC (ndA ns (m : Int))))
 have hb2:=lhi ((((Below.refl w.heap.size w).alloc (nlr _) (.cells #[.slice An nn cn,.int .i64 g] 24)).alloc (by simp) (.cells (hitC p.sp) 29)).alloc (by simp;omega) (.cells (nodC (ndA ns (m : Int))) 54))
 have h2:=lhi (h.keep hb2.out)
 have hg2:=lhi (grown_of hb2.out (some F))
 have hT2:=lhi (hT.below hb2.out)
 have hCS:=lhi (hitC_size p.sp)
 have hFl:=lhi h.held.lt
 have htx:=lhi (show nt = t.length ∧ nt ≤ 1000000 ∧ p.i ≤ t.length from ⟨h.thru.nt_,h.thru.tl,hwk.hi⟩)
 clear h hT hn hnc hcm hn1 hD hf1 hM hwk
 have hWx:=lhi (show ∀ (w : World) (f : Fnd) (A : Option Addr) (n c : Nat) (l : List Tsk) (p : Pt),Fst w F B An nn cn At nt ct ns t g a M f → WOK ns t g a (l,p) → Trow w F A l → n = l.length → n ≤ c → c ≤ maxLen → (n : Int) ≤ f.cost + 1 → (M + 1 - f.cost).toNat ≤ D → 0 ≤ f.cost → f.cost ≤ 2 * M + 1 → Calls Try.prog 24 #[.pointer (some ⟨F,0,none⟩),.agg #[.slice An nn cn,.int .i64 g],.slice At nt ct,.int .i64 (p.i : Int),.agg (hitC p.sp),.slice A n c] w (WayRet w F ns t a M [(l,p)] f (max (f.cost + 1) (2 * M + 1 - f.cost))) from hW)
 clear hW
 rw [next_eol hk,if_pos hq]
 show Calls _ _ _ _ (WayRet w F ns t a M [(l,p)] f (2 * M + 2 - f.cost))
 have hqd : ((p.i : Int) == (nt : Int)) = true:=by rw [beq_iff_eq];have:=htx.out;omega
 replace hq:=lhi hq
 have hCall:=lhi (fun w' hb => hWx.out w' f A n c l p (h2.out.keep hb) (⟨hok.out.lo,hok.out.hi,hok.out.lies,fun tk htk => hok.out.toks tk (List.mem_cons_of_mem _ htk)⟩) (hT2.out.below hb) hbd.out.2.2.2.2.2.1 hbd.out.2.2.2.2.2.2.1 hbd.out.2.2.2.2.2.2.2 (by have:=hbd.out;omega) hbd.out.2.2.2.2.1 (by have:=hbd.out;omega) (by have:=hbd.out;omega))
 generalize hitC p.sp = CS at *
 generalize nodC (ndA ns (m : Int)) = CN at *
 replace hk:=lhi hk
 clear hWx
 go_enter Try.func37,Try.ntmps37
 go_upto_region 1 with fail
 generalize ((w.alloc (.cells #[.slice An nn cn,.int .i64 g] 24)).alloc (.cells CS 29)).alloc (.cells CN 54) = w2 at *
 clear hb2
 generalize w.heap.size + 1 + 1 = H2 at *
 generalize w.heap.size + 1 = H1 at *
 generalize w.heap.size = H0 at *
 have n0 : w2.cell? ⟨H2,0,none⟩ = some (.int .i64 8):=hS2.out.2.2.at_ N0
 have r0 : w2.cell? ⟨H0,0,none⟩ = some (.slice An nn cn):=hS2.out.1.at_ rfl
 have r1 : w2.cell? ⟨H0,1,none⟩ = some (.int .i64 g):=hS2.out.1.at_ rfl
 clear N0 N1 N2 N3 N4 N5
 go_wp2_with (first
  | (refine wpList_load_row rfl 29 (.tmp 11) rfl H1 rfl 29 _ (0,0) _ hS2.out.2.1 Try.underlying29 rfl (by rw [hCS.out];exact size_ten) ?_)
  | (go_at_call 24;refine (hCall.out _ (Below.refl _ _)).mono ?_;rintro e w4 ⟨rfl,f',q1,q2,q3,q4,q5⟩))
 go_end0
 exact ⟨rfl,f',q1,grown_trans hg2.out q2,q3,q4,by have:=hbd.out;omega⟩
theorem rnode_8_n (hW : WaysOK F B An nn cn At nt ct ns t g a M D) (m : Nat) (h : Fst w F B An nn cn At nt ct ns t g a M f) (hwk : WOK ns t g a (.node (m : Int) :: l,p)) (hk : (ndA ns (m : Int)).kind = 8) (hT : Trow w F A l) (hn : n = l.length) (hnc : n ≤ c) (hcm : c ≤ maxLen) (hn1 : (n : Int) + 1 ≤ f.cost) (hD : (M + 1 - f.cost).toNat ≤ D) (hf1 : 1 ≤ f.cost) (hM : f.cost ≤ M) (hq : ¬ p.i = t.length) :
    Calls Try.prog 37 #[.pointer (some ⟨F,0,none⟩),.agg #[.slice An nn cn,.int .i64 g],.slice At nt ct,.int .i64 (p.i : Int),hitV p.sp,nodV (ndA ns (m : Int)),.slice A n c] w (WayRet w F ns t a M ((nexts ns t (.node (m : Int)) p).map (ahead l)) f (2 * M + 2 - f.cost)):=by
 show Calls Try.prog 37 #[.pointer (some ⟨F,0,none⟩),.agg #[.slice An nn cn,.int .i64 g],.slice At nt ct,.int .i64 (p.i : Int),.agg (hitC p.sp),.agg (nodC (ndA ns (m : Int))),.slice A n c] w _
 obtain ⟨N0,N1,N2,N3,N4,N5⟩:=nod_at (ndA ns (m : Int))
 rw [hk] at N0
 have hok:=lhi hwk
 have hbd:=lhi (show 1 ≤ f.cost ∧ f.cost ≤ M ∧ M ≤ 400000 ∧ (n : Int) + 1 ≤ f.cost ∧ (M + 1 - f.cost).toNat ≤ D ∧ n = l.length ∧ n ≤ c ∧ c ≤ maxLen from ⟨hf1,hM,h.m1,hn1,hD,hn,hnc,hcm⟩)
 have hS2:=lhi (snd_new w #[.slice An nn cn,.int .i64 g] (hitC p.sp) (nodC (ndA ns (m : Int))))
 have hb2:=lhi ((((Below.refl w.heap.size w).alloc (nlr _) (.cells #[.slice An nn cn,.int .i64 g] 24)).alloc (by simp) (.cells (hitC p.sp) 29)).alloc (by simp;omega) (.cells (nodC (ndA ns (m : Int))) 54))
 have h2:=lhi (h.keep hb2.out)
 have hg2:=lhi (grown_of hb2.out (some F))
 have hT2:=lhi (hT.below hb2.out)
 have hCS:=lhi (hitC_size p.sp)
 have hFl:=lhi h.held.lt
 have htx:=lhi (show nt = t.length ∧ nt ≤ 1000000 ∧ p.i ≤ t.length from ⟨h.thru.nt_,h.thru.tl,hwk.hi⟩)
 clear h hT hn hnc hcm hn1 hD hf1 hM hwk
 have hWx:=lhi (show ∀ (w : World) (f : Fnd) (A : Option Addr) (n c : Nat) (l : List Tsk) (p : Pt),Fst w F B An nn cn At nt ct ns t g a M f → WOK ns t g a (l,p) → Trow w F A l → n = l.length → n ≤ c → c ≤ maxLen → (n : Int) ≤ f.cost + 1 → (M + 1 - f.cost).toNat ≤ D → 0 ≤ f.cost → f.cost ≤ 2 * M + 1 → Calls Try.prog 24 #[.pointer (some ⟨F,0,none⟩),.agg #[.slice An nn cn,.int .i64 g],.slice At nt ct,.int .i64 (p.i : Int),.agg (hitC p.sp),.slice A n c] w (WayRet w F ns t a M [(l,p)] f (max (f.cost + 1) (2 * M + 1 - f.cost))) from hW)
 clear hW
 rw [next_eol hk,if_neg hq]
 show Calls _ _ _ _ (WayRet w F ns t a M [] f (2 * M + 2 - f.cost))
 have hqd : ((p.i : Int) == (nt : Int)) = false:=by rw [bef];have:=htx.out;omega
 replace hq:=lhi hq
 generalize hitC p.sp = CS at *
 generalize nodC (ndA ns (m : Int)) = CN at *
 replace hk:=lhi hk
 clear hWx
 go_enter Try.func37,Try.ntmps37
 go_upto_region 1 with fail
 generalize ((w.alloc (.cells #[.slice An nn cn,.int .i64 g] 24)).alloc (.cells CS 29)).alloc (.cells CN 54) = w2 at *
 clear hb2
 generalize w.heap.size + 1 + 1 = H2 at *
 generalize w.heap.size + 1 = H1 at *
 generalize w.heap.size = H0 at *
 have n0 : w2.cell? ⟨H2,0,none⟩ = some (.int .i64 8):=hS2.out.2.2.at_ N0
 have r0 : w2.cell? ⟨H0,0,none⟩ = some (.slice An nn cn):=hS2.out.1.at_ rfl
 have r1 : w2.cell? ⟨H0,1,none⟩ = some (.int .i64 g):=hS2.out.1.at_ rfl
 clear N0 N1 N2 N3 N4 N5
 go_wp2
 go_end0
 exact ⟨rfl,f,h2.out.held,hg2.out,Run.none_ hbd.out.2.1,Int.le_refl _,by have:=hbd.out;omega⟩
end
theorem trow_new (w : World) (F : Nat) (l : List Tsk) (hF : F < w.heap.size) : Trow (w.alloc (.cells (rowL l).toArray 66)) F (some ⟨w.heap.size,0,none⟩) l:=fun j u hj => ⟨_,_,rfl,hF,by show w.heap.size < (w.alloc _).heap.size;simp,by rw [← add_off];exact new_cells w (rowL l) _ j u hj⟩
theorem SNd.grown {H H1 H2 F : Nat} {RE CS CN : Array Value} {w1 w2 : World} (h : SNd H H1 H2 RE CS CN w1) (hg : w1.grownBy w2 (some F)) (hF : F ≠ H ∧ F ≠ H1 ∧ F ≠ H2) : SNd H H1 H2 RE CS CN w2:=⟨h.1.grown hg (fun e => hF.1 (Option.some.inj e).symm),h.2.1.grown hg (fun e => hF.2.1 (Option.some.inj e).symm),h.2.2.grown hg (fun e => hF.2.2 (Option.some.inj e).symm)⟩
section
variable {w w' w1 : World} {F B : Nat} {An : Option Addr} {nn cn : Nat} {At : Option Addr} {nt ct : Nat} {ns : List Nod} {t : List UInt8} {g : Int} {a : Nat} {M : Int} {f f' f1 : Fnd} {D : Nat} {A : Option Addr} {n c : Nat} {l : List Tsk} {p : Pt}
theorem rnode_2 (hW : WaysOK F B An nn cn At nt ct ns t g a M D) (m : Nat) (h : Fst w F B An nn cn At nt ct ns t g a M f) (hwk : WOK ns t g a (.node (m : Int) :: l,p)) (hk : (ndA ns (m : Int)).kind = 2) (hT : Trow w F A l) (hn : n = l.length) (hnc : n ≤ c) (hcm : c ≤ maxLen) (hn1 : (n : Int) + 1 ≤ f.cost) (hD : (M + 1 - f.cost).toNat ≤ D) (hf1 : 1 ≤ f.cost) (hM : f.cost ≤ M) :
    Calls Try.prog 37 #[.pointer (some ⟨F,0,none⟩),.agg #[.slice An nn cn,.int .i64 g],.slice At nt ct,.int .i64 (p.i : Int),hitV p.sp,nodV (ndA ns (m : Int)),.slice A n c] w (WayRet w F ns t a M ((nexts ns t (.node (m : Int)) p).map (ahead l)) f (2 * M + 2 - f.cost)):=by
 show Calls Try.prog 37 #[.pointer (some ⟨F,0,none⟩),.agg #[.slice An nn cn,.int .i64 g],.slice At nt ct,.int .i64 (p.i : Int),.agg (hitC p.sp),.agg (nodC (ndA ns (m : Int))),.slice A n c] w _
 have hwN:=lhi (show WOK ns t g a ([.node (ndA ns (m : Int)).a,.node (ndA ns (m : Int)).b] ++ l,p) from WOK.next h.thru.rt hwk _ (by rw [next_cat hk];exact List.mem_singleton.2 rfl))
 rw [next_cat hk]
 obtain ⟨N0,N1,N2,N3,N4,N5⟩:=nod_at (ndA ns (m : Int))
 rw [hk] at N0
 have hok:=lhi hwk
 have hbd:=lhi (show 1 ≤ f.cost ∧ f.cost ≤ M ∧ M ≤ 400000 ∧ (n : Int) + 1 ≤ f.cost ∧ (M + 1 - f.cost).toNat ≤ D ∧ n = l.length ∧ n ≤ c ∧ c ≤ maxLen from ⟨hf1,hM,h.m1,hn1,hD,hn,hnc,hcm⟩)
 have hS2:=lhi (snd_new w #[.slice An nn cn,.int .i64 g] (hitC p.sp) (nodC (ndA ns (m : Int))))
 have hb2:=lhi ((((Below.refl w.heap.size w).alloc (nlr _) (.cells #[.slice An nn cn,.int .i64 g] 24)).alloc (by simp) (.cells (hitC p.sp) 29)).alloc (by simp;omega) (.cells (nodC (ndA ns (m : Int))) 54))
 have h2:=lhi (h.keep hb2.out)
 have hg2:=lhi (grown_of hb2.out (some F))
 have hT2:=lhi (hT.below hb2.out)
 have hCS:=lhi (hitC_size p.sp)
 have hFl:=lhi h.held.lt
 have htx:=lhi (show nt = t.length ∧ nt ≤ 1000000 ∧ p.i ≤ t.length from ⟨h.thru.nt_,h.thru.tl,hwk.hi⟩)
 clear h hT hn hnc hcm hn1 hD hf1 hM hwk
 have hWx:=lhi (show ∀ (w : World) (f : Fnd) (A : Option Addr) (n c : Nat) (l : List Tsk) (p : Pt),Fst w F B An nn cn At nt ct ns t g a M f → WOK ns t g a (l,p) → Trow w F A l → n = l.length → n ≤ c → c ≤ maxLen → (n : Int) ≤ f.cost + 1 → (M + 1 - f.cost).toNat ≤ D → 0 ≤ f.cost → f.cost ≤ 2 * M + 1 → Calls Try.prog 24 #[.pointer (some ⟨F,0,none⟩),.agg #[.slice An nn cn,.int .i64 g],.slice At nt ct,.int .i64 (p.i : Int),.agg (hitC p.sp),.slice A n c] w (WayRet w F ns t a M [(l,p)] f (max (f.cost + 1) (2 * M + 1 - f.cost))) from hW)
 clear hW
 show Calls _ _ _ _ (WayRet w F ns t a M [([.node (ndA ns (m : Int)).a,.node (ndA ns (m : Int)).b] ++ l,p)] f (2 * M + 2 - f.cost))
 have hF3:=lhi (show F ≠ w.heap.size ∧ F ≠ w.heap.size + 1 ∧ F ≠ w.heap.size + 1 + 1 by have:=hFl.out;omega)
 have hFs:=lhi (show F < (((w.alloc (.cells #[.slice An nn cn,.int .i64 g] 24)).alloc (.cells (hitC p.sp) 29)).alloc (.cells (nodC (ndA ns (m : Int))) 54)).heap.size by have:=hFl.out;simp;omega)
 have hWp:=lhi (fun w f A n c l => hWx.out w f A n c l p)
 clear hWx
 generalize hitC p.sp = CS at *
 generalize nodC (ndA ns (m : Int)) = CN at *
 replace hk:=lhi hk
 generalize (ndA ns (m : Int)).a = na at *
 generalize (ndA ns (m : Int)).b = nb at *
 go_enter Try.func37,Try.ntmps37
 go_upto_region 1 with fail
 generalize ((w.alloc (.cells #[.slice An nn cn,.int .i64 g] 24)).alloc (.cells CS 29)).alloc (.cells CN 54) = w2 at *
 clear hb2
 generalize w.heap.size + 1 + 1 = H2 at *
 generalize w.heap.size + 1 = H1 at *
 generalize w.heap.size = H0 at *
 have n0 : w2.cell? ⟨H2,0,none⟩ = some (.int .i64 2):=hS2.out.2.2.at_ N0
 replace N1:=lhi N1
 replace N2:=lhi N2
 clear N0 N3 N4 N5
 have hb3:=lhi (((Below.refl w2.heap.size w2).alloc (nlr _) (.cells #[.int .i64 0,.int .i64 na,.int .i64 0,.int .i64 0,.int .i64 0,.int .i64 nb,.int .i64 0,.int .i64 0] 66)).drew)
 have hR:=lhi (rrow_any ((w2.alloc (.cells #[.int .i64 0,.int .i64 na,.int .i64 0,.int .i64 0,.int .i64 0,.int .i64 nb,.int .i64 0,.int .i64 0] 66)).drew) F (by have:=hFs.out;simp;omega) A n c l hbd.out.2.2.2.2.2.1 hbd.out.2.2.2.2.2.2.1 (hT2.out.below hb3.out) (some ⟨w2.heap.size,0,none⟩) 2 2 [.node na,.node nb] rfl (nlr _) ((trow_new w2 F [.node na,.node nb] hFs.out).below ((Below.refl _ _).drew)) (by have:=hbd.out;omega))
 have hSd:=lhi (hS2.out.below ((Below.refl _ _).drew))
 clear hS2
 go_wp2
 refine wp_region_held_drew (S:=SNd H0 H1 H2 #[.slice An nn cn,.int .i64 g] CS CN) (by kernel_rfl) hSd.out (fun hS => ?_)
 refine wpAnyH_take (i:=0) (v:=?_) rfl (by kernel_rfl) (by kernel_rfl) (by kernel_rfl) (fun _ _ _ h => h) (Or.inl ⟨by rfl,?_⟩) hS ?_
 rotate_left
 · (intro w' hS';go_simp;try with_reducible rfl)
 (try simp only [Act.put,List.getElem_toArray,List.getElem_cons_zero,List.getElem_cons_succ,List.setIfInBounds_toArray,List.set_cons_zero,List.set_cons_succ])
 refine wpAnyH_take (i:=1) (v:=?_) rfl (by kernel_rfl) (by kernel_rfl) (by kernel_rfl) (fun _ _ _ h => h) (Or.inl ⟨by rfl,?_⟩) hS ?_
 rotate_left
 · (intro w' hS';have ha : w'.cell? ⟨H0,0,none⟩ = some (.slice An nn cn):=hS'.1.at_ rfl;have hb : w'.cell? ⟨H0,1,none⟩ = some (.int .i64 g):=hS'.1.at_ rfl;go_simp;try with_reducible rfl)
 (try simp only [Act.put,List.getElem_toArray,List.getElem_cons_zero,List.getElem_cons_succ,List.setIfInBounds_toArray,List.set_cons_zero,List.set_cons_succ])
 refine wpAnyH_take (i:=2) (v:=?_) rfl (by kernel_rfl) (by kernel_rfl) (by kernel_rfl) (fun _ _ _ h => h) (Or.inl ⟨by rfl,?_⟩) hS ?_
 rotate_left
 · (intro w' hS';go_simp;try with_reducible rfl)
 (try simp only [Act.put,List.getElem_toArray,List.getElem_cons_zero,List.getElem_cons_succ,List.setIfInBounds_toArray,List.set_cons_zero,List.set_cons_succ])
 refine wpAnyH_take (i:=3) (v:=?_) rfl (by kernel_rfl) (by kernel_rfl) (by kernel_rfl) (fun _ _ _ h => h) (Or.inl ⟨by rfl,?_⟩) hS ?_
 rotate_left
 · (intro w' hS';go_simp;try with_reducible rfl)
 (try simp only [Act.put,List.getElem_toArray,List.getElem_cons_zero,List.getElem_cons_succ,List.setIfInBounds_toArray,List.set_cons_zero,List.set_cons_succ])
 refine wpAnyH_take (i:=4) (v:=_) rfl (by kernel_rfl) (by kernel_rfl) (by kernel_rfl) (fun _ _ _ h => h) (yieldsIf_load_mid (by rfl) _ _ rfl (H1) 0 rfl (CS.toList) _ (fun _ hS' => hS'.2.1.range) Try.underlying29 rfl (by rw [Array.length_toList,hCS.out];exact size_ten)) hS ?_
 (try simp only [Act.put,List.getElem_toArray,List.getElem_cons_zero,List.getElem_cons_succ,List.setIfInBounds_toArray,List.set_cons_zero,List.set_cons_succ])
 refine wpAnyH_take (i:=5) (v:=?_) rfl (by kernel_rfl) (by kernel_rfl) (by kernel_rfl) (fun _ _ _ h => h) (Or.inl ⟨by rfl,?_⟩) hS ?_
 rotate_left
 · (intro w' hS';go_simp;try with_reducible rfl)
 (try simp only [Act.put,List.getElem_toArray,List.getElem_cons_zero,List.getElem_cons_succ,List.setIfInBounds_toArray,List.set_cons_zero,List.set_cons_succ])
 refine wpAnyH_take (i:=6) (v:=?_) rfl (by kernel_rfl) (by kernel_rfl) (by kernel_rfl) (fun _ _ _ h => h) (Or.inl ⟨by rfl,?_⟩) hS ?_
 rotate_left
 · (intro w' hS';go_simp;try with_reducible rfl)
 (try simp only [Act.put,List.getElem_toArray,List.getElem_cons_zero,List.getElem_cons_succ,List.setIfInBounds_toArray,List.set_cons_zero,List.set_cons_succ])
 refine wpAnyH_take (i:=7) (v:=?_) rfl (by kernel_rfl) (by kernel_rfl) (by kernel_rfl) (fun _ _ _ h => h) (Or.inl ⟨by rfl,?_⟩) hS ?_
 rotate_left
 · (intro w' hS';have hc : w'.cell? ⟨H2,1,none⟩ = some (.int .i64 na):=hS'.2.2.at_ N1.out;go_simp;try with_reducible rfl)
 (try simp only [Act.put,List.getElem_toArray,List.getElem_cons_zero,List.getElem_cons_succ,List.setIfInBounds_toArray,List.set_cons_zero,List.set_cons_succ])
 refine wpAnyH_take (i:=8) (v:=?_) rfl (by kernel_rfl) (by kernel_rfl) (by kernel_rfl) (fun _ _ _ h => h) (Or.inl ⟨by rfl,?_⟩) hS ?_
 rotate_left
 · (intro w' hS';go_simp;try with_reducible rfl)
 (try simp only [Act.put,List.getElem_toArray,List.getElem_cons_zero,List.getElem_cons_succ,List.setIfInBounds_toArray,List.set_cons_zero,List.set_cons_succ])
 refine wpAnyH_take (i:=9) (v:=?_) rfl (by kernel_rfl) (by kernel_rfl) (by kernel_rfl) (fun _ _ _ h => h) (Or.inl ⟨by rfl,?_⟩) hS ?_
 rotate_left
 · (intro w' hS';go_simp;try with_reducible rfl)
 (try simp only [Act.put,List.getElem_toArray,List.getElem_cons_zero,List.getElem_cons_succ,List.setIfInBounds_toArray,List.set_cons_zero,List.set_cons_succ])
 refine wpAnyH_take (i:=10) (v:=?_) rfl (by kernel_rfl) (by kernel_rfl) (by kernel_rfl) (fun _ _ _ h => h) (Or.inl ⟨by rfl,?_⟩) hS ?_
 rotate_left
 · (intro w' hS';have hc : w'.cell? ⟨H2,2,none⟩ = some (.int .i64 nb):=hS'.2.2.at_ N2.out;go_simp;try with_reducible rfl)
 (try simp only [Act.put,List.getElem_toArray,List.getElem_cons_zero,List.getElem_cons_succ,List.setIfInBounds_toArray,List.set_cons_zero,List.set_cons_succ])
 refine wpAnyH_take (i:=11) (v:=?_) rfl (by kernel_rfl) (by kernel_rfl) (by kernel_rfl) (fun _ _ _ h => h) (Or.inl ⟨by rfl,?_⟩) hS ?_
 rotate_left
 · (intro w' hS';go_simp;try with_reducible rfl)
 (try simp only [Act.put,List.getElem_toArray,List.getElem_cons_zero,List.getElem_cons_succ,List.setIfInBounds_toArray,List.set_cons_zero,List.set_cons_succ])
 refine wpAnyH_ready (rs:=[12]) (by kernel_rfl) (by simp) ?_
 refine AllReadyH.cons rfl (fun K hK => ?_) AllReadyH.nil
 go_simp
 refine hK.out _ _ (hS.below ((Below.refl _ _).alloc (nlr _) (.cells #[.int .i64 0,.int .i64 na,.int .i64 0,.int .i64 0,.int .i64 0,.int .i64 nb,.int .i64 0,.int .i64 0] 66))) (fun _ => ?_)
 clear hK K
 replace hS:=hS.below ((Below.refl _ _).alloc (nlr _) (.cells #[.int .i64 0,.int .i64 na,.int .i64 0,.int .i64 0,.int .i64 0,.int .i64 nb,.int .i64 0,.int .i64 0] 66))
 (try simp only [Act.put,List.getElem_toArray,List.getElem_cons_zero,List.getElem_cons_succ,List.setIfInBounds_toArray,List.set_cons_zero,List.set_cons_succ])
 refine wpAnyH_ready (rs:=[13]) (by kernel_rfl) (by simp) ?_
 refine AllReadyH.cons rfl (fun K hK => ?_) AllReadyH.nil
 go_simp
 refine (hR.out).mono ?_
 rintro e w3 ⟨⟨A5,n5,c5,rfl,k1,k2,k3,k4⟩,hb4⟩
 replace k1:=lhi k1
 replace k2:=lhi k2
 go_simp
 refine hK.out _ _ (hS.below hb4) (fun _ => ?_)
 clear hK K
 replace hS:=hS.below hb4
 (try simp only [Act.put,List.getElem_toArray,List.getElem_cons_zero,List.getElem_cons_succ,List.setIfInBounds_toArray,List.set_cons_zero,List.set_cons_succ])
 refine wpAnyH_ready (rs:=[14]) (by kernel_rfl) (by simp) ?_
 refine AllReadyH.cons rfl (fun K hK => ?_) AllReadyH.nil
 go_simp
 refine (hWp.out w3 f A5 n5 c5 _ (h2.out.keep (hb3.out.trans (hb4.mono hb3.out.size))) hwN.out k4 k1.out k2.out k3 (by have:=hbd.out;have q:=k1.out;simp at q;omega) hbd.out.2.2.2.2.1 (by have:=hbd.out;omega) (by have:=hbd.out;omega)).mono ?_
 rintro e w4 ⟨rfl,f',q1,q2,q3,q4,q5⟩
 go_simp
 refine hK.out _ _ (hS.grown q2 hF3.out) (fun _ => ?_)
 clear hK K
 replace hS:=hS.grown q2 hF3.out
 (try simp only [Act.put,List.getElem_toArray,List.getElem_cons_zero,List.getElem_cons_succ,List.setIfInBounds_toArray,List.set_cons_zero,List.set_cons_succ])
 refine wpAnyH_done (by kernel_rfl) ?_ _
 go_wp2
 go_end0
 exact ⟨rfl,f',q1,grown_trans hg2.out (grown_trans (grown_of (hb3.out.trans (hb4.mono hb3.out.size)) _) q2),q3,q4,by have:=hbd.out;omega⟩
end
end Go.Proofs.Ytjopmieaikgbcaa
