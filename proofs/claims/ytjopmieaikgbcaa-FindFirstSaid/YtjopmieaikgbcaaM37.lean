/- Contracts and plain facts: M37. -/
import Derived.Test.YtjopmieaikgbcaaM36
set_option linter.unusedVariables false
set_option linter.unusedSimpArgs false
set_option maxRecDepth 100000
set_option maxHeartbeats 32000000
namespace Go.Proofs.Ytjopmieaikgbcaa
open Go.RowKit
section
variable {w w' w1 : World} {F B : Nat} {An : Option Addr} {nn cn : Nat} {At : Option Addr} {nt ct : Nat} {ns : List Nod} {t : List UInt8} {g : Int} {a : Nat} {M : Int} {f f' f1 : Fnd} {D : Nat} {A : Option Addr} {n c : Nat} {l : List Tsk} {p : Pt}
theorem rnode_1_y (hW : WaysOK F B An nn cn At nt ct ns t g a M D) (m : Nat) (h : Fst w F B An nn cn At nt ct ns t g a M f) (hwk : WOK ns t g a (.node (m : Int) :: l,p)) (hk : (ndA ns (m : Int)).kind = 1) (hT : Trow w F A l) (hn : n = l.length) (hnc : n ≤ c) (hcm : c ≤ maxLen) (hn1 : (n : Int) + 1 ≤ f.cost) (hD : (M + 1 - f.cost).toNat ≤ D) (hf1 : 1 ≤ f.cost) (hM : f.cost ≤ M) (hlt : p.i < t.length) (hr1 : (ndA ns (m : Int)).set (t[p.i]'hlt).toNat = true) :
    Calls Try.prog 37 #[.pointer (some ⟨F,0,none⟩),.agg #[.slice An nn cn,.int .i64 g],.slice At nt ct,.int .i64 (p.i : Int),hitV p.sp,nodV (ndA ns (m : Int)),.slice A n c] w (WayRet w F ns t a M ((nexts ns t (.node (m : Int)) p).map (ahead l)) f (2 * M + 2 - f.cost)):=by
 show Calls Try.prog 37 #[.pointer (some ⟨F,0,none⟩),.agg #[.slice An nn cn,.int .i64 g],.slice At nt ct,.int .i64 (p.i : Int),.agg (hitC p.sp),.agg (nodC (ndA ns (m : Int))),.slice A n c] w _
 have hnx : nexts ns t (.node (m : Int)) p = [([],⟨p.i + 1,p.sp⟩)]:=by rw [next_set hk (List.getElem?_eq_getElem hlt),hr1];rfl
 have hwN:=lhi (show WOK ns t g a (l,⟨p.i + 1,p.sp⟩) from WOK.next h.thru.rt hwk _ (by rw [hnx];exact List.mem_singleton.2 rfl))
 rw [hnx]
 show Calls _ _ _ _ (WayRet w F ns t a M [(l,⟨p.i + 1,p.sp⟩)] f (2 * M + 2 - f.cost))
 have hc8 : (t[p.i]'hlt).toNat < 256:=UInt8.toNat_lt _
 obtain ⟨ad,rfl,had,hcb⟩:=h.thru.byt.at_ hlt
 have hBs:=h.thru.base
 have hHas:=lhi (fun w => refHas_any (ndA ns (m : Int)).set (t[p.i]'hlt).toNat w hc8)
 rw [hr1] at hHas
 unfold setV setC at hHas
 have N6 : (nodC (ndA ns (m : Int)))[6]? = some (.int .u64 ((wd (ndA ns (m : Int)).set 0 : Nat) : Int)):=rfl
 have N7 : (nodC (ndA ns (m : Int)))[7]? = some (.int .u64 ((wd (ndA ns (m : Int)).set 1 : Nat) : Int)):=rfl
 have N8 : (nodC (ndA ns (m : Int)))[8]? = some (.int .u64 ((wd (ndA ns (m : Int)).set 2 : Nat) : Int)):=rfl
 have N9 : (nodC (ndA ns (m : Int)))[9]? = some (.int .u64 ((wd (ndA ns (m : Int)).set 3 : Nat) : Int)):=rfl
 have hby:=lhi (fun (w' : World) (hb : Below w.heap.size w w') => show w'.cell? (ad.add p.i) = some (.int .u8 ((t[p.i]'hlt).toNat : Int)) from (hb.cell (p:=ad.add p.i) (by rw [block_add];omega)).trans hcb)
 have hnt:=h.thru.nt_
 have htl:=h.thru.tl
 have i0 : (0 : Int) ≤ (p.i : Int):=by omega
 have i1 : (p.i : Int) < (nt : Int):=by omega
 have hw1 : IntKind.i64.wrap ((p.i : Int) + 1) = (p.i : Int) + 1:=IntWalk.i64_in _ (by omega)
 have hg1:=lhi (show decide ((p.i : Int) < (nt : Int)) = true ∧ p.i < nt from ⟨decide_eq_true (by omega),by omega⟩)
 clear hnt htl hcb had hBs hnx hr1
 generalize ((t[p.i]'hlt).toNat : Int) = cc at *
 generalize ((wd (ndA ns (m : Int)).set 0 : Nat) : Int) = s0 at *
 generalize ((wd (ndA ns (m : Int)).set 1 : Nat) : Int) = s1 at *
 generalize ((wd (ndA ns (m : Int)).set 2 : Nat) : Int) = s2 at *
 generalize ((wd (ndA ns (m : Int)).set 3 : Nat) : Int) = s3 at *
 replace hlt:=lhi hlt
 obtain ⟨N0,N1,N2,N3,N4,N5⟩:=nod_at (ndA ns (m : Int))
 rw [hk] at N0
 have hok:=lhi hwk
 have hbd:=lhi (show 1 ≤ f.cost ∧ f.cost ≤ M ∧ M ≤ 400000 ∧ (n : Int) + 1 ≤ f.cost ∧ (M + 1 - f.cost).toNat ≤ D ∧ n = l.length ∧ n ≤ c ∧ c ≤ maxLen from ⟨hf1,hM,h.m1,hn1,hD,hn,hnc,hcm⟩)
 have hS2:=lhi (snd_new w #[.slice An nn cn,.int .i64 g] (hitC p.sp) (nodC (ndA ns (m : Int))))
 have hb2:=lhi ((((Below.refl w.heap.size w).alloc (nlr _) (.cells #[.slice An nn cn,.int .i64 g] 24)).alloc (by simp) (.cells (hitC p.sp) 29)).alloc (by simp;omega) (.cells (nodC (ndA ns (m : Int))) 54))
 have h2:=lhi (h.keep hb2.out)
 have hg2:=lhi (grown_of hb2.out (some F))
 have hT2:=lhi (hT.below hb2.out)
 have hCS:=lhi (hitC_size p.sp)
 have hFl:=lhi h.held.lt
 have htx:=lhi (show nt = t.length ∧ nt ≤ 1000000 ∧ p.i ≤ t.length from ⟨h.thru.nt_,h.thru.tl,hwk.hi⟩)
 clear h hT hn hnc hcm hn1 hD hf1 hM hwk
 have hWx:=lhi (show ∀ (w : World) (f : Fnd) (A : Option Addr) (n c : Nat) (l : List Tsk) (p : Pt),Fst w F B An nn cn (some ad) nt ct ns t g a M f → WOK ns t g a (l,p) → Trow w F A l → n = l.length → n ≤ c → c ≤ maxLen → (n : Int) ≤ f.cost + 1 → (M + 1 - f.cost).toNat ≤ D → 0 ≤ f.cost → f.cost ≤ 2 * M + 1 → Calls Try.prog 24 #[.pointer (some ⟨F,0,none⟩),.agg #[.slice An nn cn,.int .i64 g],.slice (some ad) nt ct,.int .i64 (p.i : Int),.agg (hitC p.sp),.slice A n c] w (WayRet w F ns t a M [(l,p)] f (max (f.cost + 1) (2 * M + 1 - f.cost))) from hW)
 clear hW
 have hCall:=lhi (fun w' hb => show Calls Try.prog 24 #[.pointer (some ⟨F,0,none⟩),.agg #[.slice An nn cn,.int .i64 g],.slice (some ad) nt ct,.int .i64 ((p.i : Int) + 1),.agg (hitC p.sp),.slice A n c] w' (WayRet w' F ns t a M [(l,⟨p.i + 1,p.sp⟩)] f (max (f.cost + 1) (2 * M + 1 - f.cost))) from hWx.out w' f A n c l ⟨p.i + 1,p.sp⟩ (h2.out.keep hb) hwN.out (hT2.out.below hb) hbd.out.2.2.2.2.2.1 hbd.out.2.2.2.2.2.2.1 hbd.out.2.2.2.2.2.2.2 (by have:=hbd.out;omega) hbd.out.2.2.2.2.1 (by have:=hbd.out;omega) (by have:=hbd.out;omega))
 have hby2:=lhi (fun (w' : World) hb => hby.out w' (hb2.out.trans (Below.mono hb hb2.out.size)))
 generalize hitC p.sp = CS at *
 generalize nodC (ndA ns (m : Int)) = CN at *
 replace hk:=lhi hk
 clear hWx hby
 go_enter Try.func37,Try.ntmps37
 go_upto_region 1 with fail
 generalize ((w.alloc (.cells #[.slice An nn cn,.int .i64 g] 24)).alloc (.cells CS 29)).alloc (.cells CN 54) = w2 at *
 clear hb2
 generalize w.heap.size + 1 + 1 = H2 at *
 generalize w.heap.size + 1 = H1 at *
 generalize w.heap.size = H0 at *
 have n0 : w2.cell? ⟨H2,0,none⟩ = some (.int .i64 1):=hS2.out.2.2.at_ N0
 have hK:=lhi (fun (w' : World) (hb : Below w2.heap.size w2 w') => show (w'.cell? ⟨H2,6,none⟩ = some (.int .u64 s0) ∧ w'.cell? ⟨H2,7,none⟩ = some (.int .u64 s1) ∧ w'.cell? ⟨H2,8,none⟩ = some (.int .u64 s2) ∧ w'.cell? ⟨H2,9,none⟩ = some (.int .u64 s3) ∧ w'.cell? (ad.add p.i) = some (.int .u8 cc)) ∧ SNd H0 H1 H2 #[.slice An nn cn,.int .i64 g] CS CN w' from
  ⟨⟨(hS2.out.below hb).2.2.at_ N6,(hS2.out.below hb).2.2.at_ N7,(hS2.out.below hb).2.2.at_ N8,(hS2.out.below hb).2.2.at_ N9,hby2.out w' hb⟩,hS2.out.below hb⟩)
 have hK0:=lhi (hK.out _ ((Below.refl _ _).drew))
 have ⟨⟨c6,c7,c8,c9,cb⟩,_⟩:=hK.out w2 (Below.refl _ _)
 clear N0 N1 N2 N3 N4 N5 N6 N7 N8 N9 hby2
 go_wp2
 have ⟨g1,g2⟩:=hg1.out
 go_region_held3 (fun w' => w'.cell? ⟨H2,6,none⟩ = some (.int .u64 s0) ∧ w'.cell? ⟨H2,7,none⟩ = some (.int .u64 s1) ∧ w'.cell? ⟨H2,8,none⟩ = some (.int .u64 s2) ∧ w'.cell? ⟨H2,9,none⟩ = some (.int .u64 s3) ∧ w'.cell? (ad.add p.i) = some (.int .u8 cc))
  (first | with_reducible exact hK0.out.1 | with_reducible exact hK3.out | go_keep)
  (first
  | (go_at_call 38;refine (hHas.out _).mono ?_;rintro e w3 ⟨rfl,hb3'⟩;have hb3:=lhi (((Below.refl w2.heap.size w2).drew).trans (hb3'.mono (by simp)));have hk:=hK.out w3 hb3.out;have hK3:=lhi hk.1;have hS3:=lhi hk.2;clear hk hb3'))
 clear hHas hK hK0 c6 c7 c8 c9 cb hK3
 have r03 : w3.cell? ⟨H0,0,none⟩ = some (.slice An nn cn):=hS3.out.1.at_ rfl
 have r13 : w3.cell? ⟨H0,1,none⟩ = some (.int .i64 g):=hS3.out.1.at_ rfl
 go_wp2_with (first
  | (refine wpList_load_row rfl 29 (.tmp 11) rfl H1 rfl 29 _ (0,0) _ hS3.out.2.1 Try.underlying29 rfl (by rw [hCS.out];exact size_ten) ?_)
  | (go_at_call 24;refine (hCall.out _ hb3.out).mono ?_;rintro e w4 ⟨rfl,f',q1,q2,q3,q4,q5⟩))
 go_end0
 exact ⟨rfl,f',q1,grown_trans hg2.out (grown_trans (grown_of hb3.out _) q2),q3,q4,by have:=hbd.out;omega⟩
theorem rnode_1_n (hW : WaysOK F B An nn cn At nt ct ns t g a M D) (m : Nat) (h : Fst w F B An nn cn At nt ct ns t g a M f) (hwk : WOK ns t g a (.node (m : Int) :: l,p)) (hk : (ndA ns (m : Int)).kind = 1) (hT : Trow w F A l) (hn : n = l.length) (hnc : n ≤ c) (hcm : c ≤ maxLen) (hn1 : (n : Int) + 1 ≤ f.cost) (hD : (M + 1 - f.cost).toNat ≤ D) (hf1 : 1 ≤ f.cost) (hM : f.cost ≤ M) (hlt : p.i < t.length) (hr1 : (ndA ns (m : Int)).set (t[p.i]'hlt).toNat = false) :
    Calls Try.prog 37 #[.pointer (some ⟨F,0,none⟩),.agg #[.slice An nn cn,.int .i64 g],.slice At nt ct,.int .i64 (p.i : Int),hitV p.sp,nodV (ndA ns (m : Int)),.slice A n c] w (WayRet w F ns t a M ((nexts ns t (.node (m : Int)) p).map (ahead l)) f (2 * M + 2 - f.cost)):=by
 show Calls Try.prog 37 #[.pointer (some ⟨F,0,none⟩),.agg #[.slice An nn cn,.int .i64 g],.slice At nt ct,.int .i64 (p.i : Int),.agg (hitC p.sp),.agg (nodC (ndA ns (m : Int))),.slice A n c] w _
 have hnx : nexts ns t (.node (m : Int)) p = []:=by rw [next_set hk (List.getElem?_eq_getElem hlt),hr1];rfl
 rw [hnx]
 show Calls _ _ _ _ (WayRet w F ns t a M [] f (2 * M + 2 - f.cost))
 have hc8 : (t[p.i]'hlt).toNat < 256:=UInt8.toNat_lt _
 obtain ⟨ad,rfl,had,hcb⟩:=h.thru.byt.at_ hlt
 have hBs:=h.thru.base
 have hHas:=lhi (fun w => refHas_any (ndA ns (m : Int)).set (t[p.i]'hlt).toNat w hc8)
 rw [hr1] at hHas
 unfold setV setC at hHas
 have N6 : (nodC (ndA ns (m : Int)))[6]? = some (.int .u64 ((wd (ndA ns (m : Int)).set 0 : Nat) : Int)):=rfl
 have N7 : (nodC (ndA ns (m : Int)))[7]? = some (.int .u64 ((wd (ndA ns (m : Int)).set 1 : Nat) : Int)):=rfl
 have N8 : (nodC (ndA ns (m : Int)))[8]? = some (.int .u64 ((wd (ndA ns (m : Int)).set 2 : Nat) : Int)):=rfl
 have N9 : (nodC (ndA ns (m : Int)))[9]? = some (.int .u64 ((wd (ndA ns (m : Int)).set 3 : Nat) : Int)):=rfl
 have hby:=lhi (fun (w' : World) (hb : Below w.heap.size w w') => show w'.cell? (ad.add p.i) = some (.int .u8 ((t[p.i]'hlt).toNat : Int)) from (hb.cell (p:=ad.add p.i) (by rw [block_add];omega)).trans hcb)
 have hnt:=h.thru.nt_
 have htl:=h.thru.tl
 have i0 : (0 : Int) ≤ (p.i : Int):=by omega
 have i1 : (p.i : Int) < (nt : Int):=by omega
 have hw1 : IntKind.i64.wrap ((p.i : Int) + 1) = (p.i : Int) + 1:=IntWalk.i64_in _ (by omega)
 have hg1:=lhi (show decide ((p.i : Int) < (nt : Int)) = true ∧ p.i < nt from ⟨decide_eq_true (by omega),by omega⟩)
 clear hnt htl hcb had hBs hnx hr1
 generalize ((t[p.i]'hlt).toNat : Int) = cc at *
 generalize ((wd (ndA ns (m : Int)).set 0 : Nat) : Int) = s0 at *
 generalize ((wd (ndA ns (m : Int)).set 1 : Nat) : Int) = s1 at *
 generalize ((wd (ndA ns (m : Int)).set 2 : Nat) : Int) = s2 at *
 generalize ((wd (ndA ns (m : Int)).set 3 : Nat) : Int) = s3 at *
 replace hlt:=lhi hlt
 obtain ⟨N0,N1,N2,N3,N4,N5⟩:=nod_at (ndA ns (m : Int))
 rw [hk] at N0
 have hok:=lhi hwk
 have hbd:=lhi (show 1 ≤ f.cost ∧ f.cost ≤ M ∧ M ≤ 400000 ∧ (n : Int) + 1 ≤ f.cost ∧ (M + 1 - f.cost).toNat ≤ D ∧ n = l.length ∧ n ≤ c ∧ c ≤ maxLen from ⟨hf1,hM,h.m1,hn1,hD,hn,hnc,hcm⟩)
 have hS2:=lhi (snd_new w #[.slice An nn cn,.int .i64 g] (hitC p.sp) (nodC (ndA ns (m : Int))))
 have hb2:=lhi ((((Below.refl w.heap.size w).alloc (nlr _) (.cells #[.slice An nn cn,.int .i64 g] 24)).alloc (by simp) (.cells (hitC p.sp) 29)).alloc (by simp;omega) (.cells (nodC (ndA ns (m : Int))) 54))
 have h2:=lhi (h.keep hb2.out)
 have hg2:=lhi (grown_of hb2.out (some F))
 have hT2:=lhi (hT.below hb2.out)
 have hCS:=lhi (hitC_size p.sp)
 have hFl:=lhi h.held.lt
 have htx:=lhi (show nt = t.length ∧ nt ≤ 1000000 ∧ p.i ≤ t.length from ⟨h.thru.nt_,h.thru.tl,hwk.hi⟩)
 clear h hT hn hnc hcm hn1 hD hf1 hM hwk
 have hWx:=lhi (show ∀ (w : World) (f : Fnd) (A : Option Addr) (n c : Nat) (l : List Tsk) (p : Pt),Fst w F B An nn cn (some ad) nt ct ns t g a M f → WOK ns t g a (l,p) → Trow w F A l → n = l.length → n ≤ c → c ≤ maxLen → (n : Int) ≤ f.cost + 1 → (M + 1 - f.cost).toNat ≤ D → 0 ≤ f.cost → f.cost ≤ 2 * M + 1 → Calls Try.prog 24 #[.pointer (some ⟨F,0,none⟩),.agg #[.slice An nn cn,.int .i64 g],.slice (some ad) nt ct,.int .i64 (p.i : Int),.agg (hitC p.sp),.slice A n c] w (WayRet w F ns t a M [(l,p)] f (max (f.cost + 1) (2 * M + 1 - f.cost))) from hW)
 clear hW
 have hby2:=lhi (fun (w' : World) hb => hby.out w' (hb2.out.trans (Below.mono hb hb2.out.size)))
 generalize hitC p.sp = CS at *
 generalize nodC (ndA ns (m : Int)) = CN at *
 replace hk:=lhi hk
 clear hWx hby
 go_enter Try.func37,Try.ntmps37
 go_upto_region 1 with fail
 generalize ((w.alloc (.cells #[.slice An nn cn,.int .i64 g] 24)).alloc (.cells CS 29)).alloc (.cells CN 54) = w2 at *
 clear hb2
 generalize w.heap.size + 1 + 1 = H2 at *
 generalize w.heap.size + 1 = H1 at *
 generalize w.heap.size = H0 at *
 have n0 : w2.cell? ⟨H2,0,none⟩ = some (.int .i64 1):=hS2.out.2.2.at_ N0
 have hK:=lhi (fun (w' : World) (hb : Below w2.heap.size w2 w') => show (w'.cell? ⟨H2,6,none⟩ = some (.int .u64 s0) ∧ w'.cell? ⟨H2,7,none⟩ = some (.int .u64 s1) ∧ w'.cell? ⟨H2,8,none⟩ = some (.int .u64 s2) ∧ w'.cell? ⟨H2,9,none⟩ = some (.int .u64 s3) ∧ w'.cell? (ad.add p.i) = some (.int .u8 cc)) ∧ SNd H0 H1 H2 #[.slice An nn cn,.int .i64 g] CS CN w' from
  ⟨⟨(hS2.out.below hb).2.2.at_ N6,(hS2.out.below hb).2.2.at_ N7,(hS2.out.below hb).2.2.at_ N8,(hS2.out.below hb).2.2.at_ N9,hby2.out w' hb⟩,hS2.out.below hb⟩)
 have hK0:=lhi (hK.out _ ((Below.refl _ _).drew))
 have ⟨⟨c6,c7,c8,c9,cb⟩,_⟩:=hK.out w2 (Below.refl _ _)
 clear N0 N1 N2 N3 N4 N5 N6 N7 N8 N9 hby2
 go_wp2
 have ⟨g1,g2⟩:=hg1.out
 go_region_held3 (fun w' => w'.cell? ⟨H2,6,none⟩ = some (.int .u64 s0) ∧ w'.cell? ⟨H2,7,none⟩ = some (.int .u64 s1) ∧ w'.cell? ⟨H2,8,none⟩ = some (.int .u64 s2) ∧ w'.cell? ⟨H2,9,none⟩ = some (.int .u64 s3) ∧ w'.cell? (ad.add p.i) = some (.int .u8 cc))
  (first | with_reducible exact hK0.out.1 | with_reducible exact hK3.out | go_keep)
  (first
  | (go_at_call 38;refine (hHas.out _).mono ?_;rintro e w3 ⟨rfl,hb3'⟩;have hb3:=lhi (((Below.refl w2.heap.size w2).drew).trans (hb3'.mono (by simp)));have hk:=hK.out w3 hb3.out;have hK3:=lhi hk.1;have hS3:=lhi hk.2;clear hk hb3'))
 clear hHas hK hK0 c6 c7 c8 c9 cb hK3
 have r03 : w3.cell? ⟨H0,0,none⟩ = some (.slice An nn cn):=hS3.out.1.at_ rfl
 have r13 : w3.cell? ⟨H0,1,none⟩ = some (.int .i64 g):=hS3.out.1.at_ rfl
 go_wp2
 go_end0
 exact ⟨rfl,f,(h2.out.keep hb3.out).held,grown_trans hg2.out (grown_of hb3.out _),Run.none_ hbd.out.2.1,Int.le_refl _,by have:=hbd.out;omega⟩
theorem rnode_1_e (hW : WaysOK F B An nn cn At nt ct ns t g a M D) (m : Nat) (h : Fst w F B An nn cn At nt ct ns t g a M f) (hwk : WOK ns t g a (.node (m : Int) :: l,p)) (hk : (ndA ns (m : Int)).kind = 1) (hT : Trow w F A l) (hn : n = l.length) (hnc : n ≤ c) (hcm : c ≤ maxLen) (hn1 : (n : Int) + 1 ≤ f.cost) (hD : (M + 1 - f.cost).toNat ≤ D) (hf1 : 1 ≤ f.cost) (hM : f.cost ≤ M) (hge : t.length ≤ p.i) :
    Calls Try.prog 37 #[.pointer (some ⟨F,0,none⟩),.agg #[.slice An nn cn,.int .i64 g],.slice At nt ct,.int .i64 (p.i : Int),hitV p.sp,nodV (ndA ns (m : Int)),.slice A n c] w (WayRet w F ns t a M ((nexts ns t (.node (m : Int)) p).map (ahead l)) f (2 * M + 2 - f.cost)):=by
 show Calls Try.prog 37 #[.pointer (some ⟨F,0,none⟩),.agg #[.slice An nn cn,.int .i64 g],.slice At nt ct,.int .i64 (p.i : Int),.agg (hitC p.sp),.agg (nodC (ndA ns (m : Int))),.slice A n c] w _
 obtain ⟨N0,N1,N2,N3,N4,N5⟩:=nod_at (ndA ns (m : Int))
 rw [hk] at N0
 have hok:=lhi hwk
 have hbd:=lhi (show 1 ≤ f.cost ∧ f.cost ≤ M ∧ M ≤ 400000 ∧ (n : Int) + 1 ≤ f.cost ∧ (M + 1 - f.cost).toNat ≤ D ∧ n = l.length ∧ n ≤ c ∧ c ≤ maxLen from ⟨hf1,hM,h.m1,hn1,hD,hn,hnc,hcm⟩)
 have hS2:=lhi (snd_new w #[.slice An nn cn,.int .i64 g] (hitC p.sp) (nodC (ndA ns (m : Int))))
 have hb2:=lhi ((((Below.refl w.heap.size w).alloc (nlr _) (.cells #[.slice An nn cn,.int .i64 g] 24)).alloc (by simp) (.cells (hitC p.sp) 29)).alloc (by simp;omega) (.cells (nodC (ndA ns (m : Int))) 54))
 have h2:=lhi (h.keep hb2.out)
 have hg2:=lhi (grown_of hb2.out (some F))
 have hT2:=lhi (hT.below hb2.out)
 have hCS:=lhi (hitC_size p.sp)
 have hFl:=lhi h.held.lt
 have htx:=lhi (show nt = t.length ∧ nt ≤ 1000000 ∧ p.i ≤ t.length from ⟨h.thru.nt_,h.thru.tl,hwk.hi⟩)
 clear h hT hn hnc hcm hn1 hD hf1 hM hwk
 have hWx:=lhi (show ∀ (w : World) (f : Fnd) (A : Option Addr) (n c : Nat) (l : List Tsk) (p : Pt),Fst w F B An nn cn At nt ct ns t g a M f → WOK ns t g a (l,p) → Trow w F A l → n = l.length → n ≤ c → c ≤ maxLen → (n : Int) ≤ f.cost + 1 → (M + 1 - f.cost).toNat ≤ D → 0 ≤ f.cost → f.cost ≤ 2 * M + 1 → Calls Try.prog 24 #[.pointer (some ⟨F,0,none⟩),.agg #[.slice An nn cn,.int .i64 g],.slice At nt ct,.int .i64 (p.i : Int),.agg (hitC p.sp),.slice A n c] w (WayRet w F ns t a M [(l,p)] f (max (f.cost + 1) (2 * M + 1 - f.cost))) from hW)
 clear hW
 rw [next_set_end hk hge]
 show Calls _ _ _ _ (WayRet w F ns t a M [] f (2 * M + 2 - f.cost))
 have hqd:=lhi (show decide ((p.i : Int) < (nt : Int)) = false from decide_eq_false (by have:=htx.out;omega))
 replace hge:=lhi hge
 generalize hitC p.sp = CS at *
 generalize nodC (ndA ns (m : Int)) = CN at *
 replace hk:=lhi hk
 clear hWx
 go_enter Try.func37,Try.ntmps37
 go_upto_region 1 with fail
 generalize ((w.alloc (.cells #[.slice An nn cn,.int .i64 g] 24)).alloc (.cells CS 29)).alloc (.cells CN 54) = w2 at *
 clear hb2
 generalize w.heap.size + 1 + 1 = H2 at *
 generalize w.heap.size + 1 = H1 at *
 generalize w.heap.size = H0 at *
 have n0 : w2.cell? ⟨H2,0,none⟩ = some (.int .i64 1):=hS2.out.2.2.at_ N0
 have r0 : w2.cell? ⟨H0,0,none⟩ = some (.slice An nn cn):=hS2.out.1.at_ rfl
 have r1 : w2.cell? ⟨H0,1,none⟩ = some (.int .i64 g):=hS2.out.1.at_ rfl
 clear N0 N1 N2 N3 N4 N5
 clear r0 r1
 have hSd:=lhi (hS2.out.below ((Below.refl _ _).drew))
 have hb3:=lhi ((Below.refl w2.heap.size w2).drew)
 clear hS2
 go_wp2
 refine wp_region_held_drew (S:=SNd H0 H1 H2 #[.slice An nn cn,.int .i64 g] CS CN) (by kernel_rfl) hSd.out (fun hS => ?_)
 refine wpAnyH_take (i:=0) (v:=?_) rfl (by kernel_rfl) (by kernel_rfl) (by kernel_rfl) (fun _ _ _ h => h) (Or.inl ⟨by rfl,?_⟩) hS ?_
 rotate_left
 · (intro w' hS';go_simp;try with_reducible rfl)
 (try simp only [Act.put,List.getElem_toArray,List.getElem_cons_zero,List.getElem_cons_succ,List.setIfInBounds_toArray,List.set_cons_zero,List.set_cons_succ])
 refine wpAnyH_take (i:=1) (v:=?_) rfl (by kernel_rfl) (by kernel_rfl) (by kernel_rfl) (fun _ _ _ h => h) (Or.inl ⟨by rfl,?_⟩) hS ?_
 rotate_left
 · (intro w' hS';go_simp;try with_reducible rfl)
 (try simp only [Act.put,List.getElem_toArray,List.getElem_cons_zero,List.getElem_cons_succ,List.setIfInBounds_toArray,List.set_cons_zero,List.set_cons_succ])
 refine wpAnyH_take (i:=2) (v:=?_) rfl (by kernel_rfl) (by kernel_rfl) (by kernel_rfl) (fun _ _ _ h => h) (Or.inl ⟨by rfl,?_⟩) hS ?_
 rotate_left
 · (intro w' hS';go_simp;try with_reducible rfl)
 (try simp only [Act.put,List.getElem_toArray,List.getElem_cons_zero,List.getElem_cons_succ,List.setIfInBounds_toArray,List.set_cons_zero,List.set_cons_succ])
 refine wpAnyH_take (i:=3) (v:=.bool false) rfl (by kernel_rfl) (by kernel_rfl) (by kernel_rfl) (fun _ _ _ h => h) (Or.inl ⟨by rfl,?_⟩) hS ?_
 · (intro w' hS';go_simp;have:=htx.out;have:=hge.out;omega)
 (try simp only [Act.put,List.getElem_toArray,List.getElem_cons_zero,List.getElem_cons_succ,List.setIfInBounds_toArray,List.set_cons_zero,List.set_cons_succ])
 refine wpAnyH_take (i:=4) (v:=.bool false) rfl (by kernel_rfl) (by kernel_rfl) (by kernel_rfl) (fun _ _ _ h => h) (Or.inl ⟨by rfl,?_⟩) hS ?_
 · (intro w' hS';go_simp;try with_reducible rfl)
 (try simp only [Act.put,List.getElem_toArray,List.getElem_cons_zero,List.getElem_cons_succ,List.setIfInBounds_toArray,List.set_cons_zero,List.set_cons_succ])
 refine wpAnyH_take (i:=5) (v:=undef) rfl (by kernel_rfl) (by kernel_rfl) (by kernel_rfl) (fun _ _ _ h => h) (Or.inr ⟨by rfl,rfl⟩) hS ?_
 (try simp only [Act.put,List.getElem_toArray,List.getElem_cons_zero,List.getElem_cons_succ,List.setIfInBounds_toArray,List.set_cons_zero,List.set_cons_succ])
 refine wpAnyH_take (i:=6) (v:=undef) rfl (by kernel_rfl) (by kernel_rfl) (by kernel_rfl) (fun _ _ _ h => h) (Or.inr ⟨by rfl,rfl⟩) hS ?_
 (try simp only [Act.put,List.getElem_toArray,List.getElem_cons_zero,List.getElem_cons_succ,List.setIfInBounds_toArray,List.set_cons_zero,List.set_cons_succ])
 refine wpAnyH_take (i:=7) (v:=undef) rfl (by kernel_rfl) (by kernel_rfl) (by kernel_rfl) (fun _ _ _ h => h) (Or.inr ⟨by rfl,rfl⟩) hS ?_
 (try simp only [Act.put,List.getElem_toArray,List.getElem_cons_zero,List.getElem_cons_succ,List.setIfInBounds_toArray,List.set_cons_zero,List.set_cons_succ])
 refine wpAnyH_take (i:=8) (v:=undef) rfl (by kernel_rfl) (by kernel_rfl) (by kernel_rfl) (fun _ _ _ h => h) (Or.inr ⟨by rfl,rfl⟩) hS ?_
 (try simp only [Act.put,List.getElem_toArray,List.getElem_cons_zero,List.getElem_cons_succ,List.setIfInBounds_toArray,List.set_cons_zero,List.set_cons_succ])
 refine wpAnyH_take (i:=9) (v:=undef) rfl (by kernel_rfl) (by kernel_rfl) (by kernel_rfl) (fun _ _ _ h => h) (Or.inr ⟨by rfl,rfl⟩) hS ?_
 (try simp only [Act.put,List.getElem_toArray,List.getElem_cons_zero,List.getElem_cons_succ,List.setIfInBounds_toArray,List.set_cons_zero,List.set_cons_succ])
 refine wpAnyH_take (i:=10) (v:=undef) rfl (by kernel_rfl) (by kernel_rfl) (by kernel_rfl) (fun _ _ _ h => h) (Or.inr ⟨by rfl,rfl⟩) hS ?_
 (try simp only [Act.put,List.getElem_toArray,List.getElem_cons_zero,List.getElem_cons_succ,List.setIfInBounds_toArray,List.set_cons_zero,List.set_cons_succ])
 refine wpAnyH_take (i:=11) (v:=undef) rfl (by kernel_rfl) (by kernel_rfl) (by kernel_rfl) (fun _ _ _ h => h) (Or.inr ⟨by rfl,rfl⟩) hS ?_
 (try simp only [Act.put,List.getElem_toArray,List.getElem_cons_zero,List.getElem_cons_succ,List.setIfInBounds_toArray,List.set_cons_zero,List.set_cons_succ])
 refine wpAnyH_take (i:=12) (v:=?_) rfl (by kernel_rfl) (by kernel_rfl) (by kernel_rfl) (fun _ _ _ h => h) (Or.inl ⟨by rfl,?_⟩) hS ?_
 rotate_left
 · (intro w' hS';go_simp;try with_reducible rfl)
 (try simp only [Act.put,List.getElem_toArray,List.getElem_cons_zero,List.getElem_cons_succ,List.setIfInBounds_toArray,List.set_cons_zero,List.set_cons_succ])
 refine wpAnyH_done (by kernel_rfl) ?_ _
 go_wp2
 go_end0
 exact ⟨rfl,f,(h2.out.keep hb3.out).held,grown_trans hg2.out (grown_of hb3.out _),Run.none_ hbd.out.2.1,Int.le_refl _,by have:=hbd.out;omega⟩
end
end Go.Proofs.Ytjopmieaikgbcaa
