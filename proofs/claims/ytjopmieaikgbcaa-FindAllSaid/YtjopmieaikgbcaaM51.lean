/- Contracts and plain facts: M51. -/
import Derived.Test.YtjopmieaikgbcaaM38
import Derived.Test.YtjopmieaikgbcaaM40
import Derived.Test.YtjopmieaikgbcaaM42
import Derived.Test.YtjopmieaikgbcaaM43
import Derived.Test.YtjopmieaikgbcaaM44
import Derived.Test.YtjopmieaikgbcaaM45
import Derived.Test.YtjopmieaikgbcaaM46
import Derived.Test.YtjopmieaikgbcaaM47
import Derived.Test.YtjopmieaikgbcaaM48
import Derived.Test.YtjopmieaikgbcaaM49
import Derived.Test.YtjopmieaikgbcaaM50
set_option linter.unusedVariables false
set_option linter.unusedSimpArgs false
set_option maxRecDepth 100000
set_option maxHeartbeats 32000000
namespace Go.Proofs.Ytjopmieaikgbcaa
open Go.RowKit
section
variable {w w' w1 : World} {F B : Nat} {An : Option Addr} {nn cn : Nat} {At : Option Addr} {nt ct : Nat} {ns : List Nod} {t : List UInt8} {g : Int} {a : Nat} {M : Int} {f f' f1 : Fnd} {D : Nat} {A : Option Addr} {n c : Nat} {l : List Tsk} {p : Pt} {tk : Tsk}
theorem rways_rep_times_no_y (hW : WaysOK F B An nn cn At nt ct ns t g a M D) (m : Nat) (hmn0 : m < ns.length) (k : Int) (q : Nat) (h : Fst w F B An nn cn At nt ct ns t g a M f) (hwk : WOK ns t g a (.times (m : Int) k q :: l,p)) (hT : Trow w F A (.times (m : Int) k q :: l)) (hn : n = l.length + 1) (hnc : n ≤ c) (hcm : c ≤ maxLen) (hn1 : (n : Int) ≤ f.cost + 1) (hD : (M + 1 - f.cost).toNat ≤ D + 1) (hf0 : 0 ≤ f.cost) (hx : f.cost + 1 ≤ M) (hk4 : (ndA ns (m : Int)).kind = 4) (hq : p.i ≠ q) (hon : (ndA ns (m : Int)).hi ≤ k) (hni : (ndA ns (m : Int)).hi ≠ -1) (hoff : (ndA ns (m : Int)).lo ≤ k) :
    Calls Try.prog 24 #[.pointer (some ⟨F,0,none⟩),.agg #[.slice An nn cn,.int .i64 g],.slice At nt ct,.int .i64 (p.i : Int),hitV p.sp,.slice A n c] w (WayRet w F ns t a M [(.times (m : Int) k q :: l,p)] f (max (f.cost + 1) (2 * M + 1 - f.cost))):=by
 show Calls Try.prog 24 #[.pointer (some ⟨F,0,none⟩),.agg #[.slice An nn cn,.int .i64 g],.slice At nt ct,.int .i64 (p.i : Int),.agg (hitC p.sp),.slice A n c] w _
 have hmn : m < nn:=by have:=h.thru.nn_;omega
 obtain ⟨ad,bb,oo,rfl,hp,hbb,hrn⟩:=h.thru.node' hmn0
 have hmI0 : (0 : Int) ≤ (m : Int):=by omega
 have hmI1 : (m : Int) < (nn : Int):=by omega
 have hrN:=lhi (fun w' (hg : w.grownBy w' (some F)) => range_below hrn (grown_low hg h.base h.thru.base) hbb)
 have hnx : nexts ns t (.times (m : Int) k q) p = [([],p)]:=by rw [next_on hq,if_neg (by omega),if_pos hoff];rfl
 have hwN:=lhi (show WOK ns t g a (l,p) from WOK.next h.thru.rt hwk _ (by rw [hnx];exact List.mem_cons_self ..))
 have htok : (0 ≤ (m : Int) ∧ (m : Int) < ns.length) ∧ (ndA ns (m : Int)).kind = 4 ∧ 0 ≤ k ∧ k ≤ (q : Int) + 1 ∧ q ≤ p.i:=hwk.toks _ (List.mem_cons_self ..)
 have hwk1 : IntKind.i64.wrap (k + 1) = k + 1:=by have h1 : p.i ≤ t.length:=hwk.hi;have h2:=h.thru.tl;have h3:=h.thru.nt_;have h4:=htok.2.2.2;exact IntWalk.i64_in _ (by omega)
 have hqq : ((p.i : Int) == (q : Int)) = false:=bef.2 (by omega)
 replace htok:=lhi htok
 obtain ⟨b,o,rfl,hFb,hbl,hr4,hT1⟩:=hT.cons
 have hm1:=h.m1
 have hb2:=lhi (((Below.refl w.heap.size w).alloc (nlr _) (.cells #[.slice (some ad) nn cn,.int .i64 g] 24)).alloc (by simp) (.cells (hitC p.sp) 29))
 have hg2:=lhi (grown_of hb2.out (some F))
 have h2:=lhi (h.keep hb2.out)
 have hz : ((n : Int) == 0) = false:=by rw [bef,hn];simp;omega
 have hw1 : IntKind.i64.wrap (f.cost + 1) = f.cost + 1:=IntWalk.i64_in _ (by omega)
 have hd : decide (M < f.cost + 1) = false:=decide_eq_false (by omega)
 have i0 : (0 : Int) < (n : Int):=by omega
 have i1 : 0 < n:=by omega
 have i2 : (1 : Int) ≤ (n : Int):=by omega
 have hbd:=lhi (show 0 ≤ f.cost ∧ f.cost + 1 ≤ M ∧ M ≤ 400000 ∧ (n : Int) ≤ f.cost + 1 ∧ (M + 1 - f.cost).toNat ≤ D + 1 ∧ n = l.length + 1 ∧ n ≤ c ∧ c ≤ maxLen from ⟨hf0,hx,hm1,hn1,hD,hn,hnc,hcm⟩)
 have hr2:=lhi (show (w.alloc (.cells #[.slice (some ad) nn cn,.int .i64 g] 24)).alloc (.cells (hitC p.sp) 29) |>.rangeAt b o [.int .i64 2,.int .i64 (m : Int),.int .i64 k,.int .i64 (q : Int)] from range_below hr4 hb2.out hbl)
 have hCS:=lhi (hitC_size p.sp)
 have hS:=lhi (show Held _ (w.heap.size + 1) 29 (hitC p.sp) from held_new2 w (.cells #[.slice (some ad) nn cn,.int .i64 g] 24) 29 (hitC p.sp))
 have hR0:=lhi (show Held _ w.heap.size 24 #[.slice (some ad) nn cn,.int .i64 g] from (held_new w 24 #[.slice (some ad) nn cn,.int .i64 g]).alloc (.cells (hitC p.sp) 29))
 have hFl:=lhi h.held.lt
 have hok:=lhi hwk
 have hTw:=lhi (show Trow w F (if c = 1 then some ⟨b,o,none⟩ else some ⟨b,o + 4,none⟩) l by
  split
  · have : l = []:=List.length_eq_zero_iff.1 (by omega)
    rw [this];exact Trow.nil _ _ _
  · exact hT1)
 have hgX:=lhi (fun (w5 w6 : World) (K : Nat) (hK : w.heap.size ≤ K) (h5 : w.grownBy w5 (some F)) (h6 : w5.grownBy w6 (some K)) => show w.grownBy w6 (some F) from ⟨h6.os.trans h5.os,h6.tape.trans h5.tape,h6.output.trans h5.output,Nat.le_trans h5.size h6.size,fun k hk hne => (h6.block k (nll hk h5.size) (fun e => by have:=Option.some.inj e;omega)).trans (h5.block k hk hne)⟩)
 have hFw:=lhi h
 have hWx:=lhi (show ∀ (w : World) (f : Fnd) (A : Option Addr) (n c : Nat) (l : List Tsk) (p : Pt),Fst w F B (some ad) nn cn At nt ct ns t g a M f → WOK ns t g a (l,p) → Trow w F A l → n = l.length → n ≤ c → c ≤ maxLen → (n : Int) ≤ f.cost + 1 → (M + 1 - f.cost).toNat ≤ D → 0 ≤ f.cost → f.cost ≤ 2 * M + 1 → Calls Try.prog 24 #[.pointer (some ⟨F,0,none⟩),.agg #[.slice (some ad) nn cn,.int .i64 g],.slice At nt ct,.int .i64 (p.i : Int),.agg (hitC p.sp),.slice A n c] w (WayRet w F ns t a M [(l,p)] f (max (f.cost + 1) (2 * M + 1 - f.cost))) from hW)
 clear hW
 clear h hT1 hn hnc hcm hn1 hD hf0 hm1 hwk hx hr4
 generalize hcp : hitC p.sp = CS at *
 replace hcp:=lhi hcp
 go_enter Try.func24,Try.ntmps24
 go_upto_region 1 with fail
 generalize (w.alloc (.cells #[.slice (some ad) nn cn,.int .i64 g] 24)).alloc (.cells CS 29) = w2 at *
 have hFne:=lhi (show F ≠ w.heap.size ∧ F ≠ w.heap.size + 1 by have:=hFl.out;omega)
 have hH1g:=lhi (show w.heap.size ≤ w.heap.size + 1 by omega)
 have hH01:=lhi (show w.heap.size ≠ w.heap.size + 1 by omega)
 have hbs:=lhi (show b < w2.heap.size from nll hbl hb2.out.size)
 clear hb2 hFl hbl
 generalize w.heap.size + 1 = H1 at *
 generalize w.heap.size = H0 at *
 have c21 : w2.cell? ⟨F,21,none⟩ = some (.int .i64 f.cost):=h2.out.held.at_ rfl
 have c22 : w2.cell? ⟨F,22,none⟩ = some (.int .i64 M):=h2.out.held.at_ rfl
 have t21:=h2.out.held.thawed 21
 have h3:=lhi (fun k => (h2.out.spent (f.cost + 1)).keep (below_drewN (Below.refl _ _) k))
 have hg3:=lhi (fun k => grown_then (grown_trans hg2.out (grown_cell w2 F 21 (.int .i64 (f.cost + 1)))) (below_drewN (Below.refl _ _) k))
 have hgc:=lhi (fun k => grown_then (grown_cell w2 F 21 (.int .i64 (f.cost + 1))) (below_drewN (Below.refl _ _) k))
 go_wp2
 go_quiet (fail)
 replace h3:=lhi (h3.out nq)
 replace hg3:=lhi (hg3.out nq)
 replace hgc:=lhi (hgc.out nq)
 go_upto_region 9 with fail
 generalize (w2.setCell ⟨F,21,none⟩ (.int .i64 (f.cost + 1))).drewN nq = w3 at *
 have hr3:=lhi (show w3.rangeAt b o [.int .i64 2,.int .i64 (m : Int),.int .i64 k,.int .i64 (q : Int)] from fun j u hj => (hgc.out.cell_far _ (show b < w2.heap.size from hbs.out) (by intro e;have : b = F:=Option.some.inj e;omega)).trans (hr2.out j u hj))
 have hS3:=lhi (hS.out.grown hgc.out (fun e => hFne.out.2 (Option.some.inj e).symm))
 have hR3:=lhi (hR0.out.grown hgc.out (fun e => hFne.out.1 (Option.some.inj e).symm))
 clear hr2 hS hR0 hgc h2 hg2 c21 c22 t21 hbs
 go_upto_region 12 with (first
  | (refine wpList_load_mid rfl 66 (.tmp 65) rfl b o rfl [.int .i64 2,.int .i64 (m : Int),.int .i64 k,.int .i64 (q : Int)] _ hr3.out Try.underlying66 rfl (by kernel_rfl) ?_))
 generalize (if c = 1 then some (⟨b,o,none⟩ : Addr) else some ⟨b,o + 4,none⟩) = A at *
 have hb5:=lhi (((Below.refl w3.heap.size w3).alloc (nlr _) (.cells #[.int .i64 2,.int .i64 (m : Int),.int .i64 k,.int .i64 (q : Int)] 66)).alloc (by simp) (.cells #[.int .i64 0,.int .i64 0,.int .i64 0,.int .i64 0,.int .i64 0,.int .i64 0,.int .u64 0,.int .u64 0,.int .u64 0,.int .u64 0] 54))
 have h5:=lhi (h3.out.keep hb5.out)
 have hg5:=lhi (grown_then hg3.out hb5.out)
 have hT5:=lhi (hTw.out.keep hg5.out)
 have hS5:=lhi (hS3.out.keep hb5.out)
 have hR5:=lhi (hR3.out.keep hb5.out)
 have hK5:=lhi ((held_new w3 66 #[.int .i64 2,.int .i64 (m : Int),.int .i64 k,.int .i64 (q : Int)]).alloc (.cells #[.int .i64 0,.int .i64 0,.int .i64 0,.int .i64 0,.int .i64 0,.int .i64 0,.int .u64 0,.int .u64 0,.int .u64 0,.int .u64 0] 54))
 have hN5:=lhi (held_new2 w3 (.cells #[.int .i64 2,.int .i64 (m : Int),.int .i64 k,.int .i64 (q : Int)] 66) 54 #[.int .i64 0,.int .i64 0,.int .i64 0,.int .i64 0,.int .i64 0,.int .i64 0,.int .u64 0,.int .u64 0,.int .u64 0,.int .u64 0])
 have hFl:=lhi h3.out.held.lt
 have hFk:=lhi (show F ≠ w3.heap.size ∧ F ≠ w3.heap.size + 1 by have:=hFl.out;omega)
 have hH0k:=lhi (show H0 ≠ w3.heap.size ∧ H0 ≠ w3.heap.size + 1 ∧ H0 ≤ w3.heap.size ∧ H0 ≤ w3.heap.size + 1 ∧ w3.heap.size ≠ w3.heap.size + 1 by have:=hR3.out.lt;omega)
 have hHk:=lhi (show H1 ≠ w3.heap.size ∧ H1 ≠ w3.heap.size + 1 by have:=hS3.out.lt;omega)
 generalize (w3.alloc (.cells #[.int .i64 2,.int .i64 (m : Int),.int .i64 k,.int .i64 (q : Int)] 66)).alloc (.cells #[.int .i64 0,.int .i64 0,.int .i64 0,.int .i64 0,.int .i64 0,.int .i64 0,.int .u64 0,.int .u64 0,.int .u64 0,.int .u64 0] 54) = w5 at *
 clear hb5 h3 hg3 hS3 hR3 hr3 hFl
 generalize w3.heap.size + 1 = KN at *
 generalize w3.heap.size = KT at *
 have k0 : w5.cell? ⟨KT,0,none⟩ = some (.int .i64 2):=hK5.out.at_ rfl
 have k1 : w5.cell? ⟨KT,1,none⟩ = some (.int .i64 (m : Int)):=hK5.out.at_ rfl
 have k2 : w5.cell? ⟨KT,2,none⟩ = some (.int .i64 k):=hK5.out.at_ rfl
 have k3 : w5.cell? ⟨KT,3,none⟩ = some (.int .i64 (q : Int)):=hK5.out.at_ rfl
 have hr5:=lhi (hrN.out w5 hg5.out)
 have r0 : w5.cell? ⟨H0,0,none⟩ = some (.slice (some ad) nn cn):=hR5.out.at_ rfl
 have hNl:=lhi (nod_size (ndA ns (m : Int)))
 have hNo:=lhi (nod_cells (ndA ns (m : Int)))
 go_upto_region 14 with (first
  | (refine wpList_load_mid rfl 54 (.tmp 77) rfl bb oo rfl (nodL (ndA ns (m : Int))) _ hr5.out Try.underlying54 rfl (by rw [nodL_len];kernel_rfl) ?_)
  | (refine wpList_store_row rfl 54 (.tmp 14) (.tmp 78) rfl KN (nodC (ndA ns (m : Int))) rfl rfl 54 _ hN5.out hNl.out rfl hNo.out ?_))
 have hg56:=lhi (grown_row (w:=w5) (b:=KN) (nodC (ndA ns (m : Int))))
 have hN6:=lhi (hN5.out.row (nodC (ndA ns (m : Int))))
 generalize w5.setRow KN (nodC (ndA ns (m : Int))) = w6 at *
 have hg6:=lhi (hgX.out w5 w6 KN hH0k.out.2.2.2.1 hg5.out hg56.out)
 have h6:=lhi (hFw.out.turned hg6.out (h5.out.held.grown hg56.out (fun e => hFk.out.2 (Option.some.inj e))))
 have hT6:=lhi (hTw.out.keep hg6.out)
 have hS6:=lhi (hS5.out.grown hg56.out (fun e => hHk.out.2 (Option.some.inj e)))
 have hR6:=lhi (hR5.out.grown hg56.out (fun e => hH0k.out.2.1 (Option.some.inj e)))
 have hK6:=lhi (hK5.out.grown hg56.out (fun e => hH0k.out.2.2.2.2 (Option.some.inj e)))
 clear hN5 h5 hS5 hR5 hK5 hg5 hr5 hNl hNo r0 k0 k1 k2 k3 hg56 hrN hp
 have hrun:=lhi (fun f' (q3 : Run ns t a M [(l,p)] ⟨f.best,f.cost + 1⟩ f') => show Run ns t a M [(.times (m : Int) k q :: l,p)] f f' from Run.next (c:=f.cost + 1) rfl (by rw [hnx];exact q3))
 have r0 : w6.cell? ⟨H0,0,none⟩ = some (.slice (some ad) nn cn):=hR6.out.at_ rfl
 have r1 : w6.cell? ⟨H0,1,none⟩ = some (.int .i64 g):=hR6.out.at_ rfl
 have k0 : w6.cell? ⟨KT,0,none⟩ = some (.int .i64 2):=hK6.out.at_ rfl
 have k2 : w6.cell? ⟨KT,2,none⟩ = some (.int .i64 k):=hK6.out.at_ rfl
 have k3 : w6.cell? ⟨KT,3,none⟩ = some (.int .i64 (q : Int)):=hK6.out.at_ rfl
 have ⟨N0,N1,_,N3,N4,_⟩:=nod_at (ndA ns (m : Int))
 have k1 : w6.cell? ⟨KT,1,none⟩ = some (.int .i64 (m : Int)):=hK6.out.at_ rfl
 rw [hk4] at N0
 have e0 : w6.cell? ⟨KN,0,none⟩ = some (.int .i64 4):=hN6.out.at_ N0
 have e4 : w6.cell? ⟨KN,4,none⟩ = some (.int .i64 (ndA ns (m : Int)).hi):=hN6.out.at_ N4
 have hb1 : ((ndA ns (m : Int)).hi == -1) = false:=bef.2 hni
 have hb2 : decide (k < (ndA ns (m : Int)).hi) = false:=decide_eq_false (by omega)
 have hb3 : decide ((ndA ns (m : Int)).lo ≤ k) = true:=decide_eq_true hoff
 replace hon:=lhi hon
 replace hoff:=lhi hoff
 replace hk4:=lhi hk4
 replace hnx:=lhi hnx
 replace hni:=lhi hni
 have hWp:=lhi (fun w f A n c l => hWx.out w f A n c l p)
 rw [hcp.out] at hWp
 clear hWx hT
 generalize nodC (ndA ns (m : Int)) = CN at *
 generalize (ndA ns (m : Int)).lo = lo at *
 generalize (ndA ns (m : Int)).a = na at *
 generalize (ndA ns (m : Int)).hi = hi at *
 have e3 : w6.cell? ⟨KN,3,none⟩ = some (.int .i64 lo):=hN6.out.at_ N3
 clear N0 N1 N3 N4
 have hCall:=lhi (hWp.out w6 ⟨f.best,f.cost + 1⟩ A (n - 1) (c - 1) l h6.out hwN.out hT6.out (by have:=hbd.out;omega) (by have:=hbd.out;omega) (by have:=hbd.out;omega) (by have:=hbd.out;show ((n - 1 : Nat) : Int) ≤ f.cost + 1 + 1;omega) (by have:=hbd.out;show (M + 1 - (f.cost + 1)).toNat ≤ D;omega) (by have:=hbd.out;show 0 ≤ f.cost + 1;omega) (by have:=hbd.out;show f.cost + 1 ≤ 2 * M + 1;omega))
 clear hWp
 go_wp2_with (first
  | (refine wpList_load_row rfl 29 (.tmp 10) rfl H1 rfl 29 _ (0,0) _ hS6.out Try.underlying29 rfl (by rw [hCS.out];exact size_ten) ?_)
  | (go_at_call 24;refine (hCall.out).mono ?_;rintro e w8 ⟨rfl,f',q1,q2,q3,q4,q5⟩))
 go_end0
 exact ⟨rfl,f',q1,grown_trans hg6.out q2,hrun.out f' q3,by have:=hbd.out;have q6 : f.cost + 1 ≤ f'.cost:=q4;omega,by have:=hbd.out;have q7 : f'.cost ≤ max (f.cost + 1 + 1) (2 * M + 1 - (f.cost + 1)):=q5;omega⟩
end
section
variable {F B : Nat} {An : Option Addr} {nn cn : Nat} {At : Option Addr} {nt ct : Nat} {ns : List Nod} {t : List UInt8} {g : Int} {a : Nat} {M : Int} {D : Nat}
theorem ways_step (hW : WaysOK F B An nn cn At nt ct ns t g a M D) : WaysOK F B An nn cn At nt ct ns t g a M (D + 1):=by
 intro w f A n c l p h hwk hT hn hnc hcm hn1 hD hf0 hf1
 cases l with
 | nil =>
  obtain rfl : n = 0:=hn
  cases hb : f.best with
  | none => exact rways_none h hb
  | some m0 => exact rways_some h m0 hb
 | cons tk l =>
  by_cases hx : f.cost + 1 ≤ M
  · have hn' : n = l.length + 1:=hn
    have ht:=hwk.toks tk List.mem_cons_self
    cases tk with
    | gend d q => exact rways_gend hW d q h hwk hT hn' hnc hcm hn1 hD hf0 hx
    | node m0 =>
     have ht' : 0 ≤ m0 ∧ m0 < ns.length:=ht
     obtain ⟨m,rfl⟩:=Int.eq_ofNat_of_zero_le ht'.1
     have hm : m < ns.length:=by have:=ht'.2;omega
     by_cases hk4 : (ndA ns (m : Int)).kind = 4
     · have hlh:=(h.thru.rt.2.2 (m : Int) ht'.1 ht'.2).2.2.2.1 hk4
       by_cases hi : (ndA ns (m : Int)).hi = -1
       · by_cases hoff : (ndA ns (m : Int)).lo ≤ 0
         · exact rways_rep_node_inf_y hW m hm h hwk hT hn' hnc hcm hn1 hD hf0 hx hk4 hi hoff
         · exact rways_rep_node_inf_n hW m hm h hwk hT hn' hnc hcm hn1 hD hf0 hx hk4 hi (by omega)
       · by_cases hon : 0 < (ndA ns (m : Int)).hi
         · by_cases hoff : (ndA ns (m : Int)).lo ≤ 0
           · exact rways_rep_node_lt_y hW m hm h hwk hT hn' hnc hcm hn1 hD hf0 hx hk4 hon hi hoff
           · exact rways_rep_node_lt_n hW m hm h hwk hT hn' hnc hcm hn1 hD hf0 hx hk4 hon hi (by omega)
         · exact rways_rep_node_no_y hW m hm h hwk hT hn' hnc hcm hn1 hD hf0 hx hk4 (by omega) hi (by omega)
     · exact rways_node hW (rnode_any hW) m hm h hwk hT hn' hnc hcm hn1 hD hf0 hx hk4
    | times m0 k q =>
     have ht' : (0 ≤ m0 ∧ m0 < ns.length) ∧ (ndA ns m0).kind = 4 ∧ 0 ≤ k ∧ k ≤ (q : Int) + 1 ∧ q ≤ p.i:=ht
     obtain ⟨m,rfl⟩:=Int.eq_ofNat_of_zero_le ht'.1.1
     have hm : m < ns.length:=by have:=ht'.1.2;omega
     have hk4:=ht'.2.1
     have hlh:=(h.thru.rt.2.2 (m : Int) ht'.1.1 ht'.1.2).2.2.2.1 hk4
     by_cases hq : p.i = q
     · subst hq
       by_cases hlo : k ≤ (ndA ns (m : Int)).lo
       · exact rways_same_y hW m hm k h hwk hT hn' hnc hcm hn1 hD hf0 hx hlo
       · exact rways_same_n hW m hm k h hwk hT hn' hnc hcm hn1 hD hf0 hx (by omega)
     · by_cases hi : (ndA ns (m : Int)).hi = -1
       · by_cases hoff : (ndA ns (m : Int)).lo ≤ k
         · exact rways_rep_times_inf_y hW m hm k q h hwk hT hn' hnc hcm hn1 hD hf0 hx hk4 hq hi hoff
         · exact rways_rep_times_inf_n hW m hm k q h hwk hT hn' hnc hcm hn1 hD hf0 hx hk4 hq hi (by omega)
       · by_cases hon : k < (ndA ns (m : Int)).hi
         · by_cases hoff : (ndA ns (m : Int)).lo ≤ k
           · exact rways_rep_times_lt_y hW m hm k q h hwk hT hn' hnc hcm hn1 hD hf0 hx hk4 hq hon hi hoff
           · exact rways_rep_times_lt_n hW m hm k q h hwk hT hn' hnc hcm hn1 hD hf0 hx hk4 hq hon hi (by omega)
         · exact rways_rep_times_no_y hW m hm k q h hwk hT hn' hnc hcm hn1 hD hf0 hx hk4 hq (by omega) hi (by omega)
  · exact rways_out h hn hf0 hf1 (by omega)
theorem ways_zero : WaysOK F B An nn cn At nt ct ns t g a M 0:=by
 intro w f A n c l p h hwk hT hn hnc hcm hn1 hD hf0 hf1
 cases l with
 | nil =>
  obtain rfl : n = 0:=hn
  cases hb : f.best with
  | none => exact rways_none h hb
  | some m0 => exact rways_some h m0 hb
 | cons tk l => exact rways_out h hn hf0 hf1 (by omega)
theorem rWays_any : ∀ D,WaysOK F B An nn cn At nt ct ns t g a M D
 | 0 => ways_zero
 | D + 1 => ways_step (rWays_any D)
end
end Go.Proofs.Ytjopmieaikgbcaa
