/- Contracts and plain facts: M52. -/
import Derived.Test.YtjopmieaikgbcaaM51
set_option linter.unusedVariables false
set_option linter.unusedSimpArgs false
set_option maxRecDepth 100000
set_option maxHeartbeats 32000000
namespace Go.Proofs.Ytjopmieaikgbcaa
open Go.RowKit
section
variable {w : World} {B : Nat} {A A2 : Option Addr} {n c n2 c2 : Nat} {ns : List Nod} {t : List UInt8} {g : Int}
def SAt (H0 H1 : Nat) (RE C0 : Array Value) (w' : World) : Prop:=Held w' H0 24 RE ∧ Held w' H1 31 C0
theorem SAt.below {H0 H1 : Nat} {RE C0 : Array Value} {w1 w2 : World} (h : SAt H0 H1 RE C0 w1) (hb : Below w1.heap.size w1 w2) : SAt H0 H1 RE C0 w2:=⟨h.1.keep hb,h.2.keep hb⟩
theorem SAt.grown {H0 H1 F : Nat} {RE C0 : Array Value} {w1 w2 : World} (h : SAt H0 H1 RE C0 w1) (hg : w1.grownBy w2 (some F)) (h1 : F ≠ H0 ∧ F ≠ H1) : SAt H0 H1 RE C0 w2 :=
 ⟨h.1.grown hg (fun e => h1.1 (Option.some.inj e).symm),h.2.grown hg (fun e => h1.2 (Option.some.inj e).symm)⟩
def SF1 (F B : Nat) (fc : Array Value) (w0 w' : World) : Prop:=Held w' F 62 fc ∧ Below B w0 w'
theorem fnd_rangeA {w : World} {F : Nat} {a : Nat} {M : Int} {f : Fnd} (h : Held w F 62 (fndC f a M)) : w.rangeAt F 1 (hitL (ansS f.best)):=fun j u hj => by
 refine h.at_ ?_
 have hlt : j < 20:=by have:=(List.getElem?_eq_some_iff.1 hj).1;rwa [hitL_len] at this
 have : j = 0 ∨ j = 1 ∨ j = 2 ∨ j = 3 ∨ j = 4 ∨ j = 5 ∨ j = 6 ∨ j = 7 ∨ j = 8 ∨ j = 9 ∨ j = 10 ∨ j = 11 ∨ j = 12 ∨ j = 13 ∨ j = 14 ∨ j = 15 ∨ j = 16 ∨ j = 17 ∨ j = 18 ∨ j = 19:=by omega
 rcases this with rfl | rfl | rfl | rfl | rfl | rfl | rfl | rfl | rfl | rfl | rfl | rfl | rfl | rfl | rfl | rfl | rfl | rfl | rfl | rfl <;> exact hj
theorem rAt_any (i f : Nat) (h : AtIn w B A n c A2 n2 c2 ns t) (h1 : rightN ns g = true) (h2 : i ≤ t.length) (h3 : f ≤ 400000) : Calls Try.prog 12 #[.agg #[.slice A n c,.int .i64 g],.slice A2 n2 c2,.int .i64 (i : Int),.int .i64 (f : Int)] w fun e w' => AtP ns g t i f e ∧ Below w.heap.size w w':=by
 have hok:=lhi (show rightN ns g = true ∧ (0 ≤ (i : Int) ∧ (i : Int) ≤ t.length) ∧ 0 ≤ (f : Int) from ⟨h1,by omega,by omega⟩)
 have hrt:=right_rt h1
 have hn1k : 1 ≤ ns.length ∧ ns.length ≤ 1000:=by
  unfold rightN at h1
  simp only [Bool.and_eq_true,decide_eq_true_eq] at h1
  exact ⟨h1.1.1.1.1,h1.1.1.1.2⟩
 have hb0:=lhi ((((Below.refl w.heap.size w).alloc (nlr _) (.cells #[.slice A n c,.int .i64 g] 24)).alloc (by simp) (.cells #[.int .i64 0,.int .i64 0,.int .i64 0,.int .i64 0,.int .i64 0,.int .i64 0,.int .i64 0,.int .i64 0,.int .i64 0,.int .i64 0,.int .i64 0,.int .i64 0,.int .i64 0,.int .i64 0,.int .i64 0,.int .i64 0,.int .i64 0,.int .i64 0,.int .i64 0,.int .i64 0] 31)).alloc (by simp;omega) (.cells #[.bool false,.int .i64 0,.int .i64 0,.int .i64 0,.int .i64 0,.int .i64 0,.int .i64 0,.int .i64 0,.int .i64 0,.int .i64 0,.int .i64 0,.int .i64 0,.int .i64 0,.int .i64 0,.int .i64 0,.int .i64 0,.int .i64 0,.int .i64 0,.int .i64 0,.int .i64 0,.int .i64 0,.int .i64 0,.int .i64 (f : Int),.int .i64 (i : Int)] 62))
 have hRe:=lhi (((held_new w 24 #[.slice A n c,.int .i64 g]).alloc (.cells #[.int .i64 0,.int .i64 0,.int .i64 0,.int .i64 0,.int .i64 0,.int .i64 0,.int .i64 0,.int .i64 0,.int .i64 0,.int .i64 0,.int .i64 0,.int .i64 0,.int .i64 0,.int .i64 0,.int .i64 0,.int .i64 0,.int .i64 0,.int .i64 0,.int .i64 0,.int .i64 0] 31)).alloc (.cells #[.bool false,.int .i64 0,.int .i64 0,.int .i64 0,.int .i64 0,.int .i64 0,.int .i64 0,.int .i64 0,.int .i64 0,.int .i64 0,.int .i64 0,.int .i64 0,.int .i64 0,.int .i64 0,.int .i64 0,.int .i64 0,.int .i64 0,.int .i64 0,.int .i64 0,.int .i64 0,.int .i64 0,.int .i64 0,.int .i64 (f : Int),.int .i64 (i : Int)] 62))
 have hHi:=lhi ((held_new2 w (.cells #[.slice A n c,.int .i64 g] 24) 31 #[.int .i64 0,.int .i64 0,.int .i64 0,.int .i64 0,.int .i64 0,.int .i64 0,.int .i64 0,.int .i64 0,.int .i64 0,.int .i64 0,.int .i64 0,.int .i64 0,.int .i64 0,.int .i64 0,.int .i64 0,.int .i64 0,.int .i64 0,.int .i64 0,.int .i64 0,.int .i64 0]).alloc (.cells #[.bool false,.int .i64 0,.int .i64 0,.int .i64 0,.int .i64 0,.int .i64 0,.int .i64 0,.int .i64 0,.int .i64 0,.int .i64 0,.int .i64 0,.int .i64 0,.int .i64 0,.int .i64 0,.int .i64 0,.int .i64 0,.int .i64 0,.int .i64 0,.int .i64 0,.int .i64 0,.int .i64 0,.int .i64 0,.int .i64 (f : Int),.int .i64 (i : Int)] 62))
 have hFd:=lhi (show Held (((w.alloc (.cells #[.slice A n c,.int .i64 g] 24)).alloc (.cells #[.int .i64 0,.int .i64 0,.int .i64 0,.int .i64 0,.int .i64 0,.int .i64 0,.int .i64 0,.int .i64 0,.int .i64 0,.int .i64 0,.int .i64 0,.int .i64 0,.int .i64 0,.int .i64 0,.int .i64 0,.int .i64 0,.int .i64 0,.int .i64 0,.int .i64 0,.int .i64 0] 31)).alloc (.cells #[.bool false,.int .i64 0,.int .i64 0,.int .i64 0,.int .i64 0,.int .i64 0,.int .i64 0,.int .i64 0,.int .i64 0,.int .i64 0,.int .i64 0,.int .i64 0,.int .i64 0,.int .i64 0,.int .i64 0,.int .i64 0,.int .i64 0,.int .i64 0,.int .i64 0,.int .i64 0,.int .i64 0,.int .i64 0,.int .i64 (f : Int),.int .i64 (i : Int)] 62)) (w.heap.size + 1 + 1) 62 (fndC ⟨none,0⟩ i (f : Int)) from by
  have:=held_new ((w.alloc (.cells #[.slice A n c,.int .i64 g] 24)).alloc (.cells #[.int .i64 0,.int .i64 0,.int .i64 0,.int .i64 0,.int .i64 0,.int .i64 0,.int .i64 0,.int .i64 0,.int .i64 0,.int .i64 0,.int .i64 0,.int .i64 0,.int .i64 0,.int .i64 0,.int .i64 0,.int .i64 0,.int .i64 0,.int .i64 0,.int .i64 0,.int .i64 0] 31)) 62 #[.bool false,.int .i64 0,.int .i64 0,.int .i64 0,.int .i64 0,.int .i64 0,.int .i64 0,.int .i64 0,.int .i64 0,.int .i64 0,.int .i64 0,.int .i64 0,.int .i64 0,.int .i64 0,.int .i64 0,.int .i64 0,.int .i64 0,.int .i64 0,.int .i64 0,.int .i64 0,.int .i64 0,.int .i64 0,.int .i64 (f : Int),.int .i64 (i : Int)]
  rw [show ((w.alloc (.cells #[.slice A n c,.int .i64 g] 24)).alloc (.cells #[.int .i64 0,.int .i64 0,.int .i64 0,.int .i64 0,.int .i64 0,.int .i64 0,.int .i64 0,.int .i64 0,.int .i64 0,.int .i64 0,.int .i64 0,.int .i64 0,.int .i64 0,.int .i64 0,.int .i64 0,.int .i64 0,.int .i64 0,.int .i64 0,.int .i64 0,.int .i64 0] 31)).heap.size = w.heap.size + 1 + 1 from by simp] at this
  exact this)
 have hBF:=lhi (show B ≤ w.heap.size + 1 + 1 by have:=h.base;omega)
 have hSt:=lhi (show Fst (((w.alloc (.cells #[.slice A n c,.int .i64 g] 24)).alloc (.cells #[.int .i64 0,.int .i64 0,.int .i64 0,.int .i64 0,.int .i64 0,.int .i64 0,.int .i64 0,.int .i64 0,.int .i64 0,.int .i64 0,.int .i64 0,.int .i64 0,.int .i64 0,.int .i64 0,.int .i64 0,.int .i64 0,.int .i64 0,.int .i64 0,.int .i64 0,.int .i64 0] 31)).alloc (.cells #[.bool false,.int .i64 0,.int .i64 0,.int .i64 0,.int .i64 0,.int .i64 0,.int .i64 0,.int .i64 0,.int .i64 0,.int .i64 0,.int .i64 0,.int .i64 0,.int .i64 0,.int .i64 0,.int .i64 0,.int .i64 0,.int .i64 0,.int .i64 0,.int .i64 0,.int .i64 0,.int .i64 0,.int .i64 0,.int .i64 (f : Int),.int .i64 (i : Int)] 62)) (w.heap.size + 1 + 1) B A n c A2 n2 c2 ns t g i (f : Int) ⟨none,0⟩ from by
  have hz:=h.below (hb0.out.mono h.base)
  exact ⟨hFd.out,⟨hz.hn,hz.hnc,hz.hcm,hz.nods,hz.hn2,hz.hnc2,hz.hcm2,hz.hl2,hz.byt,hz.base,hrt,by have:=hz.hn;omega,by have:=hz.hn;omega⟩,hBF.out,h2,by omega,by omega⟩)
 have hne:=lhi (show w.heap.size + 1 + 1 ≠ w.heap.size ∧ w.heap.size + 1 + 1 ≠ w.heap.size + 1 by omega)
 have hgX:=lhi (fun (w5 w6 : World) (h5 : Below w.heap.size w w5) (h6 : w5.grownBy w6 (some (w.heap.size + 1 + 1))) => show Below w.heap.size w w6 from ⟨h6.os.trans h5.os,h6.tape.trans h5.tape,h6.output.trans h5.output,Nat.le_trans h5.size h6.size,fun k hk => (h6.block k (nll hk h5.size) (fun e => by have:=Option.some.inj e;omega)).trans (h5.block k hk)⟩)
 have hgY:=lhi (fun (w5 : World) (h5 : Below w.heap.size w w5) (C : Array Value) => show Below w.heap.size w (w5.setRow (w.heap.size + 1) C) from below_row h5 (by omega) C)
 have hw1 : IntKind.i64.wrap ((n : Int) - 1) = (n : Int) - 1:=IntWalk.i64_in _ (by have:=h.hn;omega)
 have hWay:=lhi (fun (w' : World) (A3 : Option Addr) (n3 c3 : Nat) (hst : Fst w' (w.heap.size + 1 + 1) B A n c A2 n2 c2 ns t g i (f : Int) ⟨none,0⟩) (hT : Trow w' (w.heap.size + 1 + 1) A3 [.node ((n : Int) - 1)]) (hn3 : n3 = 1) (hc : n3 ≤ c3) (hm : c3 ≤ maxLen) =>
  show Calls Try.prog 24 #[.pointer (some ⟨w.heap.size + 1 + 1,0,none⟩),.agg #[.slice A n c,.int .i64 g],.slice A2 n2 c2,.int .i64 (i : Int),.agg (hitC spNo),.slice A3 n3 c3] w' (WayRet w' (w.heap.size + 1 + 1) ns t i (f : Int) [([.node ((n : Int) - 1)],pt0 i)] ⟨none,0⟩ (max (0 + 1) (2 * (f : Int) + 1 - 0))) from
  rWays_any (f + 1) w' ⟨none,0⟩ A3 n3 c3 [.node ((n : Int) - 1)] (pt0 i) hst (by have:=wok0 (g:=g) hrt hn1k.1 h2;rw [← h.hn] at this;exact this) hT hn3 hc hm (by rw [hn3];show ((1 : Nat) : Int) ≤ 0 + 1;omega) (by show ((f : Int) + 1 - 0).toNat ≤ f + 1;omega) (by show (0 : Int) ≤ 0;omega) (by show (0 : Int) ≤ 2 * (f : Int) + 1;omega))
 have hNn:=lhi h.hn
 clear h hrt hn1k h1
 replace h2:=lhi h2
 replace h3:=lhi h3
 go_enter Try.func12,Try.ntmps12
 go_upto_region 2 with fail
 generalize ((w.alloc (.cells #[.slice A n c,.int .i64 g] 24)).alloc (.cells #[.int .i64 0,.int .i64 0,.int .i64 0,.int .i64 0,.int .i64 0,.int .i64 0,.int .i64 0,.int .i64 0,.int .i64 0,.int .i64 0,.int .i64 0,.int .i64 0,.int .i64 0,.int .i64 0,.int .i64 0,.int .i64 0,.int .i64 0,.int .i64 0,.int .i64 0,.int .i64 0] 31)).alloc (.cells #[.bool false,.int .i64 0,.int .i64 0,.int .i64 0,.int .i64 0,.int .i64 0,.int .i64 0,.int .i64 0,.int .i64 0,.int .i64 0,.int .i64 0,.int .i64 0,.int .i64 0,.int .i64 0,.int .i64 0,.int .i64 0,.int .i64 0,.int .i64 0,.int .i64 0,.int .i64 0,.int .i64 0,.int .i64 0,.int .i64 (f : Int),.int .i64 (i : Int)] 62) = w2 at *
 clear hFd
 generalize w.heap.size + 1 + 1 = F at *
 generalize w.heap.size + 1 = H1 at *
 generalize hHe : w.heap.size = H0 at *
 replace hHe:=lhi hHe
 have hSd:=lhi (show SAt H0 H1 #[.slice A n c,.int .i64 g] #[.int .i64 0,.int .i64 0,.int .i64 0,.int .i64 0,.int .i64 0,.int .i64 0,.int .i64 0,.int .i64 0,.int .i64 0,.int .i64 0,.int .i64 0,.int .i64 0,.int .i64 0,.int .i64 0,.int .i64 0,.int .i64 0,.int .i64 0,.int .i64 0,.int .i64 0,.int .i64 0] w2.drew from ⟨hRe.out.drew,hHi.out.drew⟩)
 have hFl:=lhi hSt.out.held.lt
 clear hRe hHi
 go_wp2
 refine wp_region_held_drew (S:=SAt H0 H1 #[.slice A n c,.int .i64 g] #[.int .i64 0,.int .i64 0,.int .i64 0,.int .i64 0,.int .i64 0,.int .i64 0,.int .i64 0,.int .i64 0,.int .i64 0,.int .i64 0,.int .i64 0,.int .i64 0,.int .i64 0,.int .i64 0,.int .i64 0,.int .i64 0,.int .i64 0,.int .i64 0,.int .i64 0,.int .i64 0]) (by kernel_rfl) hSd.out (fun hS => ?_)
 refine wpAnyH_take (i:=0) (v:=?_) rfl (by kernel_rfl) (by kernel_rfl) (by kernel_rfl) (fun _ _ _ h => h) (Or.inl ⟨by rfl,?_⟩) hS ?_
 rotate_left
 · (intro w' hS';go_simp;try with_reducible rfl)
 (try simp only [Act.put,List.getElem_toArray,List.getElem_cons_zero,List.getElem_cons_succ,List.setIfInBounds_toArray,List.set_cons_zero,List.set_cons_succ])
 refine wpAnyH_take (i:=1) (v:=?_) rfl (by kernel_rfl) (by kernel_rfl) (by kernel_rfl) (fun _ _ _ h => h) (Or.inl ⟨by rfl,?_⟩) hS ?_
 rotate_left
 · (intro w' hS';have ha : w'.cell? ⟨H0,0,none⟩ = some (.slice A n c):=hS'.1.at_ rfl;have hb : w'.cell? ⟨H0,1,none⟩ = some (.int .i64 g):=hS'.1.at_ rfl;go_simp;try with_reducible rfl)
 (try simp only [Act.put,List.getElem_toArray,List.getElem_cons_zero,List.getElem_cons_succ,List.setIfInBounds_toArray,List.set_cons_zero,List.set_cons_succ])
 refine wpAnyH_take (i:=2) (v:=?_) rfl (by kernel_rfl) (by kernel_rfl) (by kernel_rfl) (fun _ _ _ h => h) (Or.inl ⟨by rfl,?_⟩) hS ?_
 rotate_left
 · (intro w' hS';go_simp;try with_reducible rfl)
 (try simp only [Act.put,List.getElem_toArray,List.getElem_cons_zero,List.getElem_cons_succ,List.setIfInBounds_toArray,List.set_cons_zero,List.set_cons_succ])
 refine wpAnyH_take (i:=3) (v:=?_) rfl (by kernel_rfl) (by kernel_rfl) (by kernel_rfl) (fun _ _ _ h => h) (Or.inl ⟨by rfl,?_⟩) hS ?_
 rotate_left
 · (intro w' hS';go_simp;try with_reducible rfl)
 (try simp only [Act.put,List.getElem_toArray,List.getElem_cons_zero,List.getElem_cons_succ,List.setIfInBounds_toArray,List.set_cons_zero,List.set_cons_succ])
 refine wpAnyH_take (i:=5) (v:=?_) rfl (by kernel_rfl) (by kernel_rfl) (by kernel_rfl) (fun _ _ _ h => h) (Or.inl ⟨by rfl,?_⟩) hS ?_
 rotate_left
 · (intro w' hS';go_simp;try with_reducible rfl)
 (try simp only [Act.put,List.getElem_toArray,List.getElem_cons_zero,List.getElem_cons_succ,List.setIfInBounds_toArray,List.set_cons_zero,List.set_cons_succ])
 refine wpAnyH_take (i:=6) (v:=?_) rfl (by kernel_rfl) (by kernel_rfl) (by kernel_rfl) (fun _ _ _ h => h) (Or.inl ⟨by rfl,?_⟩) hS ?_
 rotate_left
 · (intro w' hS';have ha : w'.cell? ⟨H0,0,none⟩ = some (.slice A n c):=hS'.1.at_ rfl;go_simp;try with_reducible rfl)
 (try simp only [Act.put,List.getElem_toArray,List.getElem_cons_zero,List.getElem_cons_succ,List.setIfInBounds_toArray,List.set_cons_zero,List.set_cons_succ])
 refine wpAnyH_take (i:=7) (v:=?_) rfl (by kernel_rfl) (by kernel_rfl) (by kernel_rfl) (fun _ _ _ h => h) (Or.inl ⟨by rfl,?_⟩) hS ?_
 rotate_left
 · (intro w' hS';go_simp;try with_reducible rfl)
 (try simp only [Act.put,List.getElem_toArray,List.getElem_cons_zero,List.getElem_cons_succ,List.setIfInBounds_toArray,List.set_cons_zero,List.set_cons_succ])
 refine wpAnyH_take (i:=8) (v:=?_) rfl (by kernel_rfl) (by kernel_rfl) (by kernel_rfl) (fun _ _ _ h => h) (Or.inl ⟨by rfl,?_⟩) hS ?_
 rotate_left
 · (intro w' hS';go_simp;try with_reducible rfl)
 (try simp only [Act.put,List.getElem_toArray,List.getElem_cons_zero,List.getElem_cons_succ,List.setIfInBounds_toArray,List.set_cons_zero,List.set_cons_succ])
 refine wpAnyH_take (i:=9) (v:=?_) rfl (by kernel_rfl) (by kernel_rfl) (by kernel_rfl) (fun _ _ _ h => h) (Or.inl ⟨by rfl,?_⟩) hS ?_
 rotate_left
 · (intro w' hS';go_simp;try with_reducible rfl)
 (try simp only [Act.put,List.getElem_toArray,List.getElem_cons_zero,List.getElem_cons_succ,List.setIfInBounds_toArray,List.set_cons_zero,List.set_cons_succ])
 refine wpAnyH_ready (rs:=[4,10]) (by kernel_rfl) (by simp) ?_
 refine AllReadyH.cons rfl (fun K hK => ?_) (AllReadyH.cons rfl (fun K hK => ?_) AllReadyH.nil)
 · go_simp
   refine (rNone_any _).mono ?_
   rintro e w3 ⟨rfl,hb3⟩
   go_simp
   refine hK.out _ _ (hS.below hb3) (fun _ => ?_)
   clear hK K
   replace hS:=hS.below hb3
   (try simp only [Act.put,List.getElem_toArray,List.getElem_cons_zero,List.getElem_cons_succ,List.setIfInBounds_toArray,List.set_cons_zero,List.set_cons_succ])
   have hF3 : F < w3.heap.size:=nll hFl.out hb3.size
   have hb4:=lhi (((Below.refl w2.heap.size w2).drew).trans ((hb3.mono (nlr _)).trans ((Below.refl w3.heap.size w3).alloc (nlr _) (.cells #[.int .i64 0,.int .i64 ((n : Int) - 1),.int .i64 0,.int .i64 0] 66) |>.mono hb3.size)))
   have hTr:=lhi (trow_new w3 F [.node ((n : Int) - 1)] hF3)
   refine wpAnyH_ready (rs:=[10]) (by kernel_rfl) (by simp) ?_
   refine AllReadyH.cons rfl (fun K hK => ?_) AllReadyH.nil
   go_simp
   refine hK.out _ _ (hS.below ((Below.refl _ _).alloc (nlr _) (.cells #[.int .i64 0,.int .i64 ((n : Int) - 1),.int .i64 0,.int .i64 0] 66))) (fun _ => ?_)
   clear hK K
   replace hS:=hS.below ((Below.refl _ _).alloc (nlr _) (.cells #[.int .i64 0,.int .i64 ((n : Int) - 1),.int .i64 0,.int .i64 0] 66))
   (try simp only [Act.put,List.getElem_toArray,List.getElem_cons_zero,List.getElem_cons_succ,List.setIfInBounds_toArray,List.set_cons_zero,List.set_cons_succ])
   refine wpAnyH_ready (rs:=[11]) (by kernel_rfl) (by simp) ?_
   refine AllReadyH.cons rfl (fun K hK => ?_) AllReadyH.nil
   go_simp
   refine (hWay.out _ _ _ _ (hSt.out.keep hb4.out) hTr.out rfl (nlr _) (by decide)).mono ?_
   rintro e w5 ⟨rfl,f',q1,q2,q3,q4,q5⟩
   go_simp
   refine hK.out _ _ (hS.grown q2 hne.out) (fun _ => ?_)
   clear hK K
   replace hS:=hS.grown q2 hne.out
   (try simp only [Act.put,List.getElem_toArray,List.getElem_cons_zero,List.getElem_cons_succ,List.setIfInBounds_toArray,List.set_cons_zero,List.set_cons_succ])
   refine wpAnyH_done (by kernel_rfl) ?_ _
   have hbl:=lhi (hgX.out _ _ (hb0.out.trans (hb4.out.mono (by have:=hb0.out.size;have:=hHe.out;omega))) q2)
   have hNn':=hNn.out
   have htold:=q3.told
   rw [hNn'] at htold
   have c21 : w5.cell? ⟨F,21,none⟩ = some (.int .i64 f'.cost):=q1.at_ rfl
   have hH5:=lhi hS.2
   have hq1:=lhi q1
   have hcst : 0 ≤ f'.cost:=q4
   have h3':=h3.out
   clear q1 q2 q3 q5 hS hSd hSt hWay hgX hTr hNn'
   by_cases hc : f'.cost ≤ (f : Int)
   · have d1 : decide ((f : Int) < f'.cost) = false:=decide_eq_false (by omega)
     obtain ⟨left,hl⟩ : ∃ left : Nat,(f : Int) - f'.cost = left:=⟨_,(Int.toNat_of_nonneg (by omega)).symm⟩
     have hw2 : IntKind.i64.wrap ((f : Int) - f'.cost) = (left : Int):=by rw [← hl];exact IntWalk.i64_in _ (by omega)
     have hT:=htold.1 hc
     rw [hl] at hT
     have hok2:=lhi (AtP.fine hok.out hT)
     have hRg:=lhi (fun (w' : World) (h' : Held w' F 62 (fndC f' i (f : Int))) => fnd_rangeA h')
     have hLn:=lhi (hitL_len (ansS f'.best))
     have hLC:=lhi (show hitC (ansS f'.best) = (hitL (ansS f'.best)).toArray from by unfold hitC;rfl)
     have hLo:=lhi (hit_cells (ansS f'.best))
     rw [hLC.out] at hok2 hLo
     replace hl:=lhi hl
     replace hcst:=lhi hcst
     replace hc:=lhi hc
     replace htold:=lhi htold
     replace hT:=lhi hT
     clear hLC
     go_wp2
     have hS0:=lhi (show SF1 F H0 (fndC f' i (f : Int)) w w5.drew from ⟨hq1.out.drew,hbl.out.drew⟩)
     have hHd:=lhi hH5.out.drew
     generalize hitL (ansS f'.best) = L at *
     refine wp_region_held_drew (S:=SF1 F H0 (fndC f' i (f : Int)) w) (by kernel_rfl) hS0.out (fun hS => ?_)
     refine wpAnyH_take (i:=0) (v:=?_) rfl (by kernel_rfl) (by kernel_rfl) (by kernel_rfl) (fun _ _ _ h => h) (Or.inl ⟨by rfl,?_⟩) hS ?_
     rotate_left
     · (intro w' hS';go_simp;try with_reducible rfl)
     (try simp only [Act.put,List.getElem_toArray,List.getElem_cons_zero,List.getElem_cons_succ,List.setIfInBounds_toArray,List.set_cons_zero,List.set_cons_succ])
     refine wpAnyH_take (i:=1) (v:=?_) rfl (by kernel_rfl) (by kernel_rfl) (by kernel_rfl) (fun _ _ _ h => h) (Or.inl ⟨by rfl,?_⟩) hS ?_
     rotate_left
     · (intro w' hS';go_simp;try with_reducible rfl)
     (try simp only [Act.put,List.getElem_toArray,List.getElem_cons_zero,List.getElem_cons_succ,List.setIfInBounds_toArray,List.set_cons_zero,List.set_cons_succ])
     refine wpAnyH_take (i:=2) (v:=?_) rfl (by kernel_rfl) (by kernel_rfl) (by kernel_rfl) (fun _ _ _ h => h) (Or.inl ⟨by rfl,?_⟩) hS ?_
     rotate_left
     · (intro w' hS';go_simp;try with_reducible rfl)
     (try simp only [Act.put,List.getElem_toArray,List.getElem_cons_zero,List.getElem_cons_succ,List.setIfInBounds_toArray,List.set_cons_zero,List.set_cons_succ])
     refine wpAnyH_take (i:=3) (v:=_) rfl (by kernel_rfl) (by kernel_rfl) (by kernel_rfl) (fun _ _ _ h => h) (yieldsIf_load_mid (by rfl) _ _ rfl (F) 1 rfl (L) _ (fun _ hS' => hRg.out _ hS'.1) Try.underlying31 rfl (by rw [hLn.out];exact size_hit)) hS ?_
     (try simp only [Act.put,List.getElem_toArray,List.getElem_cons_zero,List.getElem_cons_succ,List.setIfInBounds_toArray,List.set_cons_zero,List.set_cons_succ])
     refine wpAnyH_take (i:=4) (v:=?_) rfl (by kernel_rfl) (by kernel_rfl) (by kernel_rfl) (fun _ _ _ h => h) (Or.inl ⟨by rfl,?_⟩) hS ?_
     rotate_left
     · (intro w' hS';go_simp;try with_reducible rfl)
     (try simp only [Act.put,List.getElem_toArray,List.getElem_cons_zero,List.getElem_cons_succ,List.setIfInBounds_toArray,List.set_cons_zero,List.set_cons_succ])
     refine wpAnyH_take (i:=5) (v:=?_) rfl (by kernel_rfl) (by kernel_rfl) (by kernel_rfl) (fun _ _ _ h => h) (Or.inl ⟨by rfl,?_⟩) hS ?_
     rotate_left
     · (intro w' hS';go_simp;try with_reducible rfl)
     (try simp only [Act.put,List.getElem_toArray,List.getElem_cons_zero,List.getElem_cons_succ,List.setIfInBounds_toArray,List.set_cons_zero,List.set_cons_succ])
     refine wpAnyH_take (i:=6) (v:=?_) rfl (by kernel_rfl) (by kernel_rfl) (by kernel_rfl) (fun _ _ _ h => h) (Or.inl ⟨by rfl,?_⟩) hS ?_
     rotate_left
     · (intro w' hS';go_simp;try with_reducible rfl)
     (try simp only [Act.put,List.getElem_toArray,List.getElem_cons_zero,List.getElem_cons_succ,List.setIfInBounds_toArray,List.set_cons_zero,List.set_cons_succ])
     refine wpAnyH_take (i:=7) (v:=?_) rfl (by kernel_rfl) (by kernel_rfl) (by kernel_rfl) (fun _ _ _ h => h) (Or.inl ⟨by rfl,?_⟩) hS ?_
     rotate_left
     · (intro w' hS';have hc : w'.cell? ⟨F,0,none⟩ = some (.bool f'.best.isSome):=hS'.1.at_ rfl;go_simp;try with_reducible rfl)
     (try simp only [Act.put,List.getElem_toArray,List.getElem_cons_zero,List.getElem_cons_succ,List.setIfInBounds_toArray,List.set_cons_zero,List.set_cons_succ])
     refine wpAnyH_take (i:=8) (v:=?_) rfl (by kernel_rfl) (by kernel_rfl) (by kernel_rfl) (fun _ _ _ h => h) (Or.inl ⟨by rfl,?_⟩) hS ?_
     rotate_left
     · (intro w' hS';go_simp;try with_reducible rfl)
     (try simp only [Act.put,List.getElem_toArray,List.getElem_cons_zero,List.getElem_cons_succ,List.setIfInBounds_toArray,List.set_cons_zero,List.set_cons_succ])
     refine wpAnyH_take (i:=9) (v:=?_) rfl (by kernel_rfl) (by kernel_rfl) (by kernel_rfl) (fun _ _ _ h => h) (Or.inl ⟨by rfl,?_⟩) hS ?_
     rotate_left
     · (intro w' hS';go_simp;try with_reducible rfl)
     (try simp only [Act.put,List.getElem_toArray,List.getElem_cons_zero,List.getElem_cons_succ,List.setIfInBounds_toArray,List.set_cons_zero,List.set_cons_succ])
     refine wpAnyH_take (i:=10) (v:=?_) rfl (by kernel_rfl) (by kernel_rfl) (by kernel_rfl) (fun _ _ _ h => h) (Or.inl ⟨by rfl,?_⟩) hS ?_
     rotate_left
     · (intro w' hS';go_simp;try with_reducible rfl)
     (try simp only [Act.put,List.getElem_toArray,List.getElem_cons_zero,List.getElem_cons_succ,List.setIfInBounds_toArray,List.set_cons_zero,List.set_cons_succ])
     refine wpAnyH_take (i:=11) (v:=?_) rfl (by kernel_rfl) (by kernel_rfl) (by kernel_rfl) (fun _ _ _ h => h) (Or.inl ⟨by rfl,?_⟩) hS ?_
     rotate_left
     · (intro w' hS';go_simp;try with_reducible rfl)
     (try simp only [Act.put,List.getElem_toArray,List.getElem_cons_zero,List.getElem_cons_succ,List.setIfInBounds_toArray,List.set_cons_zero,List.set_cons_succ])
     refine wpAnyH_take (i:=12) (v:=?_) rfl (by kernel_rfl) (by kernel_rfl) (by kernel_rfl) (fun _ _ _ h => h) (Or.inl ⟨by rfl,?_⟩) hS ?_
     rotate_left
     · (intro w' hS';have hc : w'.cell? ⟨F,21,none⟩ = some (.int .i64 f'.cost):=hS'.1.at_ rfl;go_simp;try with_reducible rfl)
     (try simp only [Act.put,List.getElem_toArray,List.getElem_cons_zero,List.getElem_cons_succ,List.setIfInBounds_toArray,List.set_cons_zero,List.set_cons_succ])
     refine wpAnyH_take (i:=13) (v:=?_) rfl (by kernel_rfl) (by kernel_rfl) (by kernel_rfl) (fun _ _ _ h => h) (Or.inl ⟨by rfl,?_⟩) hS ?_
     rotate_left
     · (intro w' hS';go_simp;try with_reducible rfl)
     (try simp only [Act.put,List.getElem_toArray,List.getElem_cons_zero,List.getElem_cons_succ,List.setIfInBounds_toArray,List.set_cons_zero,List.set_cons_succ])
     refine wpAnyH_ready (rs:=[14]) (by kernel_rfl) (by simp) ?_
     refine AllReadyH.cons rfl (fun K hK => ?_) AllReadyH.nil
     refine step_store_hit (.tmp 8) (.tmp 39) rfl rfl H1 rfl L.toArray rfl #[.int .i64 0,.int .i64 0,.int .i64 0,.int .i64 0,.int .i64 0,.int .i64 0,.int .i64 0,.int .i64 0,.int .i64 0,.int .i64 0,.int .i64 0,.int .i64 0,.int .i64 0,.int .i64 0,.int .i64 0,.int .i64 0,.int .i64 0,.int .i64 0,.int .i64 0,.int .i64 0] hHd.out (by rw [List.size_toArray,hLn.out]) rfl hLo.out ?_
     have hSb : SF1 F H0 (fndC f' i (f : Int)) w (w5.drew.setRow H1 L.toArray):=⟨hS.1.row_far hne.out.2 _,hgY.out _ hS.2 _⟩
     refine hK.out _ _ hSb (fun _ => ?_)
     clear hK K
     replace hS:=hSb
     (try simp only [Act.put,List.getElem_toArray,List.getElem_cons_zero,List.getElem_cons_succ,List.setIfInBounds_toArray,List.set_cons_zero,List.set_cons_succ])
     refine wpAnyH_take (i:=15) (v:=?_) rfl (by kernel_rfl) (by kernel_rfl) (by kernel_rfl) (fun _ _ _ h => h) (Or.inl ⟨by rfl,?_⟩) hS ?_
     rotate_left
     · (intro w' hS';go_simp;try with_reducible rfl)
     (try simp only [Act.put,List.getElem_toArray,List.getElem_cons_zero,List.getElem_cons_succ,List.setIfInBounds_toArray,List.set_cons_zero,List.set_cons_succ])
     refine wpAnyH_take (i:=16) (v:=?_) rfl (by kernel_rfl) (by kernel_rfl) (by kernel_rfl) (fun _ _ _ h => h) (Or.inl ⟨by rfl,?_⟩) hS ?_
     rotate_left
     · (intro w' hS';go_simp;try with_reducible rfl)
     (try simp only [Act.put,List.getElem_toArray,List.getElem_cons_zero,List.getElem_cons_succ,List.setIfInBounds_toArray,List.set_cons_zero,List.set_cons_succ])
     refine wpAnyH_take (i:=17) (v:=?_) rfl (by kernel_rfl) (by kernel_rfl) (by kernel_rfl) (fun _ _ _ h => h) (Or.inl ⟨by rfl,?_⟩) hS ?_
     rotate_left
     · (intro w' hS';go_simp;try with_reducible rfl)
     (try simp only [Act.put,List.getElem_toArray,List.getElem_cons_zero,List.getElem_cons_succ,List.setIfInBounds_toArray,List.set_cons_zero,List.set_cons_succ])
     refine wpAnyH_done (by kernel_rfl) ?_ _
     go_wp2
     exact bodyPost_ret (results_cell_four Try.results12 _ _ H1 31 L.toArray (0,0) _ rfl rfl rfl rfl (hHd.out.row _) Try.underlying31 rfl (by rw [List.size_toArray,hLn.out];exact size_hit)) rfl ⟨hok2.out,by rw [hHe.out];exact hS.2⟩
   · have d1 : decide ((f : Int) < f'.cost) = true:=decide_eq_true (by omega)
     have hok2:=lhi (AtP.fuel hok.out (htold.2 (by omega)))
     replace hcst:=lhi hcst
     replace hc:=lhi hc
     replace htold:=lhi htold
     go_wp2_with (first
      | (refine wpList_build_hit0 rfl rfl (hitC sp00) rfl ?_)
      | (refine wpList_store_row rfl 31 (.tmp 8) (.tmp 35) rfl H1 (hitC sp00) rfl rfl 31 _ hH5.out (by rw [hitC_size];exact size_hit) rfl (hit_cells _) ?_))
     exact bodyPost_ret (results_cell_four Try.results12 _ _ H1 31 (hitC sp00) (0,0) _ rfl rfl rfl rfl (hH5.out.row _) Try.underlying31 rfl (by rw [hitC_size];exact size_hit)) rfl ⟨hok2.out,by rw [hHe.out];exact hgY.out _ hbl.out _⟩
 · go_simp
   refine hK.out _ _ (hS.below ((Below.refl _ _).alloc (nlr _) (.cells #[.int .i64 0,.int .i64 ((n : Int) - 1),.int .i64 0,.int .i64 0] 66))) (fun _ => ?_)
   clear hK K
   replace hS:=hS.below ((Below.refl _ _).alloc (nlr _) (.cells #[.int .i64 0,.int .i64 ((n : Int) - 1),.int .i64 0,.int .i64 0] 66))
   (try simp only [Act.put,List.getElem_toArray,List.getElem_cons_zero,List.getElem_cons_succ,List.setIfInBounds_toArray,List.set_cons_zero,List.set_cons_succ])
   have hb3':=lhi (((Below.refl w2.heap.size w2).drew).trans ((Below.refl w2.drew.heap.size w2.drew).alloc (nlr _) (.cells #[.int .i64 0,.int .i64 ((n : Int) - 1),.int .i64 0,.int .i64 0] 66)))
   have hTr0:=lhi (trow_new w2.drew F [.node ((n : Int) - 1)] hFl.out)
   refine wpAnyH_ready (rs:=[4]) (by kernel_rfl) (by simp) ?_
   refine AllReadyH.cons rfl (fun K hK => ?_) AllReadyH.nil
   go_simp
   refine (rNone_any _).mono ?_
   rintro e w3 ⟨rfl,hb3⟩
   have hb4:=lhi (hb3'.out.trans (hb3.mono hb3'.out.size))
   have hTr:=lhi (hTr0.out.below hb3)
   go_simp
   refine hK.out _ _ (hS.below hb3) (fun _ => ?_)
   clear hK K
   replace hS:=hS.below hb3
   (try simp only [Act.put,List.getElem_toArray,List.getElem_cons_zero,List.getElem_cons_succ,List.setIfInBounds_toArray,List.set_cons_zero,List.set_cons_succ])
   refine wpAnyH_ready (rs:=[11]) (by kernel_rfl) (by simp) ?_
   refine AllReadyH.cons rfl (fun K hK => ?_) AllReadyH.nil
   go_simp
   refine (hWay.out _ _ _ _ (hSt.out.keep hb4.out) hTr.out rfl (nlr _) (by decide)).mono ?_
   rintro e w5 ⟨rfl,f',q1,q2,q3,q4,q5⟩
   go_simp
   refine hK.out _ _ (hS.grown q2 hne.out) (fun _ => ?_)
   clear hK K
   replace hS:=hS.grown q2 hne.out
   (try simp only [Act.put,List.getElem_toArray,List.getElem_cons_zero,List.getElem_cons_succ,List.setIfInBounds_toArray,List.set_cons_zero,List.set_cons_succ])
   refine wpAnyH_done (by kernel_rfl) ?_ _
   have hbl:=lhi (hgX.out _ _ (hb0.out.trans (hb4.out.mono (by have:=hb0.out.size;have:=hHe.out;omega))) q2)
   have hNn':=hNn.out
   have htold:=q3.told
   rw [hNn'] at htold
   have c21 : w5.cell? ⟨F,21,none⟩ = some (.int .i64 f'.cost):=q1.at_ rfl
   have hH5:=lhi hS.2
   have hq1:=lhi q1
   have hcst : 0 ≤ f'.cost:=q4
   have h3':=h3.out
   clear q1 q2 q3 q5 hS hSd hSt hWay hgX hTr hNn'
   by_cases hc : f'.cost ≤ (f : Int)
   · have d1 : decide ((f : Int) < f'.cost) = false:=decide_eq_false (by omega)
     obtain ⟨left,hl⟩ : ∃ left : Nat,(f : Int) - f'.cost = left:=⟨_,(Int.toNat_of_nonneg (by omega)).symm⟩
     have hw2 : IntKind.i64.wrap ((f : Int) - f'.cost) = (left : Int):=by rw [← hl];exact IntWalk.i64_in _ (by omega)
     have hT:=htold.1 hc
     rw [hl] at hT
     have hok2:=lhi (AtP.fine hok.out hT)
     have hRg:=lhi (fun (w' : World) (h' : Held w' F 62 (fndC f' i (f : Int))) => fnd_rangeA h')
     have hLn:=lhi (hitL_len (ansS f'.best))
     have hLC:=lhi (show hitC (ansS f'.best) = (hitL (ansS f'.best)).toArray from by unfold hitC;rfl)
     have hLo:=lhi (hit_cells (ansS f'.best))
     rw [hLC.out] at hok2 hLo
     replace hl:=lhi hl
     replace hcst:=lhi hcst
     replace hc:=lhi hc
     replace htold:=lhi htold
     replace hT:=lhi hT
     clear hLC
     go_wp2
     have hS0:=lhi (show SF1 F H0 (fndC f' i (f : Int)) w w5.drew from ⟨hq1.out.drew,hbl.out.drew⟩)
     have hHd:=lhi hH5.out.drew
     generalize hitL (ansS f'.best) = L at *
     refine wp_region_held_drew (S:=SF1 F H0 (fndC f' i (f : Int)) w) (by kernel_rfl) hS0.out (fun hS => ?_)
     refine wpAnyH_take (i:=0) (v:=?_) rfl (by kernel_rfl) (by kernel_rfl) (by kernel_rfl) (fun _ _ _ h => h) (Or.inl ⟨by rfl,?_⟩) hS ?_
     rotate_left
     · (intro w' hS';go_simp;try with_reducible rfl)
     (try simp only [Act.put,List.getElem_toArray,List.getElem_cons_zero,List.getElem_cons_succ,List.setIfInBounds_toArray,List.set_cons_zero,List.set_cons_succ])
     refine wpAnyH_take (i:=1) (v:=?_) rfl (by kernel_rfl) (by kernel_rfl) (by kernel_rfl) (fun _ _ _ h => h) (Or.inl ⟨by rfl,?_⟩) hS ?_
     rotate_left
     · (intro w' hS';go_simp;try with_reducible rfl)
     (try simp only [Act.put,List.getElem_toArray,List.getElem_cons_zero,List.getElem_cons_succ,List.setIfInBounds_toArray,List.set_cons_zero,List.set_cons_succ])
     refine wpAnyH_take (i:=2) (v:=?_) rfl (by kernel_rfl) (by kernel_rfl) (by kernel_rfl) (fun _ _ _ h => h) (Or.inl ⟨by rfl,?_⟩) hS ?_
     rotate_left
     · (intro w' hS';go_simp;try with_reducible rfl)
     (try simp only [Act.put,List.getElem_toArray,List.getElem_cons_zero,List.getElem_cons_succ,List.setIfInBounds_toArray,List.set_cons_zero,List.set_cons_succ])
     refine wpAnyH_take (i:=3) (v:=_) rfl (by kernel_rfl) (by kernel_rfl) (by kernel_rfl) (fun _ _ _ h => h) (yieldsIf_load_mid (by rfl) _ _ rfl (F) 1 rfl (L) _ (fun _ hS' => hRg.out _ hS'.1) Try.underlying31 rfl (by rw [hLn.out];exact size_hit)) hS ?_
     (try simp only [Act.put,List.getElem_toArray,List.getElem_cons_zero,List.getElem_cons_succ,List.setIfInBounds_toArray,List.set_cons_zero,List.set_cons_succ])
     refine wpAnyH_take (i:=4) (v:=?_) rfl (by kernel_rfl) (by kernel_rfl) (by kernel_rfl) (fun _ _ _ h => h) (Or.inl ⟨by rfl,?_⟩) hS ?_
     rotate_left
     · (intro w' hS';go_simp;try with_reducible rfl)
     (try simp only [Act.put,List.getElem_toArray,List.getElem_cons_zero,List.getElem_cons_succ,List.setIfInBounds_toArray,List.set_cons_zero,List.set_cons_succ])
     refine wpAnyH_take (i:=5) (v:=?_) rfl (by kernel_rfl) (by kernel_rfl) (by kernel_rfl) (fun _ _ _ h => h) (Or.inl ⟨by rfl,?_⟩) hS ?_
     rotate_left
     · (intro w' hS';go_simp;try with_reducible rfl)
     (try simp only [Act.put,List.getElem_toArray,List.getElem_cons_zero,List.getElem_cons_succ,List.setIfInBounds_toArray,List.set_cons_zero,List.set_cons_succ])
     refine wpAnyH_take (i:=6) (v:=?_) rfl (by kernel_rfl) (by kernel_rfl) (by kernel_rfl) (fun _ _ _ h => h) (Or.inl ⟨by rfl,?_⟩) hS ?_
     rotate_left
     · (intro w' hS';go_simp;try with_reducible rfl)
     (try simp only [Act.put,List.getElem_toArray,List.getElem_cons_zero,List.getElem_cons_succ,List.setIfInBounds_toArray,List.set_cons_zero,List.set_cons_succ])
     refine wpAnyH_take (i:=7) (v:=?_) rfl (by kernel_rfl) (by kernel_rfl) (by kernel_rfl) (fun _ _ _ h => h) (Or.inl ⟨by rfl,?_⟩) hS ?_
     rotate_left
     · (intro w' hS';have hc : w'.cell? ⟨F,0,none⟩ = some (.bool f'.best.isSome):=hS'.1.at_ rfl;go_simp;try with_reducible rfl)
     (try simp only [Act.put,List.getElem_toArray,List.getElem_cons_zero,List.getElem_cons_succ,List.setIfInBounds_toArray,List.set_cons_zero,List.set_cons_succ])
     refine wpAnyH_take (i:=8) (v:=?_) rfl (by kernel_rfl) (by kernel_rfl) (by kernel_rfl) (fun _ _ _ h => h) (Or.inl ⟨by rfl,?_⟩) hS ?_
     rotate_left
     · (intro w' hS';go_simp;try with_reducible rfl)
     (try simp only [Act.put,List.getElem_toArray,List.getElem_cons_zero,List.getElem_cons_succ,List.setIfInBounds_toArray,List.set_cons_zero,List.set_cons_succ])
     refine wpAnyH_take (i:=9) (v:=?_) rfl (by kernel_rfl) (by kernel_rfl) (by kernel_rfl) (fun _ _ _ h => h) (Or.inl ⟨by rfl,?_⟩) hS ?_
     rotate_left
     · (intro w' hS';go_simp;try with_reducible rfl)
     (try simp only [Act.put,List.getElem_toArray,List.getElem_cons_zero,List.getElem_cons_succ,List.setIfInBounds_toArray,List.set_cons_zero,List.set_cons_succ])
     refine wpAnyH_take (i:=10) (v:=?_) rfl (by kernel_rfl) (by kernel_rfl) (by kernel_rfl) (fun _ _ _ h => h) (Or.inl ⟨by rfl,?_⟩) hS ?_
     rotate_left
     · (intro w' hS';go_simp;try with_reducible rfl)
     (try simp only [Act.put,List.getElem_toArray,List.getElem_cons_zero,List.getElem_cons_succ,List.setIfInBounds_toArray,List.set_cons_zero,List.set_cons_succ])
     refine wpAnyH_take (i:=11) (v:=?_) rfl (by kernel_rfl) (by kernel_rfl) (by kernel_rfl) (fun _ _ _ h => h) (Or.inl ⟨by rfl,?_⟩) hS ?_
     rotate_left
     · (intro w' hS';go_simp;try with_reducible rfl)
     (try simp only [Act.put,List.getElem_toArray,List.getElem_cons_zero,List.getElem_cons_succ,List.setIfInBounds_toArray,List.set_cons_zero,List.set_cons_succ])
     refine wpAnyH_take (i:=12) (v:=?_) rfl (by kernel_rfl) (by kernel_rfl) (by kernel_rfl) (fun _ _ _ h => h) (Or.inl ⟨by rfl,?_⟩) hS ?_
     rotate_left
     · (intro w' hS';have hc : w'.cell? ⟨F,21,none⟩ = some (.int .i64 f'.cost):=hS'.1.at_ rfl;go_simp;try with_reducible rfl)
     (try simp only [Act.put,List.getElem_toArray,List.getElem_cons_zero,List.getElem_cons_succ,List.setIfInBounds_toArray,List.set_cons_zero,List.set_cons_succ])
     refine wpAnyH_take (i:=13) (v:=?_) rfl (by kernel_rfl) (by kernel_rfl) (by kernel_rfl) (fun _ _ _ h => h) (Or.inl ⟨by rfl,?_⟩) hS ?_
     rotate_left
     · (intro w' hS';go_simp;try with_reducible rfl)
     (try simp only [Act.put,List.getElem_toArray,List.getElem_cons_zero,List.getElem_cons_succ,List.setIfInBounds_toArray,List.set_cons_zero,List.set_cons_succ])
     refine wpAnyH_ready (rs:=[14]) (by kernel_rfl) (by simp) ?_
     refine AllReadyH.cons rfl (fun K hK => ?_) AllReadyH.nil
     refine step_store_hit (.tmp 8) (.tmp 39) rfl rfl H1 rfl L.toArray rfl #[.int .i64 0,.int .i64 0,.int .i64 0,.int .i64 0,.int .i64 0,.int .i64 0,.int .i64 0,.int .i64 0,.int .i64 0,.int .i64 0,.int .i64 0,.int .i64 0,.int .i64 0,.int .i64 0,.int .i64 0,.int .i64 0,.int .i64 0,.int .i64 0,.int .i64 0,.int .i64 0] hHd.out (by rw [List.size_toArray,hLn.out]) rfl hLo.out ?_
     have hSb : SF1 F H0 (fndC f' i (f : Int)) w (w5.drew.setRow H1 L.toArray):=⟨hS.1.row_far hne.out.2 _,hgY.out _ hS.2 _⟩
     refine hK.out _ _ hSb (fun _ => ?_)
     clear hK K
     replace hS:=hSb
     (try simp only [Act.put,List.getElem_toArray,List.getElem_cons_zero,List.getElem_cons_succ,List.setIfInBounds_toArray,List.set_cons_zero,List.set_cons_succ])
     refine wpAnyH_take (i:=15) (v:=?_) rfl (by kernel_rfl) (by kernel_rfl) (by kernel_rfl) (fun _ _ _ h => h) (Or.inl ⟨by rfl,?_⟩) hS ?_
     rotate_left
     · (intro w' hS';go_simp;try with_reducible rfl)
     (try simp only [Act.put,List.getElem_toArray,List.getElem_cons_zero,List.getElem_cons_succ,List.setIfInBounds_toArray,List.set_cons_zero,List.set_cons_succ])
     refine wpAnyH_take (i:=16) (v:=?_) rfl (by kernel_rfl) (by kernel_rfl) (by kernel_rfl) (fun _ _ _ h => h) (Or.inl ⟨by rfl,?_⟩) hS ?_
     rotate_left
     · (intro w' hS';go_simp;try with_reducible rfl)
     (try simp only [Act.put,List.getElem_toArray,List.getElem_cons_zero,List.getElem_cons_succ,List.setIfInBounds_toArray,List.set_cons_zero,List.set_cons_succ])
     refine wpAnyH_take (i:=17) (v:=?_) rfl (by kernel_rfl) (by kernel_rfl) (by kernel_rfl) (fun _ _ _ h => h) (Or.inl ⟨by rfl,?_⟩) hS ?_
     rotate_left
     · (intro w' hS';go_simp;try with_reducible rfl)
     (try simp only [Act.put,List.getElem_toArray,List.getElem_cons_zero,List.getElem_cons_succ,List.setIfInBounds_toArray,List.set_cons_zero,List.set_cons_succ])
     refine wpAnyH_done (by kernel_rfl) ?_ _
     go_wp2
     exact bodyPost_ret (results_cell_four Try.results12 _ _ H1 31 L.toArray (0,0) _ rfl rfl rfl rfl (hHd.out.row _) Try.underlying31 rfl (by rw [List.size_toArray,hLn.out];exact size_hit)) rfl ⟨hok2.out,by rw [hHe.out];exact hS.2⟩
   · have d1 : decide ((f : Int) < f'.cost) = true:=decide_eq_true (by omega)
     have hok2:=lhi (AtP.fuel hok.out (htold.2 (by omega)))
     replace hcst:=lhi hcst
     replace hc:=lhi hc
     replace htold:=lhi htold
     go_wp2_with (first
      | (refine wpList_build_hit0 rfl rfl (hitC sp00) rfl ?_)
      | (refine wpList_store_row rfl 31 (.tmp 8) (.tmp 35) rfl H1 (hitC sp00) rfl rfl 31 _ hH5.out (by rw [hitC_size];exact size_hit) rfl (hit_cells _) ?_))
     exact bodyPost_ret (results_cell_four Try.results12 _ _ H1 31 (hitC sp00) (0,0) _ rfl rfl rfl rfl (hH5.out.row _) Try.underlying31 rfl (by rw [hitC_size];exact size_hit)) rfl ⟨hok2.out,by rw [hHe.out];exact hgY.out _ hbl.out _⟩
end
end Go.Proofs.Ytjopmieaikgbcaa
