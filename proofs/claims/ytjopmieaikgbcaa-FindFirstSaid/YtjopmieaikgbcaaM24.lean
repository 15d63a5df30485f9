/- Contracts and plain facts: M24. -/
import Derived.Test.YtjopmieaikgbcaaM23
set_option linter.unusedVariables false
set_option linter.unusedSimpArgs false
set_option maxRecDepth 100000
set_option maxHeartbeats 32000000
namespace Go.Proofs.Ytjopmieaikgbcaa
open Go.RowKit Go.Shelf
attribute [local go_sem] Oper.semAt_some
def SIt (b1 S : Nat) (SC : Array Value) (a0 : Int) (b2 : Nat) (w' : World) : Prop:=Held w' b1 98 #[.pointer (some ⟨S,0,none⟩)] ∧ Held w' S 74 SC ∧ Held w' b2 3 #[.int .i64 a0]
theorem SIt.below {b1 S b2 : Nat} {SC : Array Value} {a0 : Int} {w1 w2 : World} (h : SIt b1 S SC a0 b2 w1) (hb : Below w1.heap.size w1 w2) : SIt b1 S SC a0 b2 w2:=⟨h.1.keep hb,h.2.1.keep hb,h.2.2.keep hb⟩
section
variable {X : Nat → Prop} {B S b1 b2 : Nat} {An : Option Addr} {nn cn : Nat} {At : Option Addr} {nt ct : Nat} {ns : List Nod} {t : List UInt8} {g M0 : Int} {a0 : Nat}
theorem iter_any (l : Nat) (J Jx : List Spn → World → Prop) (hJ : ∀ pre A C,J pre A → A.grownBy C (some S) → J pre C)
    (hY : ∀ pre s left W1,Yld ns t g a0 M0 pre s left → Srf W1 B S An nn cn At nt ct ns t g left false → J pre W1 → YieldAt Fence.wide 2 Try.prog l #[.agg (hitC s)] W1 fun e W' => (e = .returned (.bool true) ∧ J (pre ++ [s]) W' ∧ Kpt X W1 W') ∨ (e = .returned (.bool false) ∧ Jx (pre ++ [s]) W'))
    (w : World) (hs : Srf w B S An nn cn At nt ct ns t g M0 false) (hb1 : Held w b1 98 #[.pointer (some ⟨S,0,none⟩)]) (hb2 : Held w b2 3 #[.int .i64 (a0 : Int)]) (h0 : J [] w) (hr : rightN ns g = true) (ha : a0 ≤ t.length) (hm0 : 0 ≤ M0) (hm1 : M0 ≤ 999999) (hXB : ∀ k,k < B → ¬ X k) (hXS : ¬ X S) (hX1 : ¬ X b1) (hS1 : S ≠ b1) :
    Calls Try.prog 42 #[.func (.yield l) #[] #[],.pointer (some ⟨b1,0,none⟩),.pointer (some ⟨b2,0,none⟩)] w fun e W' => e = .returned (.tuple #[]) ∧
     ((∃ xs left sh,Done12 ns t g a0 M0 xs left sh ∧ J xs W' ∧ Srf W' B S An nn cn At nt ct ns t g left sh) ∨
      (∃ pre s left,Yld ns t g a0 M0 pre s left ∧ Jx (pre ++ [s]) W')):=by
 have hrt:=right_rt hr
 have hn1k : 1 ≤ ns.length ∧ ns.length ≤ 1000:=by
  unfold rightN at hr
  simp only [Bool.and_eq_true,decide_eq_true_eq] at hr
  exact ⟨hr.1.1.1.1,hr.1.1.1.2⟩
 have hlb:=least_bounds (ns:=ns) (g:=g)
 have hLs:=lhi (fun w' (hb : Below w.heap.size w w') => treeLeast_any An nn cn ns g B w' hs.inn.hn hs.inn.hnc hs.inn.hcm (Nat.le_trans hs.inn.base hb.size) (hs.inn.nods.below (hb.mono hs.inn.base)))
 have hnt:=hs.inn.hn2
 have htl:=hs.inn.hl2
 have hw1 : IntKind.i64.wrap ((nt : Int) - leastNs ns g) = lastP ns t g:=by unfold lastP;rw [hnt];exact IntWalk.i64_in _ (by omega)
 have hlast:=lhi (show -65537 ≤ lastP ns t g ∧ lastP ns t g ≤ t.length ∧ t.length ≤ 1000000 by unfold lastP;omega)
 have hnl:=lhi hnt
 replace hlb:=lhi hlb
 replace ha:=lhi ha
 replace hm0:=lhi (And.intro hm0 hm1)
 replace hrt:=lhi (And.intro hrt hn1k)
 have hss:=lhi hs
 have hbb:=lhi hb1
 have hjj:=lhi h0
 have hrr:=lhi hr
 have hSd:=lhi (show SIt b1 S (fsC An nn cn g At nt ct M0 false) (a0 : Int) b2 w.drew from ⟨hb1.drew,hs.held.drew,hb2.drew⟩)
 generalize leastNs ns g = le at *
 clear hnt htl hn1k hs hb1 hb2 h0 hr hm1
 go_enter Try.func42,Try.ntmps42
 go_wp2
 refine wp_region_held_drew (S:=SIt b1 S (fsC An nn cn g At nt ct M0 false) (a0 : Int) b2) (by kernel_rfl) hSd.out (fun hS => ?_)
 refine wpAnyH_take (i:=0) (v:=?_) rfl (by kernel_rfl) (by kernel_rfl) (by kernel_rfl) (fun _ _ _ h => h) (Or.inl ⟨by rfl,?_⟩) hS ?_
 rotate_left
 · (intro w' hS';have hc : w'.cell? ⟨b1,0,none⟩ = some (.pointer (some ⟨S,0,none⟩)):=hS'.1.at_ rfl;go_simp;try with_reducible rfl)
 (try simp only [Act.put,List.getElem_toArray,List.getElem_cons_zero,List.getElem_cons_succ,List.setIfInBounds_toArray,List.set_cons_zero,List.set_cons_succ])
 refine wpAnyH_take (i:=1) (v:=?_) rfl (by kernel_rfl) (by kernel_rfl) (by kernel_rfl) (fun _ _ _ h => h) (Or.inl ⟨by rfl,?_⟩) hS ?_
 rotate_left
 · (intro w' hS';go_simp;try with_reducible rfl)
 (try simp only [Act.put,List.getElem_toArray,List.getElem_cons_zero,List.getElem_cons_succ,List.setIfInBounds_toArray,List.set_cons_zero,List.set_cons_succ])
 refine wpAnyH_take (i:=2) (v:=?_) rfl (by kernel_rfl) (by kernel_rfl) (by kernel_rfl) (fun _ _ _ h => h) (Or.inl ⟨by rfl,?_⟩) hS ?_
 rotate_left
 · (intro w' hS';go_simp;try with_reducible rfl)
 (try simp only [Act.put,List.getElem_toArray,List.getElem_cons_zero,List.getElem_cons_succ,List.setIfInBounds_toArray,List.set_cons_zero,List.set_cons_succ])
 refine wpAnyH_take (i:=3) (v:=?_) rfl (by kernel_rfl) (by kernel_rfl) (by kernel_rfl) (fun _ _ _ h => h) (Or.inl ⟨by rfl,?_⟩) hS ?_
 rotate_left
 · (intro w' hS';have hc : w'.cell? ⟨S,2,none⟩ = some (.slice At nt ct):=hS'.2.1.at_ rfl;go_simp;try with_reducible rfl)
 (try simp only [Act.put,List.getElem_toArray,List.getElem_cons_zero,List.getElem_cons_succ,List.setIfInBounds_toArray,List.set_cons_zero,List.set_cons_succ])
 refine wpAnyH_take (i:=4) (v:=?_) rfl (by kernel_rfl) (by kernel_rfl) (by kernel_rfl) (fun _ _ _ h => h) (Or.inl ⟨by rfl,?_⟩) hS ?_
 rotate_left
 · (intro w' hS';go_simp;try with_reducible rfl)
 (try simp only [Act.put,List.getElem_toArray,List.getElem_cons_zero,List.getElem_cons_succ,List.setIfInBounds_toArray,List.set_cons_zero,List.set_cons_succ])
 refine wpAnyH_take (i:=5) (v:=?_) rfl (by kernel_rfl) (by kernel_rfl) (by kernel_rfl) (fun _ _ _ h => h) (Or.inl ⟨by rfl,?_⟩) hS ?_
 rotate_left
 · (intro w' hS';have hc : w'.cell? ⟨b1,0,none⟩ = some (.pointer (some ⟨S,0,none⟩)):=hS'.1.at_ rfl;go_simp;try with_reducible rfl)
 (try simp only [Act.put,List.getElem_toArray,List.getElem_cons_zero,List.getElem_cons_succ,List.setIfInBounds_toArray,List.set_cons_zero,List.set_cons_succ])
 refine wpAnyH_take (i:=6) (v:=?_) rfl (by kernel_rfl) (by kernel_rfl) (by kernel_rfl) (fun _ _ _ h => h) (Or.inl ⟨by rfl,?_⟩) hS ?_
 rotate_left
 · (intro w' hS';go_simp;try with_reducible rfl)
 (try simp only [Act.put,List.getElem_toArray,List.getElem_cons_zero,List.getElem_cons_succ,List.setIfInBounds_toArray,List.set_cons_zero,List.set_cons_succ])
 refine wpAnyH_take (i:=7) (v:=?_) rfl (by kernel_rfl) (by kernel_rfl) (by kernel_rfl) (fun _ _ _ h => h) (Or.inl ⟨by rfl,?_⟩) hS ?_
 rotate_left
 · (intro w' hS';go_simp;try with_reducible rfl)
 (try simp only [Act.put,List.getElem_toArray,List.getElem_cons_zero,List.getElem_cons_succ,List.setIfInBounds_toArray,List.set_cons_zero,List.set_cons_succ])
 refine wpAnyH_take (i:=8) (v:=?_) rfl (by kernel_rfl) (by kernel_rfl) (by kernel_rfl) (fun _ _ _ h => h) (Or.inl ⟨by rfl,?_⟩) hS ?_
 rotate_left
 · (intro w' hS';have hc : w'.cell? ⟨S,0,none⟩ = some (.slice An nn cn):=hS'.2.1.at_ rfl;have hc1 : w'.cell? ⟨S,1,none⟩ = some (.int .i64 g):=hS'.2.1.at_ rfl;go_simp;try with_reducible rfl)
 (try simp only [Act.put,List.getElem_toArray,List.getElem_cons_zero,List.getElem_cons_succ,List.setIfInBounds_toArray,List.set_cons_zero,List.set_cons_succ])
 refine wpAnyH_ready (rs:=[9]) (by kernel_rfl) (by simp) ?_
 refine AllReadyH.cons rfl (fun K hK => ?_) AllReadyH.nil
 go_simp
 refine (hLs.out _ ((Below.refl w.heap.size w).drew)).mono ?_
 rintro e w2 ⟨rfl,hb3⟩
 go_simp
 refine hK.out _ _ (hS.below hb3) (fun _ => ?_)
 clear hK K
 replace hS:=hS.below hb3
 (try simp only [Act.put,List.getElem_toArray,List.getElem_cons_zero,List.getElem_cons_succ,List.setIfInBounds_toArray,List.set_cons_zero,List.set_cons_succ])
 refine wpAnyH_take (i:=10) (v:=?_) rfl (by kernel_rfl) (by kernel_rfl) (by kernel_rfl) (fun _ _ _ h => h) (Or.inl ⟨by rfl,?_⟩) hS ?_
 rotate_left
 · (intro w' hS';go_simp;try with_reducible rfl)
 (try simp only [Act.put,List.getElem_toArray,List.getElem_cons_zero,List.getElem_cons_succ,List.setIfInBounds_toArray,List.set_cons_zero,List.set_cons_succ])
 refine wpAnyH_take (i:=11) (v:=?_) rfl (by kernel_rfl) (by kernel_rfl) (by kernel_rfl) (fun _ _ _ h => h) (Or.inl ⟨by rfl,?_⟩) hS ?_
 rotate_left
 · (intro w' hS';go_simp;try with_reducible rfl)
 (try simp only [Act.put,List.getElem_toArray,List.getElem_cons_zero,List.getElem_cons_succ,List.setIfInBounds_toArray,List.set_cons_zero,List.set_cons_succ])
 refine wpAnyH_done (by kernel_rfl) ?_ _
 have hb4:=lhi (((Below.refl w.heap.size w).drew).trans (hb3.mono (nlr _)))
 have c2 : w2.cell? ⟨b2,0,none⟩ = some (.int .i64 (a0 : Int)):=hS.2.2.at_ rfl
 have hs2:=lhi (hss.out.keep hb4.out)
 have hx2:=lhi hS.1
 have hj2:=lhi (hJ [] w w2 hjj.out (grown_of hb4.out _))
 clear hS hb3 hSd hLs hss hbb hjj hb4 hw1
 go_wp2
 go_loopw [5,6] (fun ve va wr => RelFi w B S b1 b2 An nn cn At nt ct ns t g a0 M0 J ve va wr) (fun _ va _ => (lastP ns t g + 1 - intOf va).toNat)
 case atStart => exact RelFi.mk ⟨[],a0,-1,M0,rfl,rfl,.refl,by have:=ha.out;omega,⟨by omega,by omega⟩,hm0.out,hs2.out,hx2.out,hj2.out⟩
 case round =>
  obtain ⟨pre,a,e,M,rfl,rfl,hP,haL,heL,hM,hsr,hbx,hjp⟩:=hrel
  by_cases hle : (a : Int) ≤ lastP ns t g
  · have hd : decide ((a : Int) ≤ lastP ns t g) = true:=decide_eq_true hle
    have haT : a ≤ t.length:=by have:=hlast.out;omega
    have c1 : wr.cell? ⟨b1,0,none⟩ = some (.pointer (some ⟨S,0,none⟩)):=hbx.at_ rfl
    have hTry:=lhi (try_any hsr hrr.out a haT hM.1 hM.2)
    have hss:=lhi hsr
    have hbb:=lhi hbx
    have hjj:=lhi hjp
    have hPp:=lhi hP
    have hrn:=lhi (And.intro haL (And.intro heL hM))
    replace hle:=lhi hle
    replace haT:=lhi haT
    clear hsr hbx hjp hP haL heL hM
    go_upto_region 5 with (first
     | (go_at_call 44;refine (hTry.out).mono ?_;rintro e3 w3 ⟨s,b,left',sh,rfl,hT,hsr3,hg3⟩;have hnull:=lhi (held_new w3 31 #[.int .i64 0,.int .i64 0,.int .i64 0,.int .i64 0,.int .i64 0,.int .i64 0,.int .i64 0,.int .i64 0,.int .i64 0,.int .i64 0,.int .i64 0,.int .i64 0,.int .i64 0,.int .i64 0,.int .i64 0,.int .i64 0,.int .i64 0,.int .i64 0,.int .i64 0,.int .i64 0]))
     | (refine wpList_store_row rfl 31 (.tmp 7) (.tmp 29) rfl w3.heap.size (hitC s) rfl rfl 31 _ hnull.out (by rw [hitC_size];exact size_hit) rfl (hit_cells _) ?_))
    have hH4:=lhi (hnull.out.row (hitC s))
    have hb4:=lhi (below_row ((Below.refl w3.heap.size w3).alloc (nlr _) (.cells #[.int .i64 0,.int .i64 0,.int .i64 0,.int .i64 0,.int .i64 0,.int .i64 0,.int .i64 0,.int .i64 0,.int .i64 0,.int .i64 0,.int .i64 0,.int .i64 0,.int .i64 0,.int .i64 0,.int .i64 0,.int .i64 0,.int .i64 0,.int .i64 0,.int .i64 0,.int .i64 0] 31)) (nlr _) (hitC s))
    have hg4:=lhi (grown_then hg3 hb4.out)
    have hs4:=lhi (hsr3.keep hb4.out)
    generalize (w3.alloc (.cells #[.int .i64 0,.int .i64 0,.int .i64 0,.int .i64 0,.int .i64 0,.int .i64 0,.int .i64 0,.int .i64 0,.int .i64 0,.int .i64 0,.int .i64 0,.int .i64 0,.int .i64 0,.int .i64 0,.int .i64 0,.int .i64 0,.int .i64 0,.int .i64 0,.int .i64 0,.int .i64 0] 31)).setRow w3.heap.size (hitC s) = w4 at *
    have hx4:=lhi (hbb.out.grown hg4.out (fun e => hS1 (Option.some.inj e).symm))
    have hj4:=lhi (hJ pre wr w4 hjj.out hg4.out)
    have c1' : w4.cell? ⟨b1,0,none⟩ = some (.pointer (some ⟨S,0,none⟩)):=hx4.out.at_ rfl
    have c4 : w4.cell? ⟨S,4,none⟩ = some (.bool sh):=hs4.out.held.at_ rfl
    have ce : w4.cell? ⟨w3.heap.size,1,none⟩ = some (.int .i64 (s 0).2):=hH4.out.at_ rfl
    have hw2 : IntKind.i64.wrap ((a : Int) + 1) = (a : Int) + 1:=by have:=haT.out;have:=hlast.out;exact IntWalk.i64_in _ (by omega)
    clear hTry hnull hg3 hsr3 hb4 c1 hss hbb hjj
    generalize w3.heap.size = KH at *
    cases hT with
    | bad hx =>
     have hA:=lhi (show Done12 ns t g a0 M0 pre 0 true from ⟨a,e,M,hPp.out,.inr ⟨rfl,hle.out,hx⟩⟩)
     replace hx:=lhi hx
     go_wp2
     exact bodyPost_ret (results_none rfl _ _ _) rfl ⟨rfl,.inl ⟨pre,0,true,hA.out,hj4.out,hs4.out⟩⟩
    | @fine b' _ hl0 hx =>
     have hlM:=lhi (told_left hx)
     cases b' with
     | none =>
      have hP2:=lhi (hPp.out.miss hle.out hx)
      replace hx:=lhi hx
      replace hl0:=lhi hl0
      go_wp2
      go_roundw
      case rel => exact RelFi.mk ⟨pre,a + 1,e,left',rfl,rfl,hP2.out,by have:=haT.out;omega,hrn.out.2.1,⟨hl0.out,by have:=hlM.out;have:=hrn.out.2.2;omega⟩,hs4.out,hx4.out,hj4.out⟩
      case measure => have h1:=hle.out;simp [intOf];omega
     | some m =>
      have hsp:=told_span hrt.out.1 hrt.out.2.1 haT.out hx
      have hm0' : (m 0).1 = (a : Int) ∧ (a : Int) ≤ (m 0).2 ∧ (m 0).2 ≤ (t.length : Int):=⟨hsp.1,hsp.2.1,hsp.2.2.1⟩
      clear hsp
      by_cases hlt : e < (m 0).2
      · have hyld:=lhi (show Yld ns t g a0 M0 pre m left' from ⟨a,e,M,hPp.out,hle.out,hx,hlt⟩)
        obtain ⟨b,hb⟩:=Int.eq_ofNat_of_zero_le (show 0 ≤ max ((a : Int) + 1) (m 0).2 by omega)
        have hP2:=lhi (hPp.out.take hle.out hx hlt hb.symm)
        have hY4:=lhi (hY pre m left' w4 hyld.out hs4.out hj4.out)
        have hdl : decide (e < (m 0).2) = true:=decide_eq_true hlt
        replace hx:=lhi hx
        replace hl0:=lhi hl0
        have hmm:=lhi (And.intro hm0' hlt)
        have hC20:=lhi (hitC_size m)
        have hHm:=lhi (show Held w4 KH 31 (hitC m) from hH4.out)
        have hbh:=lhi hb
        have ce' : w4.cell? ⟨KH,1,none⟩ = some (.int .i64 (m 0).2):=ce
        clear hb hlt hm0' ce hH4
        go_upto_region 9 with fail
        obtain ⟨fn,tmps,assign,body,hyl,hR⟩:=hY4.out
        refine wpIn_wide (n:=3).1 ?_
        generalize hCM : hitC m = CM at *
        gi_wp2_with (first
         | (refine wpListIn_load_blk rfl 31 (.tmp 7) rfl KH rfl 31 CM _ hHm.out Try.underlying31 rfl (by rw [hC20.out];exact size_hit) ?_))
        refine hR.mono ?_
        rintro e5 w5 (⟨rfl,hj5,hk5⟩ | ⟨rfl,hjx⟩)
        · gi_wp2
          have hs5:=lhi (hs4.out.kpt hk5 hXB hXS)
          have hx5:=lhi (hk5.held hx4.out hX1)
          have hjh:=lhi hj5
          clear hk5 hj5 hyl hR
          go_wp2
          go_roundw
          case rel => exact RelFi.mk ⟨pre ++ [m],b,(m 0).2,left',rfl,by rw [hbh.out],hP2.out,by have:=hbh.out;have:=haT.out;have:=hmm.out;omega,⟨by have:=hmm.out;omega,by have:=hmm.out;omega⟩,⟨hl0.out,by have:=hlM.out;have:=hrn.out.2.2;omega⟩,hs5.out,hx5.out,hjh.out⟩
          case measure => have h1:=hle.out;have h2:=hbh.out;simp [intOf];omega
        · gi_wp2
          have hjh:=lhi hjx
          clear hjx hyl hR
          go_wp2
          exact bodyPost_ret (results_none rfl _ _ _) rfl ⟨rfl,.inr ⟨pre,m,left',hyld.out,hjh.out⟩⟩
      · have hP2:=lhi (hPp.out.drop hle.out hx (by omega))
        have hdl : decide (e < (m 0).2) = false:=decide_eq_false hlt
        replace hx:=lhi hx
        replace hl0:=lhi hl0
        have ce' : w4.cell? ⟨KH,1,none⟩ = some (.int .i64 (m 0).2):=ce
        replace hm0':=lhi hm0'
        replace hlt:=lhi hlt
        clear ce
        go_wp2
        go_roundw
        case rel => exact RelFi.mk ⟨pre,a + 1,e,left',rfl,rfl,hP2.out,by have:=haT.out;omega,hrn.out.2.1,⟨hl0.out,by have:=hlM.out;have:=hrn.out.2.2;omega⟩,hs4.out,hx4.out,hj4.out⟩
        case measure => have h1:=hle.out;simp [intOf];omega
  · have hd : decide ((a : Int) ≤ lastP ns t g) = false:=decide_eq_false hle
    have hA:=lhi (show Done12 ns t g a0 M0 pre M false from ⟨a,e,M,hP,.inl ⟨rfl,by omega,rfl⟩⟩)
    have hss:=lhi hsr
    have hjj:=lhi hjp
    clear hsr hbx hjp hP haL heL hM hle
    go_wp2
    go_end0
    exact ⟨rfl,.inl ⟨pre,M,false,hA.out,hjj.out,hss.out⟩⟩
end
end Go.Proofs.Ytjopmieaikgbcaa
namespace Go.Proofs.Ytjopmieaikgbcaa
open Go.RowKit Go.Shelf
def rPost (X : Nat → Prop) (l D : Nat) (I : List Spn → World → Prop) (Ix : Nat → List Spn → World → Prop) (xs : List Spn) (W : World) : Exit → Act → World → Prop
 | .normal,_,W' => Kpt X W W' ∧ (W'.heap[l]? = W.heap[l]? ∧ W'.heap[D]? = W.heap[D]?) ∧ I xs W'
 | .exit id,_,W' => (W'.heap[l]? = W.heap[l]? ∧ W'.heap[D]? = W.heap[D]?) ∧ Ix id xs W'
 | .ret,_,_ => False
 | .goto _,_,_ => False
 | .panic _,_,_ => False
 | .outgrown,_,_ => False
theorem Kpt.trans {X : Nat → Prop} {A B C : World} (h : Kpt X A B) (k : Kpt X B C) : Kpt X A C :=
 ⟨k.os.trans h.os,k.tape.trans h.tape,k.output.trans h.output,Nat.le_trans h.size k.size,fun i hi hx => (k.block i (nll hi h.size) hx).trans (h.block i hi hx)⟩
theorem Kpt.of_grown {X : Nat → Prop} {A B : World} {r : Nat} (h : A.grownBy B (some r)) (hx : X r) : Kpt X A B:=⟨h.os,h.tape,h.output,h.size,fun k hk hn => h.block k hk (fun e => hn ((Option.some.inj e) ▸ hx))⟩
theorem Srf.turned' {w w' : World} {B S r : Nat} {An : Option Addr} {nn cn : Nat} {At : Option Addr} {nt ct : Nat} {ns : List Nod} {t : List UInt8} {g left : Int} {short : Bool} (h : Srf w B S An nn cn At nt ct ns t g left short) (hg : w.grownBy w' (some r)) (hB : B ≤ r) (hS : S ≠ r) : Srf w' B S An nn cn At nt ct ns t g left short :=
 ⟨h.held.grown hg (fun e => hS (Option.some.inj e)),h.inn.below ((Below.refl B w).grown hg h.inn.base (fun k e => by cases e;exact hB)),h.base⟩
theorem grown_putObj (W : World) (l : Nat) (o : Obj) : W.grownBy (W.putObj l o) (some l):=grownBy_putObj' W l o
theorem wp_rangeFind {g : Operand} {ps : Array Tmp} {assign body : Code} {Q : Exit → Act → World → Prop} {a : Act} {w : World}
    {Y : Nat → Prop} {B S b1 b2 : Nat} {An : Option Addr} {nn cn : Nat} {At : Option Addr} {nt ct : Nat} {ns : List Nod} {t : List UInt8} {gr M0 : Int} {a0 : Nat}
    (hg : a.eval g = .func (.func 42) #[] #[.pointer (some ⟨b1,0,none⟩),.pointer (some ⟨b2,0,none⟩)]) (hps : ps.size = 1)
    (hs : Srf w B S An nn cn At nt ct ns t gr M0 false) (hb1 : Held w b1 98 #[.pointer (some ⟨S,0,none⟩)]) (hb2 : Held w b2 3 #[.int .i64 (a0 : Int)])
    (hr : rightN ns gr = true) (ha : a0 ≤ t.length) (hm0 : 0 ≤ M0) (hm1 : M0 ≤ 999999) (hYB : ∀ k,k < B → ¬ Y k) (hYS : ¬ Y S) (hY1 : ¬ Y b1) (hS1 : S ≠ b1)
    (I : List Spn → World → Prop) (Ix : Nat → List Spn → World → Prop)
    (hI : ∀ pre A C r,I pre A → A.grownBy C (some r) → (r = S ∨ r = w.heap.size ∨ r = w.heap.size + 1) → I pre C)
    (hIx : ∀ id pre A C,Ix id pre A → A.grownBy C (some (w.heap.size + 1)) → Ix id pre C) (h0 : I [] w)
    (hround : ∀ pre s left W,Yld ns t gr a0 M0 pre s left → Srf W B S An nn cn At nt ct ns t gr left false → I pre W → w.heap.size + 2 ≤ W.heap.size →
     assign.wpIn (Fence.wide.inRound (w.heap.size + 1)) 2 Try.prog (Exit.then (fun a₁ w₁ => Kpt (fun k => Y k ∨ w.heap.size ≤ k) W w₁ ∧ (w₁.heap[w.heap.size + 1]? = W.heap[w.heap.size + 1]? ∧ w₁.heap[w.heap.size]? = W.heap[w.heap.size]?) ∧
         ∀ w₂,w₁.grownBy w₂ (some (w.heap.size + 1)) → body.wpIn (Fence.wide.inRound (w.heap.size + 1)) 2 Try.prog (rPost (fun k => Y k ∨ w.heap.size ≤ k) (w.heap.size + 1) w.heap.size I Ix (pre ++ [s]) w₂) a₁ w₂) (fun _ _ _ => False))
      { tmps:=(ps.zip #[.agg (hitC s)]).foldl (fun t (p,v) => t.setIfInBounds p v) a.tmps,defers:=[] } W)
    (hdone : ∀ (xs : List Spn) (left : Int) (sh : Bool) (W : World),Done12 ns t gr a0 M0 xs left sh → Srf W B S An nn cn At nt ct ns t gr left sh → I xs W → W.heap[w.heap.size]? = some (.deferred (some [])) →
     Q .normal { a with defers:={ target:=.collected w.heap.size,args:=#[] } :: a.defers } W)
    (hstop : ∀ (id : Nat) (pre : List Spn) (s : Spn) (left : Int) (W : World),Yld ns t gr a0 M0 pre s left → Ix id (pre ++ [s]) W → W.heap[w.heap.size]? = some (.deferred (some [])) →
     (Code.exit id).wp Try.prog Q { a with defers:={ target:=.collected w.heap.size,args:=#[] } :: a.defers } W) :
    (Code.rangeFunc g ps assign body).wp Try.prog Q a w:=by
 refine wpIn_wide (n:=3).1 (wpIn_rangeFunc ?_)
 intro fn hfn
 obtain ⟨rec,hrec⟩ : ∃ rec : LoopState → Option Code → Loop,rec = fun st pe => { state:=st,pending:=pe,fn,tmps:=a.tmps,params:=ps,assign,body,defers:=w.heap.size }:=⟨_,rfl⟩
 obtain ⟨W1,hW1⟩ : ∃ W1,(w.alloc (.deferred (some []))).alloc (.loop (rec .ready none)) = W1:=⟨_,rfl⟩
 have hL1 : W1.heap[w.heap.size + 1]? = some (.loop (rec .ready none)):=by
  rw [← hW1];have:=World.alloc_heap_new (w.alloc (.deferred (some []))) (.loop (rec .ready none));rwa [World.size_alloc] at this
 have hK1 : W1.heap[w.heap.size]? = some (.deferred (some [])):=by
  rw [← hW1];exact (Below.heap_alloc _ _ _ (by simp)).trans (World.alloc_heap_new w _)
 have hb : Below w.heap.size w W1:=by
  rw [← hW1];exact ((Below.refl _ w).alloc (nlr _) _).alloc (by simp) _
 have hSw:=hs.held.lt
 have hI1 : I [] W1:=hI [] w W1 S h0 (grown_of hb _) (.inl rfl)
 have hn1 : Enters Try.prog 42:=enters_of Try.func42 (by kernel_rfl) rfl
 refine ⟨w.heap.size + 1,[{ target:=.collected w.heap.size,args:=#[] }],W1,{ target:=.fn (.func 42) #[.pointer (some ⟨b1,0,none⟩),.pointer (some ⟨b2,0,none⟩)],args:=#[.func (.yield (w.heap.size + 1)) #[] #[]] },W1,42,
  #[.func (.yield (w.heap.size + 1)) #[] #[]] ++ #[.pointer (some ⟨b1,0,none⟩),.pointer (some ⟨b2,0,none⟩)],W1,?_,?_,?_,?_,fun _ => by decide,?_⟩
 · rw [← hW1,hrec];exact run_enterLoop_outer _ _ _ _ _
 · simp only [resolve,hg]
   simp [go_sem]
 · intro f' hf';trivial
 · have hn2:=hn1
   simp [invoke,go_sem,hn2 _ _]
 · refine callsIn_wide.2 ?_
   have hlt1 : w.heap.size + 1 < W1.heap.size:=(Array.getElem?_eq_some_iff.1 hL1).1
   have hkk : ∀ {A C : World} {r : Nat} {o : Obj},A.grownBy C (some r) → r = S → A.heap[w.heap.size]? = some o → C.heap[w.heap.size]? = some o:=fun h e ho => (h.block _ (Array.getElem?_eq_some_iff.1 ho).1 (fun q => by have:=Option.some.inj q;omega)).trans ho
   have hkl : ∀ {A C : World} {r : Nat} {o : Obj},A.grownBy C (some r) → r = S → A.heap[w.heap.size + 1]? = some o → C.heap[w.heap.size + 1]? = some o:=fun h e ho => (h.block _ (Array.getElem?_eq_some_iff.1 ho).1 (fun q => by have:=Option.some.inj q;omega)).trans ho
   refine (iter_any (X:=fun k => Y k ∨ w.heap.size ≤ k) (w.heap.size + 1)
    (fun pre W => I pre W ∧ W.heap[w.heap.size + 1]? = some (.loop (rec .ready none)) ∧ W.heap[w.heap.size]? = some (.deferred (some [])))
    (fun pre W => ∃ id,Ix id pre W ∧ W.heap[w.heap.size + 1]? = some (.loop (rec .done (some (.exit id)))) ∧ W.heap[w.heap.size]? = some (.deferred (some [])))
    (fun pre A C hA hg' => ⟨hI pre A C S hA.1 hg' (.inl rfl),hkl hg' rfl hA.2.1,hkk hg' rfl hA.2.2⟩) ?_ W1 (hs.keep hb) (hb1.keep hb) (hb2.keep hb) ⟨hI1,hL1,hK1⟩ hr ha hm0 hm1
    (fun k hk h => h.elim (hYB k hk) (fun h => by have:=hs.inn.base;omega)) (fun h => h.elim hYS (fun h => by omega)) (fun h => h.elim hY1 (fun h => by have:=hb1.lt;omega)) hS1).mono ?_
   · -- a round
     rintro pre s left W hyl hsW ⟨hi,hl,hk⟩
     have hlt : w.heap.size + 1 < W.heap.size:=(Array.getElem?_eq_some_iff.1 hl).1
     have hy:=run_yield (P:=Try.prog) (args:=#[.agg (hitC s)]) hl (by rw [hrec];show 1 = ps.size;exact hps.symm)
     rw [hrec] at hy
     refine ⟨fn,_,assign,body,hy,roundIn_of_wpIn hfn (wpIn_mono (hround pre s left W hyl hsW hi (by omega)) ?_)⟩
     rintro e1 a1 w1 hq
     cases e1 with
     | normal =>
      obtain ⟨hk1,⟨hl1,hd1⟩,hbody⟩:=hq
      rw [hl] at hl1
      rw [hk] at hd1
      refine ⟨_,run_beginRound hl1 (by rw [hrec]),?_⟩
      have hlt1' : w.heap.size + 1 < w1.heap.size:=(Array.getElem?_eq_some_iff.1 hl1).1
      have hl2 : (w1.putObj (w.heap.size + 1) (.loop { rec .ready none with state:=.busy })).heap[w.heap.size + 1]? = some (.loop { rec .ready none with state:=.busy }):=World.putObj_heap_same hlt1'
      have hk2 : (w1.putObj (w.heap.size + 1) (.loop { rec .ready none with state:=.busy })).heap[w.heap.size]? = some (.deferred (some [])):=(World.putObj_heap_other (by omega)).trans hd1
      have hgp:=grown_putObj w1 (w.heap.size + 1) (.loop { rec .ready none with state:=.busy })
      refine wpIn_mono (hbody _ hgp) ?_
      rintro e3 a3 W3 hp
      cases e3 with
      | normal =>
       obtain ⟨hk3,⟨hl3,hd3⟩,hi3⟩:=hp
       rw [hl2] at hl3
       rw [hk2] at hd3
       have hrun:=run_endRound (P:=Try.prog) none hl3
       refine ⟨_,_,hrun,.inl ⟨rfl,⟨hI _ _ _ _ hi3 (grown_putObj W3 (w.heap.size + 1) _) (.inr (.inr rfl)),?_,(World.putObj_heap_other (by omega)).trans hd3⟩,(hk1.trans (Kpt.of_grown hgp (.inr (Nat.le_succ _)))).trans (hk3.trans (Kpt.of_grown (grown_putObj W3 (w.heap.size + 1) _) (.inr (Nat.le_succ _))))⟩⟩
       rw [World.putObj_heap_same (Array.getElem?_eq_some_iff.1 hl3).1,hrec]
       rfl
      | exit id =>
       obtain ⟨⟨hl3,hd3⟩,hi3⟩:=hp
       rw [hl2] at hl3
       rw [hk2] at hd3
       have hrun:=run_endRound (P:=Try.prog) (some (.exit id)) hl3
       refine ⟨_,_,hrun,.inr ⟨rfl,id,hIx _ _ _ _ hi3 (grown_putObj W3 (w.heap.size + 1) _),?_,(World.putObj_heap_other (by omega)).trans hd3⟩⟩
       rw [World.putObj_heap_same (Array.getElem?_eq_some_iff.1 hl3).1,hrec]
       rfl
      | ret => exact hp.elim
      | goto _ => exact hp.elim
      | panic _ => exact hp.elim
      | outgrown => exact hp.elim
     | exit id => exact hq.elim
     | ret => exact hq.elim
     | goto _ => exact hq.elim
     | panic _ => exact hq.elim
     | outgrown => exact hq.elim
   · -- behind the iterator
     have fin : ∀ (W2 : World) (xs : List Spn) (left : Int) (sh : Bool),Done12 ns t gr a0 M0 xs left sh → Srf W2 B S An nn cn At nt ct ns t gr left sh → I xs W2 → W2.heap[w.heap.size + 1]? = some (.loop (rec .ready none)) → W2.heap[w.heap.size]? = some (.deferred (some [])) → rangePost Fence.wide 3 Try.prog (w.heap.size + 1) Q { a with defers:=[{ target:=.collected w.heap.size,args:=#[] }] ++ a.defers } (.returned (.tuple #[])) W2:=fun W2 xs left sh h1 hsr hi hl hk => by
      have hrun:=run_endLoop (P:=Try.prog) hl (by rw [hrec];simp)
      rw [hrec] at hrun
      refine ⟨none,_,hrun,hdone xs left sh _ h1 (hsr.turned' (grown_putObj W2 (w.heap.size + 1) _) (by have:=hs.inn.base;omega) (by omega)) (hI _ _ _ _ hi (grown_putObj W2 (w.heap.size + 1) _) (.inr (.inr rfl))) ((World.putObj_heap_other (by omega)).trans hk)⟩
     rintro e W2 ⟨rfl,h | h⟩
     · obtain ⟨xs,left,sh,hA,⟨hi,hl,hk⟩,hsr⟩:=h
       exact fin W2 xs left sh hA hsr hi hl hk
     · obtain ⟨pre,s,left,hyl,id,hi,hl,hk⟩:=h
       have hrun:=run_endLoop (P:=Try.prog) hl (by rw [hrec];simp)
       rw [hrec] at hrun
       exact ⟨some (.exit id),_,hrun,wpIn_wide.2 (hstop id pre s left _ hyl (hIx _ _ _ _ hi (grown_putObj W2 (w.heap.size + 1) _)) ((World.putObj_heap_other (by omega)).trans hk))⟩
theorem matches_any (S a0 : Nat) (w : World) : Calls Try.prog 28 #[.pointer (some ⟨S,0,none⟩),.int .i64 (a0 : Int)] w fun e w' => e = .returned (.func (.func 42) #[] #[.pointer (some ⟨w.heap.size,0,none⟩),.pointer (some ⟨w.heap.size + 1,0,none⟩)]) ∧ Held w' w.heap.size 98 #[.pointer (some ⟨S,0,none⟩)] ∧ Held w' (w.heap.size + 1) 3 #[.int .i64 (a0 : Int)] ∧ Below w.heap.size w w':=by
 have hb:=lhi (((Below.refl w.heap.size w).alloc (nlr _) (.cells #[.pointer (some ⟨S,0,none⟩)] 98)).alloc (by simp) (.cells #[.int .i64 (a0 : Int)] 3))
 have h1:=lhi ((held_new w 98 #[.pointer (some ⟨S,0,none⟩)]).alloc (.cells #[.int .i64 (a0 : Int)] 3))
 have h2:=lhi (held_new2 w (.cells #[.pointer (some ⟨S,0,none⟩)] 98) 3 #[.int .i64 (a0 : Int)])
 go_enter Try.func28,Try.ntmps28
 go_wp2
 go_ret
 exact ⟨rfl,h1.out,h2.out,hb.out⟩
def hitsL (l : List Spn) : List Value:=l.flatMap hitL
theorem hitsL_len (l : List Spn) : (hitsL l).length = l.length * 20:=by
 induction l with
 | nil => rfl
 | cons x r ih => unfold hitsL at ih ⊢;rw [List.flatMap_cons,lla,ih,hitL_len,List.length_cons];omega
theorem hitsL_app (a b : List Spn) : hitsL (a ++ b) = hitsL a ++ hitsL b:=by simp [hitsL]
theorem hitsL_one (s : Spn) : hitsL [s] = hitL s:=by simp [hitsL]
theorem hit_infoz : (Try.prog.info? 31).map (fun i => (i.zero,i.size,i.bytes)) = some (some (.agg #[.int .i64 0,.int .i64 0,.int .i64 0,.int .i64 0,.int .i64 0,.int .i64 0,.int .i64 0,.int .i64 0,.int .i64 0,.int .i64 0,.int .i64 0,.int .i64 0,.int .i64 0,.int .i64 0,.int .i64 0,.int .i64 0,.int .i64 0,.int .i64 0,.int .i64 0,.int .i64 0]),20,160):=by kernel_rfl
theorem fill_hit (s : Spn) : Instr.fill (fun i => some (i * 20,20)) ((Array.range (1 * 20)).map ((Value.agg #[.int .i64 0,.int .i64 0,.int .i64 0,.int .i64 0,.int .i64 0,.int .i64 0,.int .i64 0,.int .i64 0,.int .i64 0,.int .i64 0,.int .i64 0,.int .i64 0,.int .i64 0,.int .i64 0,.int .i64 0,.int .i64 0,.int .i64 0,.int .i64 0,.int .i64 0,.int .i64 0]).cells[· % 20]!)) [(0,.agg (hitC s))] = some (hitC s):=by kernel_rfl
theorem wpListIn_build_one {F : Fence} {m : Nat} {ops : Array Oper} {rest : List Oper} {o : Oper} {a : Act} {w : World} {Q : Exit → Act → World → Prop} (hgd : o.guard = none) (x : Operand) (ho : o.op = .buildSlice 42 1 #[(0,x)]) (s : Spn) (C : Array Value) (hC : hitC s = C) (hx : a.eval x = .agg C)
    (h : wpListIn F m Try.prog ops Q rest (a.put o.dst (.slice (some ⟨w.heap.size,0,none⟩) 1 1)) (w.alloc (.cells C 31))) : wpListIn F m Try.prog ops Q (o :: rest) a w :=
 wpListIn_plain hgd fun K hK => by
  subst hC
  obtain ⟨i0,hi0,hq0,hq1,hq2⟩:=info_parts hit_infoz
  refine ⟨fun f hf => by simp [Oper.about,ho] at hf,?_⟩
  rw [Oper.semAt_eq _ _ _ (by rw [ho];intro c hc;cases hc)]
  have hf : Instr.fill (fun i => some (i * i0.size,i0.size)) ((Array.range (1 * i0.size)).map ((Value.agg #[.int .i64 0,.int .i64 0,.int .i64 0,.int .i64 0,.int .i64 0,.int .i64 0,.int .i64 0,.int .i64 0,.int .i64 0,.int .i64 0,.int .i64 0,.int .i64 0,.int .i64 0,.int .i64 0,.int .i64 0,.int .i64 0,.int .i64 0,.int .i64 0,.int .i64 0,.int .i64 0]).cells[· % (Value.agg #[.int .i64 0,.int .i64 0,.int .i64 0,.int .i64 0,.int .i64 0,.int .i64 0,.int .i64 0,.int .i64 0,.int .i64 0,.int .i64 0,.int .i64 0,.int .i64 0,.int .i64 0,.int .i64 0,.int .i64 0,.int .i64 0,.int .i64 0,.int .i64 0,.int .i64 0,.int .i64 0]).cells.size]!)) ((#[(0,x)] : Array (Nat × Operand)).map fun (i,x) => (i,a.eval x)).toList = some (hitC s):=by
   rw [hq1]
   simp only [List.map_toArray,List.map_cons,List.map_nil,hx]
   exact fill_hit s
  unfold execOp
  simp only [ho,Sem.run_bind,run_buildSlice w 42 31 1 _ (hitC s) i0 _ Try.underlying42 hi0 hq0 (by rw [hq1];decide) (by rw [hq1];decide) hf,Result.andThen_ok]
  exact hK _ _ h
theorem new_listF (w : World) (C : Array Value) (T : TypeId) : ∀ j u,C.toList[j]? = some u → (w.alloc (.cells C T)).cell? ((⟨w.heap.size,0,none⟩ : Addr).add j) = some u:=fun j u hj => by
 have:=new_cells w C.toList T j u hj
 rwa [Array.toArray_toList] at this
theorem Pre12.count {ns : List Nod} {t : List UInt8} {n last : Int} {a0 : Nat} {e0 M0 : Int} {l : List Spn} {a : Nat} {e M : Int} (h : Pre12 ns t n last a0 e0 M0 l a e M) : l.length ≤ a:=by
 induction h with
 | refl => exact Nat.zero_le _
 | miss _ _ _ ih => omega
 | drop _ _ _ _ ih => omega
 | take _ _ _ _ hb ih => simp;omega
theorem results_cell3S {fn : Func} {p q r : Tmp} (h : fn.results = #[.cell p 42,.tmp q,.tmp r]) (tmps : Array Value) (w : World) (g : Nat) (v : Value) (hp : tmps.getD p undef = .pointer (some ⟨g,0,none⟩)) {x y : Value} (hx : tmps.getD q undef = x) (hy : tmps.getD r undef = y) (hg : w.cell? ⟨g,0,none⟩ = some v) :
    (results fn tmps).run Try.prog w = .ok (.tuple #[v,x,y]) w:=by
 have hp' : tmps[p]?.getD undef = .pointer (some ⟨g,0,none⟩):=by simpa using hp
 have hx' : tmps[q]?.getD undef = x:=by simpa using hx
 have hy' : tmps[r]?.getD undef = y:=by simpa using hy
 have hia : (isAgg 42).run Try.prog w = .ok false w:=run_isAgg_plain Try.underlying42 rfl w
 have hl : (load ⟨g,0,none⟩).run Try.prog w = .ok v w:=by
  simp [hg]
 have hlv : (loadVar 42 ⟨g,0,none⟩).run Try.prog w = .ok v w:=by
  unfold loadVar
  simp only [Sem.run_bind,hia,Result.andThen_ok]
  exact hl
 simp [results,h,hp',hx',hy',asAddr,hlv]
theorem ownsRow_slice {W : World} {base : Nat} {e : TypeId} {size : Nat} {v : Value} {k : Nat} {xs : List Value} (h : W.ownsRow base e size v k xs) : ∃ A n c,v = .slice A n c:=by
 rcases h.2 with ⟨rfl,_⟩ | ⟨g,cap,_,rfl,_⟩
 · exact ⟨_,_,_,rfl⟩
 · exact ⟨_,_,_,rfl⟩
theorem ownsRow_base {W : World} {b b' : Nat} {e : TypeId} {size : Nat} {v : Value} {k : Nat} {xs : List Value} (h : W.ownsRow b e size v k xs) (hb : b' ≤ b) : W.ownsRow b' e size v k xs:=by
 refine ⟨h.1,?_⟩
 rcases h.2 with hn | ⟨g,cap,cur,rfl,hgb,rest⟩
 · exact .inl hn
 · exact .inr ⟨g,cap,cur,rfl,Nat.le_trans hb hgb,rest⟩
def AllQ (w : World) (ns : List Nod) (g : Int) (t : List UInt8) (fuel : Int) (e : Ending) (w' : World) : Prop :=
 (¬ (rightN ns g = true ∧ 0 ≤ fuel) ∧ e = .returned (.tuple #[.slice none 0 0,.int .i64 0,.int .i64 1])) ∨
 ((rightN ns g = true ∧ 0 ≤ fuel) ∧ All12 ns t ((ns.length : Int) - 1) (lastP ns t g) 0 (-1) fuel none ∧ e = .returned (.tuple #[.slice none 0 0,.int .i64 0,.int .i64 18])) ∨
 ((rightN ns g = true ∧ 0 ≤ fuel) ∧ ∃ xs left v,All12 ns t ((ns.length : Int) - 1) (lastP ns t g) 0 (-1) fuel (some (xs,left)) ∧ e = .returned (.tuple #[v,.int .i64 left,.int .i64 0]) ∧ w'.ownsRow w.heap.size 31 20 v xs.length (hitsL xs))
end Go.Proofs.Ytjopmieaikgbcaa
