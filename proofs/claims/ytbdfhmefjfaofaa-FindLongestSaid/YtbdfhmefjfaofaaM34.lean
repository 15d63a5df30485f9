/- Contracts and plain facts: M34. -/
import Derived.Test.YtbdfhmefjfaofaaM33
set_option linter.unusedVariables false
set_option linter.unusedSimpArgs false
set_option maxRecDepth 100000
set_option maxHeartbeats 32000000
namespace Go.Proofs.Ytbdfhmefjfaofaa
open Go.RowKit Go.Shelf
attribute [local go_sem] Oper.semAt_some
def SIt (b1 S : Nat) (SC : Array Value) (a0 : Int) (b2 : Nat) (w' : World) : Prop:=Held w' b1 98 #[.pointer (some ⟨S,0,none⟩)] ∧ Held w' S 74 SC ∧ Held w' b2 3 #[.int .i64 a0]
theorem SIt.below {b1 S b2 : Nat} {SC : Array Value} {a0 : Int} {w1 w2 : World} (h : SIt b1 S SC a0 b2 w1) (hb : Below w1.heap.size w1 w2) : SIt b1 S SC a0 b2 w2:=⟨h.1.keep hb,h.2.1.keep hb,h.2.2.keep hb⟩
section
variable {X : Nat → Prop} {B S b1 b2 : Nat} {An : Option Addr} {nn cn : Nat} {At : Option Addr} {nt ct : Nat} {ns : List Nod} {t : List UInt8} {g M0 : Int} {a0 : Nat}
theorem iter_any (l : Nat) (J Jx : List Spn → World → Prop) (hJ : ∀ pre A C,J pre A → A.grownBy C (some S) → J pre C)
    (hY : ∀ pre s left W1,Yld ns t g a0 M0 pre s left → Srf W1 B S An nn cn At nt ct ns t g left false → J pre W1 → YieldAt Fence.wide 2 Try.prog l #[.agg (hitC s)] W1 fun e W' => (e = .returned (.bool true) ∧ J (pre ++ [s]) W' ∧ Kpt X W1 W') ∨ (e = .returned (.bool false) ∧ Jx (pre ++ [s]) W'))
    (w : World) (hs : Srf w B S An nn cn At nt ct ns t g M0 false) (hb1 : Held w b1 98 #[.pointer (some ⟨S,0,none⟩)]) (hb2 : Held w b2 3 #[.int .i64 (a0 : Int)]) (h0 : J [] w) (hr : rightN ns g = true) (ha : a0 ≤ t.length) (hm0 : 0 ≤ M0) (hm1 : M0 ≤ 999999) (hXB : ∀ k,k < B → ¬ X k) (hXS : ¬ X S) (hX1 : ¬ X b1) (hS1 : S ≠ b1) :
    Calls Try.prog 42 #[.func (.yield l) #[] #[],.pointer (some ⟨b1,0,none⟩),.pointer (some ⟨b2,0,none⟩)] w fun e W' => e = .returned (.tuple #[]) ∧
     ((∃ xs left sh,Done12 ns t g a0 M0 xs left sh ∧ J xs W' ∧ Srf W' B S An nn cn At nt ct ns t g left sh) ∨
      (∃ pre s left,Yld ns t g a0 M0 pre s left ∧ Jx (pre ++ [s]) W')):=by
 have hrt:=right_rt hr
 have hn1k : 1 ≤ ns.length ∧ ns.length ≤ 1000:=by
  unfold rightN at hr
  simp only [Bool.and_eq_true,decide_eq_true_eq] at hr
  exact ⟨hr.1.1.1.1,hr.1.1.1.2⟩
 have hlb:=least_bounds (ns:=ns) (g:=g)
 have hLs:=lhi (fun w' (hb : Below w.heap.size w w') => treeLeast_any An nn cn ns g B w' hs.inn.hn hs.inn.hnc hs.inn.hcm (Nat.le_trans hs.inn.base hb.size) (hs.inn.nods.below (hb.mono hs.inn.base)))
 have hnt:=hs.inn.hn2
 have htl:=hs.inn.hl2
 have hw1 : IntKind.i64.wrap ((nt : Int) - leastNs ns g) = lastP ns t g:=by unfold lastP;rw [hnt];exact IntWalk.i64_in _ (by omega)
 have hlast:=lhi (show -65537 ≤ lastP ns t g ∧ lastP ns t g ≤ t.length ∧ t.length ≤ 1000000 by unfold lastP;omega)
 have hnl:=lhi hnt
 replace hlb:=lhi hlb
 replace ha:=lhi ha
 replace hm0:=lhi (And.intro hm0 hm1)
 replace hrt:=lhi (And.intro hrt hn1k)
 have hss:=lhi hs
 have hbb:=lhi hb1
 have hjj:=lhi h0
 have hrr:=lhi hr
 have hSd:=lhi (show SIt b1 S (fsC An nn cn g At nt ct M0 false) (a0 : Int) b2 w.drew from ⟨hb1.drew,hs.held.drew,hb2.drew⟩)
 generalize leastNs ns g = le at *
 clear hnt htl hn1k hs hb1 hb2 h0 hr hm1
 go_enter Try.func42,Try.ntmps42
 go_wp2
 refine wp_region_held_drew (S:=SIt b1 S (fsC An nn cn g At nt ct M0 false) (a0 : Int) b2) (by kernel_rfl) hSd.out (fun hS => ?_)
 refine wpAnyH_take (i:=0) (v:=?_) rfl (by kernel_rfl) (by kernel_rfl) (by kernel_rfl) (fun _ _ _ h => h) (Or.inl ⟨by rfl,?_⟩) hS ?_
 rotate_left
 · (intro w' hS';have hc : w'.cell? ⟨b1,0,none⟩ = some (.pointer (some ⟨S,0,none⟩)):=hS'.1.at_ rfl;go_simp;try with_reducible rfl)
 (try simp only [Act.put,List.getElem_toArray,List.getElem_cons_zero,List.getElem_cons_succ,List.setIfInBounds_toArray,List.set_cons_zero,List.set_cons_succ])
 refine wpAnyH_take (i:=1) (v:=?_) rfl (by kernel_rfl) (by kernel_rfl) (by kernel_rfl) (fun _ _ _ h => h) (Or.inl ⟨by rfl,?_⟩) hS ?_
 rotate_left
 · (intro w' hS';go_simp;try with_reducible rfl)
 (try simp only [Act.put,List.getElem_toArray,List.getElem_cons_zero,List.getElem_cons_succ,List.setIfInBounds_toArray,List.set_cons_zero,List.set_cons_succ])
 refine wpAnyH_take (i:=2) (v:=?_) rfl (by kernel_rfl) (by kernel_rfl) (by kernel_rfl) (fun _ _ _ h => h) (Or.inl ⟨by rfl,?_⟩) hS ?_
 rotate_left
 · (intro w' hS';go_simp;try with_reducible rfl)
 (try simp only [Act.put,List.getElem_toArray,List.getElem_cons_zero,List.getElem_cons_succ,List.setIfInBounds_toArray,List.set_cons_zero,List.set_cons_succ])
 refine wpAnyH_take (i:=3) (v:=?_) rfl (by kernel_rfl) (by kernel_rfl) (by kernel_rfl) (fun _ _ _ h => h) (Or.inl ⟨by rfl,?_⟩) hS ?_
 rotate_left
 · (intro w' hS';have hc : w'.cell? ⟨S,2,none⟩ = some (.slice At nt ct):=hS'.2.1.at_ rfl;go_simp;try with_reducible rfl)
 (try simp only [Act.put,List.getElem_toArray,List.getElem_cons_zero,List.getElem_cons_succ,List.setIfInBounds_toArray,List.set_cons_zero,List.set_cons_succ])
 refine wpAnyH_take (i:=4) (v:=?_) rfl (by kernel_rfl) (by kernel_rfl) (by kernel_rfl) (fun _ _ _ h => h) (Or.inl ⟨by rfl,?_⟩) hS ?_
 rotate_left
 · (intro w' hS';go_simp;try with_reducible rfl)
 (try simp only [Act.put,List.getElem_toArray,List.getElem_cons_zero,List.getElem_cons_succ,List.setIfInBounds_toArray,List.set_cons_zero,List.set_cons_succ])
 refine wpAnyH_take (i:=5) (v:=?_) rfl (by kernel_rfl) (by kernel_rfl) (by kernel_rfl) (fun _ _ _ h => h) (Or.inl ⟨by rfl,?_⟩) hS ?_
 rotate_left
 · (intro w' hS';have hc : w'.cell? ⟨b1,0,none⟩ = some (.pointer (some ⟨S,0,none⟩)):=hS'.1.at_ rfl;go_simp;try with_reducible rfl)
 (try simp only [Act.put,List.getElem_toArray,List.getElem_cons_zero,List.getElem_cons_succ,List.setIfInBounds_toArray,List.set_cons_zero,List.set_cons_succ])
 refine wpAnyH_take (i:=6) (v:=?_) rfl (by kernel_rfl) (by kernel_rfl) (by kernel_rfl) (fun _ _ _ h => h) (Or.inl ⟨by rfl,?_⟩) hS ?_
 rotate_left
 · (intro w' hS';go_simp;try with_reducible rfl)
 (try simp only [Act.put,List.getElem_toArray,List.getElem_cons_zero,List.getElem_cons_succ,List.setIfInBounds_toArray,List.set_cons_zero,List.set_cons_succ])
 refine wpAnyH_take (i:=7) (v:=?_) rfl (by kernel_rfl) (by kernel_rfl) (by kernel_rfl) (fun _ _ _ h => h) (Or.inl ⟨by rfl,?_⟩) hS ?_
 rotate_left
 · (intro w' hS';go_simp;try with_reducible rfl)
 (try simp only [Act.put,List.getElem_toArray,List.getElem_cons_zero,List.getElem_cons_succ,List.setIfInBounds_toArray,List.set_cons_zero,List.set_cons_succ])
 refine wpAnyH_take (i:=8) (v:=?_) rfl (by kernel_rfl) (by kernel_rfl) (by kernel_rfl) (fun _ _ _ h => h) (Or.inl ⟨by rfl,?_⟩) hS ?_
 rotate_left
 · (intro w' hS';have hc : w'.cell? ⟨S,0,none⟩ = some (.slice An nn cn):=hS'.2.1.at_ rfl;have hc1 : w'.cell? ⟨S,1,none⟩ = some (.int .i64 g):=hS'.2.1.at_ rfl;go_simp;try with_reducible rfl)
 (try simp only [Act.put,List.getElem_toArray,List.getElem_cons_zero,List.getElem_cons_succ,List.setIfInBounds_toArray,List.set_cons_zero,List.set_cons_succ])
 refine wpAnyH_ready (rs:=[9]) (by kernel_rfl) (by simp) ?_
 refine AllReadyH.cons rfl (fun K hK => ?_) AllReadyH.nil
 go_simp
 refine (hLs.out _ ((Below.refl w.heap.size w).drew)).mono ?_
 rintro e w2 ⟨rfl,hb3⟩
 go_simp
 refine hK.out _ _ (hS.below hb3) (fun _ => ?_)
 clear hK K
 replace hS:=hS.below hb3
 (try simp only [Act.put,List.getElem_toArray,List.getElem_cons_zero,List.getElem_cons_succ,List.setIfInBounds_toArray,List.set_cons_zero,List.set_cons_succ])
 refine wpAnyH_take (i:=10) (v:=?_) rfl (by kernel_rfl) (by kernel_rfl) (by kernel_rfl) (fun _ _ _ h => h) (Or.inl ⟨by rfl,?_⟩) hS ?_
 rotate_left
 · (intro w' hS';go_simp;try with_reducible rfl)
 (try simp only [Act.put,List.getElem_toArray,List.getElem_cons_zero,List.getElem_cons_succ,List.setIfInBounds_toArray,List.set_cons_zero,List.set_cons_succ])
 refine wpAnyH_take (i:=11) (v:=?_) rfl (by kernel_rfl) (by kernel_rfl) (by kernel_rfl) (fun _ _ _ h => h) (Or.inl ⟨by rfl,?_⟩) hS ?_
 rotate_left
 · (intro w' hS';go_simp;try with_reducible rfl)
 (try simp only [Act.put,List.getElem_toArray,List.getElem_cons_zero,List.getElem_cons_succ,List.setIfInBounds_toArray,List.set_cons_zero,List.set_cons_succ])
 refine wpAnyH_done (by kernel_rfl) ?_ _
 have hb4:=lhi (((Below.refl w.heap.size w).drew).trans (hb3.mono (nlr _)))
 have c2 : w2.cell? ⟨b2,0,none⟩ = some (.int .i64 (a0 : Int)):=hS.2.2.at_ rfl
 have hs2:=lhi (hss.out.keep hb4.out)
 have hx2:=lhi hS.1
 have hj2:=lhi (hJ [] w w2 hjj.out (grown_of hb4.out _))
 clear hS hb3 hSd hLs hss hbb hjj hb4 hw1
 go_wp2
 go_loopw [5,6] (fun ve va wr => RelFi w B S b1 b2 An nn cn At nt ct ns t g a0 M0 J ve va wr) (fun _ va _ => (lastP ns t g + 1 - intOf va).toNat)
 case atStart => exact RelFi.mk ⟨[],a0,-1,M0,rfl,rfl,.refl,by have:=ha.out;omega,⟨by omega,by omega⟩,hm0.out,hs2.out,hx2.out,hj2.out⟩
 case round =>
  obtain ⟨pre,a,e,M,rfl,rfl,hP,haL,heL,hM,hsr,hbx,hjp⟩:=hrel
  by_cases hle : (a : Int) ≤ lastP ns t g
  · have hd : decide ((a : Int) ≤ lastP ns t g) = true:=decide_eq_true hle
    have haT : a ≤ t.length:=by have:=hlast.out;omega
    have c1 : wr.cell? ⟨b1,0,none⟩ = some (.pointer (some ⟨S,0,none⟩)):=hbx.at_ rfl
    have hTry:=lhi (try_any hsr hrr.out a haT hM.1 hM.2)
    have hss:=lhi hsr
    have hbb:=lhi hbx
    have hjj:=lhi hjp
    have hPp:=lhi hP
    have hrn:=lhi (And.intro haL (And.intro heL hM))
    replace hle:=lhi hle
    replace haT:=lhi haT
    clear hsr hbx hjp hP haL heL hM
    go_upto_region 5 with (first
     | (go_at_call 44;refine (hTry.out).mono ?_;rintro e3 w3 ⟨s,b,left',sh,rfl,hT,hsr3,hg3⟩;have hnull:=lhi (held_new w3 31 #[.int .i64 0,.int .i64 0,.int .i64 0,.int .i64 0,.int .i64 0,.int .i64 0,.int .i64 0,.int .i64 0,.int .i64 0,.int .i64 0,.int .i64 0,.int .i64 0,.int .i64 0,.int .i64 0,.int .i64 0,.int .i64 0,.int .i64 0,.int .i64 0,.int .i64 0,.int .i64 0]))
     | (refine wpList_store_row rfl 31 (.tmp 7) (.tmp 29) rfl w3.heap.size (hitC s) rfl rfl 31 _ hnull.out (by rw [hitC_size];exact size_hit) rfl (hit_cells _) ?_))
    have hH4:=lhi (hnull.out.row (hitC s))
    have hb4:=lhi (below_row ((Below.refl w3.heap.size w3).alloc (nlr _) (.cells #[.int .i64 0,.int .i64 0,.int .i64 0,.int .i64 0,.int .i64 0,.int .i64 0,.int .i64 0,.int .i64 0,.int .i64 0,.int .i64 0,.int .i64 0,.int .i64 0,.int .i64 0,.int .i64 0,.int .i64 0,.int .i64 0,.int .i64 0,.int .i64 0,.int .i64 0,.int .i64 0] 31)) (nlr _) (hitC s))
    have hg4:=lhi (grown_then hg3 hb4.out)
    have hs4:=lhi (hsr3.keep hb4.out)
    generalize (w3.alloc (.cells #[.int .i64 0,.int .i64 0,.int .i64 0,.int .i64 0,.int .i64 0,.int .i64 0,.int .i64 0,.int .i64 0,.int .i64 0,.int .i64 0,.int .i64 0,.int .i64 0,.int .i64 0,.int .i64 0,.int .i64 0,.int .i64 0,.int .i64 0,.int .i64 0,.int .i64 0,.int .i64 0] 31)).setRow w3.heap.size (hitC s) = w4 at *
    have hx4:=lhi (hbb.out.grown hg4.out (fun e => hS1 (Option.some.inj e).symm))
    have hj4:=lhi (hJ pre wr w4 hjj.out hg4.out)
    have c1' : w4.cell? ⟨b1,0,none⟩ = some (.pointer (some ⟨S,0,none⟩)):=hx4.out.at_ rfl
    have c4 : w4.cell? ⟨S,4,none⟩ = some (.bool sh):=hs4.out.held.at_ rfl
    have ce : w4.cell? ⟨w3.heap.size,1,none⟩ = some (.int .i64 (s 0).2):=hH4.out.at_ rfl
    have hw2 : IntKind.i64.wrap ((a : Int) + 1) = (a : Int) + 1:=by have:=haT.out;have:=hlast.out;exact IntWalk.i64_in _ (by omega)
    clear hTry hnull hg3 hsr3 hb4 c1 hss hbb hjj
    generalize w3.heap.size = KH at *
    cases hT with
    | bad hx =>
     have hA:=lhi (show Done12 ns t g a0 M0 pre 0 true from ⟨a,e,M,hPp.out,.inr ⟨rfl,hle.out,hx⟩⟩)
     replace hx:=lhi hx
     go_wp2
     exact bodyPost_ret (results_none rfl _ _ _) rfl ⟨rfl,.inl ⟨pre,0,true,hA.out,hj4.out,hs4.out⟩⟩
    | @fine b' _ hl0 hx =>
     have hlM:=lhi (told_left hx)
     cases b' with
     | none =>
      have hP2:=lhi (hPp.out.miss hle.out hx)
      replace hx:=lhi hx
      replace hl0:=lhi hl0
      go_wp2
      go_roundw
      case rel => exact RelFi.mk ⟨pre,a + 1,e,left',rfl,rfl,hP2.out,by have:=haT.out;omega,hrn.out.2.1,⟨hl0.out,by have:=hlM.out;have:=hrn.out.2.2;omega⟩,hs4.out,hx4.out,hj4.out⟩
      case measure => have h1:=hle.out;simp [intOf];omega
     | some m =>
      have hsp:=told_span hrt.out.1 hrt.out.2.1 haT.out hx
      have hm0' : (m 0).1 = (a : Int) ∧ (a : Int) ≤ (m 0).2 ∧ (m 0).2 ≤ (t.length : Int):=⟨hsp.1,hsp.2.1,hsp.2.2.1⟩
      clear hsp
      by_cases hlt : e < (m 0).2
      · have hyld:=lhi (show Yld ns t g a0 M0 pre m left' from ⟨a,e,M,hPp.out,hle.out,hx,hlt⟩)
        obtain ⟨b,hb⟩:=Int.eq_ofNat_of_zero_le (show 0 ≤ max ((a : Int) + 1) (m 0).2 by omega)
        have hP2:=lhi (hPp.out.take hle.out hx hlt hb.symm)
        have hY4:=lhi (hY pre m left' w4 hyld.out hs4.out hj4.out)
        have hdl : decide (e < (m 0).2) = true:=decide_eq_true hlt
        replace hx:=lhi hx
        replace hl0:=lhi hl0
        have hmm:=lhi (And.intro hm0' hlt)
        have hC20:=lhi (hitC_size m)
        have hHm:=lhi (show Held w4 KH 31 (hitC m) from hH4.out)
        have hbh:=lhi hb
        have ce' : w4.cell? ⟨KH,1,none⟩ = some (.int .i64 (m 0).2):=ce
        clear hb hlt hm0' ce hH4
        go_upto_region 9 with fail
        obtain ⟨fn,tmps,assign,body,hyl,hR⟩:=hY4.out
        refine wpIn_wide (n:=3).1 ?_
        generalize hCM : hitC m = CM at *
        gi_wp2_with (first
         | (refine wpListIn_load_blk rfl 31 (.tmp 7) rfl KH rfl 31 CM _ hHm.out Try.underlying31 rfl (by rw [hC20.out];exact size_hit) ?_))
        refine hR.mono ?_
        rintro e5 w5 (⟨rfl,hj5,hk5⟩ | ⟨rfl,hjx⟩)
        · gi_wp2
          have hs5:=lhi (hs4.out.kpt hk5 hXB hXS)
          have hx5:=lhi (hk5.held hx4.out hX1)
          have hjh:=lhi hj5
          clear hk5 hj5 hyl hR
          go_wp2
          go_roundw
          case rel => exact RelFi.mk ⟨pre ++ [m],b,(m 0).2,left',rfl,by rw [hbh.out],hP2.out,by have:=hbh.out;have:=haT.out;have:=hmm.out;omega,⟨by have:=hmm.out;omega,by have:=hmm.out;omega⟩,⟨hl0.out,by have:=hlM.out;have:=hrn.out.2.2;omega⟩,hs5.out,hx5.out,hjh.out⟩
          case measure => have h1:=hle.out;have h2:=hbh.out;simp [intOf];omega
        · gi_wp2
          have hjh:=lhi hjx
          clear hjx hyl hR
          go_wp2
          exact bodyPost_ret (results_none rfl _ _ _) rfl ⟨rfl,.inr ⟨pre,m,left',hyld.out,hjh.out⟩⟩
      · have hP2:=lhi (hPp.out.drop hle.out hx (by omega))
        have hdl : decide (e < (m 0).2) = false:=decide_eq_false hlt
        replace hx:=lhi hx
        replace hl0:=lhi hl0
        have ce' : w4.cell? ⟨KH,1,none⟩ = some (.int .i64 (m 0).2):=ce
        replace hm0':=lhi hm0'
        replace hlt:=lhi hlt
        clear ce
        go_wp2
        go_roundw
        case rel => exact RelFi.mk ⟨pre,a + 1,e,left',rfl,rfl,hP2.out,by have:=haT.out;omega,hrn.out.2.1,⟨hl0.out,by have:=hlM.out;have:=hrn.out.2.2;omega⟩,hs4.out,hx4.out,hj4.out⟩
        case measure => have h1:=hle.out;simp [intOf];omega
  · have hd : decide ((a : Int) ≤ lastP ns t g) = false:=decide_eq_false hle
    have hA:=lhi (show Done12 ns t g a0 M0 pre M false from ⟨a,e,M,hP,.inl ⟨rfl,by omega,rfl⟩⟩)
    have hss:=lhi hsr
    have hjj:=lhi hjp
    clear hsr hbx hjp hP haL heL hM hle
    go_wp2
    go_end0
    exact ⟨rfl,.inl ⟨pre,M,false,hA.out,hjj.out,hss.out⟩⟩
end
end Go.Proofs.Ytbdfhmefjfaofaa
