/- Contracts and plain facts: M36. -/
import Derived.Test.YtbdfhmefjfaofaaM35
set_option linter.unusedVariables false
set_option linter.unusedSimpArgs false
set_option maxRecDepth 100000
set_option maxHeartbeats 32000000
namespace Go.Proofs.Ytbdfhmefjfaofaa
open Go.RowKit Go.Shelf
attribute [local go_sem] Oper.semAt_some
def SAl (S H1 : Nat) (SC : Array Value) (v : Value) (w' : World) : Prop:=Held w' S 74 SC ∧ Held w' H1 42 #[v]
def IAll (w : World) (N H1 : Nat) (pre : List Spn) (W : World) : Prop:=∃ v,Held W H1 42 #[v] ∧ W.ownsRow N 31 20 v pre.length (hitsL pre) ∧ Below w.heap.size w W
theorem IAll.abide {w A C : World} {N H1 r : Nat} {pre : List Spn} (h : IAll w N H1 pre A) (hg : A.grownBy C (some r)) (h1 : r ≠ H1) (h2 : r < N) (h3 : w.heap.size ≤ r) : IAll w N H1 pre C:=by
 obtain ⟨v,k1,k2,k3⟩:=h
 exact ⟨v,k1.grown hg (fun e => h1 (Option.some.inj e).symm),k2.kept hg (.inr (fun e => by have:=(k2.lt r e).1;omega)),k3.grown hg k3.size (fun k e => by cases e;exact h3)⟩
section
variable {w : World} {B : Nat} {A A2 : Option Addr} {n c n2 c2 : Nat} {ns : List Nod} {t : List UInt8} {g : Int}
theorem all_good (fuel : Int) (h : AtIn w B A n c A2 n2 c2 ns t) (h1 : rightN ns g = true) (hf0 : 0 ≤ fuel) (hf1 : fuel ≤ 999999) :
    Calls Try.prog 17 #[.agg #[.slice A n c,.int .i64 g],.slice A2 n2 c2,.int .i64 fuel] w fun e w' => AllQ w ns g t fuel e w' ∧ Below w.heap.size w w':=by
 have hok:=lhi (show rightN ns g = true ∧ 0 ≤ fuel from ⟨h1,hf0⟩)
 have hb0:=lhi (((Below.refl w.heap.size w).alloc (nlr _) (.cells #[.slice A n c,.int .i64 g] 24)).alloc (by simp) (.cells #[.slice none 0 0] 42))
 have hRt:=lhi (fun w' (hb : Below w.heap.size w w') => right_any A n c ns g B w' h.hn h.hnc h.hcm (Nat.le_trans h.base hb.size) (h.nods.below (hb.mono h.base)))
 rw [h1] at hRt
 have hRe:=lhi ((held_new w 24 #[.slice A n c,.int .i64 g]).alloc (.cells #[.slice none 0 0] 42))
 have hRs:=lhi (held_new2 w (.cells #[.slice A n c,.int .i64 g] 24) 42 #[.slice none 0 0])
 have hIn:=lhi (fun w' (hb : Below w.heap.size w w') => show AtIn w' B A n c A2 n2 c2 ns t from h.below (hb.mono h.base))
 have hBw:=lhi h.base
 have d1 : decide (fuel < 0) = false:=decide_eq_false (by omega)
 have hff:=lhi (And.intro hf0 hf1)
 have hsz0:=lhi (show ((w.alloc (.cells #[.slice A n c,.int .i64 g] 24)).alloc (.cells #[.slice none 0 0] 42)).heap.size = w.heap.size + 2 by simp)
 clear h hf0 hf1 h1
 refine callsIn_wide.1 (callsIn_of_wp_marks (n:=3) Try.func17 rfl trivial (wpIn_wide.2 ?_))
 simp only [Try.ntmps17,List.size_toArray,List.length_cons,List.length_nil,Nat.reduceAdd,Nat.reduceSub,Array.replicate_succ,Array.replicate_zero,List.push_toArray,List.append_toArray,List.nil_append,List.cons_append]
 go_wp2_with (first
  | (go_at_call 21;refine (hRt.out _ hb0.out).mono ?_;rintro e w1 ⟨rfl,hb1⟩;have hRe1:=lhi (hRe.out.keep hb1);have hRs1:=lhi (hRs.out.keep hb1);have r0 : w1.cell? ⟨w.heap.size,0,none⟩ = some (.slice A n c):=hRe1.out.at_ rfl;have r1 : w1.cell? ⟨w.heap.size,1,none⟩ = some (.int .i64 g):=hRe1.out.at_ rfl;have hs1:=lhi (show w.heap.size + 2 ≤ w1.heap.size by have:=hb1.size;have:=hsz0.out;omega);replace hb1:=lhi (hb0.out.trans (hb1.mono hb0.out.size)))
  | (go_at_call 28;refine (matches_any w1.heap.size 0 _).mono ?_;rintro e w3 ⟨rfl,hx1,hx2,hb3⟩))
 have hS0:=lhi (held_new w1 74 (fsC A n c g A2 n2 c2 fuel false))
 have hbS:=lhi ((Below.refl w1.heap.size w1).alloc (nlr _) (.cells (fsC A n c g A2 n2 c2 fuel false) 74))
 rw [show (w1.alloc (.cells #[.slice A n c,.int .i64 g,.slice A2 n2 c2,.int .i64 fuel,.bool false] 74)) = w1.alloc (.cells (fsC A n c g A2 n2 c2 fuel false) 74) from rfl] at hb3 hx1 hx2
 rw [show (w1.alloc (.cells (fsC A n c g A2 n2 c2 fuel false) 74)).heap.size = w1.heap.size + 1 from by simp] at hb3 hx1 hx2
 have hb13:=lhi (hbS.out.trans (hb3.mono (Nat.le_succ _)))
 have hw3:=lhi (hb1.out.trans (hb13.out.mono (by have:=hs1.out;omega)))
 have hSz : w1.heap.size + 1 + 1 < w3.heap.size:=hx2.lt
 have hSr : Srf w3 B w1.heap.size A n c A2 n2 c2 ns t g fuel false:=⟨hS0.out.below hb3 (Nat.lt_succ_self _),hIn.out w3 hw3.out,by have:=hBw.out;have:=hs1.out;omega⟩
 have hRs3:=lhi (hRs1.out.keep hb13.out)
 have hI0 : IAll w (w3.heap.size + 2) (w.heap.size + 1) [] w3:=⟨_,hRs3.out,World.ownsRow_nil _ _ _ _,hw3.out⟩
 have hs1':=hs1.out
 have hBw':=hBw.out
 refine wp_rangeFind (Y:=fun k => k = w.heap.size + 1) (M0:=fuel) (a0:=0) rfl rfl hSr hx1 hx2 hok.out.1 (Nat.zero_le _) hff.out.1 hff.out.2 (fun k hk e => by omega) (fun e => by omega) (fun e => by omega) (fun e => by omega)
  (fun pre W => IAll w (w3.heap.size + 2) (w.heap.size + 1) pre W) (fun _ _ _ => False)
  (fun pre A' C r hA hg hr => hA.abide hg (by omega) (by omega) (by omega)) (fun _ _ _ _ h _ => h) hI0 ?round ?done (fun _ _ _ _ _ _ h _ => h.elim)
 case round =>
  intro pre s left W hyl hsW hi hsz2
  have hhi:=lhi hi
  have hcnt:=lhi (show pre.length ≤ 1000000 from by obtain ⟨a,e,M,hP,hle,-,-⟩:=hyl;have:=hP.count;have:=hsW.inn.hl2;have:=hsW.inn.hn2;have h3:=least_bounds (ns:=ns) (g:=g);unfold lastP at hle;omega)
  have hnull:=lhi (held_new W 31 #[.int .i64 0,.int .i64 0,.int .i64 0,.int .i64 0,.int .i64 0,.int .i64 0,.int .i64 0,.int .i64 0,.int .i64 0,.int .i64 0,.int .i64 0,.int .i64 0,.int .i64 0,.int .i64 0,.int .i64 0,.int .i64 0,.int .i64 0,.int .i64 0,.int .i64 0,.int .i64 0])
  have hsiz:=lhi hsz2
  clear hi hyl hsW hsz2
  have hCs:=lhi (hitC_size s)
  have hCo:=lhi (hit_cells s)
  have hCl:=lhi (show (hitC s).toList = hitL s from by unfold hitC;rw [List.toList_toArray])
  generalize hCM : hitC s = CM at *
  replace hCM:=lhi hCM
  gi_wp2_with (first
   | (refine wpListIn_store_blk rfl 31 (.tmp 10) (.tmp 23) rfl W.heap.size CM rfl rfl 31 _ hnull.out (by rw [hCs.out];exact size_hit) (by rw [hCs.out];rfl) hCo.out ?_))
  have hb5:=below_row ((Below.refl W.heap.size W).alloc (nlr _) (.cells #[.int .i64 0,.int .i64 0,.int .i64 0,.int .i64 0,.int .i64 0,.int .i64 0,.int .i64 0,.int .i64 0,.int .i64 0,.int .i64 0,.int .i64 0,.int .i64 0,.int .i64 0,.int .i64 0,.int .i64 0,.int .i64 0,.int .i64 0,.int .i64 0,.int .i64 0,.int .i64 0] 31)) (nlr _) CM
  have hK5:=hnull.out.row CM
  generalize (W.alloc (.cells #[.int .i64 0,.int .i64 0,.int .i64 0,.int .i64 0,.int .i64 0,.int .i64 0,.int .i64 0,.int .i64 0,.int .i64 0,.int .i64 0,.int .i64 0,.int .i64 0,.int .i64 0,.int .i64 0,.int .i64 0,.int .i64 0,.int .i64 0,.int .i64 0,.int .i64 0,.int .i64 0] 31)).setRow W.heap.size CM = w5 at *
  have hsz5:=hsiz.out
  refine ⟨⟨hb5.os,hb5.tape,hb5.output,hb5.size,fun k hk _ => hb5.block k hk⟩,⟨hb5.block _ (by omega),hb5.block _ (by omega)⟩,?_⟩
  intro w6 hg6
  have hi6:=(hhi.out.abide (grown_of hb5 (some w1.heap.size)) (by omega) (by omega) (by omega)).abide hg6 (by omega) (by omega) (by omega)
  have hK6:=lhi (hK5.grown hg6 (fun e => by have:=Option.some.inj e;omega))
  have hsz6:=lhi (show W.heap.size + 1 ≤ w6.heap.size by have h1:=hK6.out.lt;omega)
  obtain ⟨v,hv,hrow,hB⟩:=hi6
  obtain ⟨i0,hi0,hq0,hq1,hq2⟩:=info_parts hit_infoz
  have hvh:=lhi hv
  have hrowh:=lhi hrow
  have hBh:=lhi hB
  have c6 : w6.cell? ⟨w.heap.size + 1,0,none⟩ = some v:=hv.at_ rfl
  have hq0:=lhi hq0
  have hq1:=lhi hq1
  have hq2:=lhi hq2
  have hi0:=lhi hi0
  clear hv hrow hB hb5 hK5 hhi hnull hsz5 hg6
  gi_wp2_with (first
   | (refine wpListIn_load_blk rfl 31 (.tmp 10) rfl W.heap.size rfl 31 CM _ hK6.out Try.underlying31 rfl (by rw [hCs.out];exact size_hit) ?_)
   | (refine wpListIn_build_one rfl (.tmp 25) rfl s CM hCM.out rfl ?_)
   | (gi_at_builtin;refine wpListIn_append_own _ rfl _ _ 42 rfl (w3.heap.size + 2) 31 i0 _ 20 160 Try.underlying42 hi0.out hq0.out hq1.out hq2.out rfl (by decide) v pre.length (hitsL pre) rfl (hrowh.out.alloc _) ⟨w6.heap.size,0,none⟩ 1 1 CM.toList rfl (by rw [hCl.out,hitL_len]) (new_listF w6 CM 31) (by rw [hCl.out];exact hit_one s) (by have:=hcnt.out;unfold maxLen;omega) (by have:=hcnt.out;omega) (by have:=hsz6.out;have:=hsiz.out;simp;omega) ?_;intro v' w7 hown' hgrow _;obtain ⟨g',cap',rfl⟩:=ownsRow_succ hown';have hv7:=lhi ((hvh.out.alloc (.cells CM 31)).grown hgrow (fun e => by have:=(hrowh.out.lt _ e.symm).1;omega));have c7 : w7.cell? ⟨w.heap.size + 1,0,none⟩ = some v:=hv7.out.at_ rfl;have t7:=hv7.out.thawed 0;have hoh:=lhi hown';have hgh:=lhi hgrow;clear hown' hgrow))
  have hX7 : ∀ r,v.ownBlock = some r → w3.heap.size + 2 ≤ r:=fun r e => (hrowh.out.lt r e).1
  have hal:=grown_of ((Below.refl w6.heap.size w6).alloc (nlr _) (.cells CM 31)) none
  have hfin:=grown_cell w7 (w.heap.size + 1) 0 (.slice (some ⟨g',0,none⟩) (pre.length + 1) cap')
  have hN8 : w3.heap.size + 2 ≤ g':=(hoh.out.lt g' rfl).1
  have hs6:=hsz6.out
  have hs5:=hsiz.out
  have h7s:=hgh.out.size
  rw [sizeA'] at h7s
  have hl8 : ∀ k,k < w6.heap.size → k < w3.heap.size + 2 → k ≠ w.heap.size + 1 → (w7.setCell ⟨w.heap.size + 1,0,none⟩ (.slice (some ⟨g',0,none⟩) (pre.length + 1) cap')).heap[k]? = w6.heap[k]?:=fun k h1 h2 h3 =>
   (hfin.block k (by omega) (fun e => h3 (Option.some.inj e))).trans ((hgh.out.block k (by rw [sizeA'];omega) (fun e => by have:=hX7 k e.symm;omega)).trans (hal.block k h1 (fun e => by cases e)))
  refine ⟨⟨hfin.os.trans (hgh.out.os.trans hal.os),hfin.tape.trans (hgh.out.tape.trans hal.tape),hfin.output.trans (hgh.out.output.trans hal.output),Nat.le_trans (by omega) hfin.size,fun k hk hx => hl8 k hk (by have : ¬ w3.heap.size ≤ k:=fun h => hx (.inr h);omega) (fun e => hx (.inl e))⟩,⟨hl8 _ (by omega) (by omega) (by omega),hl8 _ (by omega) (by omega) (by omega)⟩,_,hv7.out.put 0 _,?_,(((hBh.out.alloc hBh.out.size _).grown hgh.out (by have:=hBh.out.size;rw [sizeA'];omega) (fun k e => by have:=hX7 k e;omega))).setCell (p:=⟨w.heap.size + 1,0,none⟩) (by show w.heap.size ≤ w.heap.size + 1;omega) _⟩
  rw [lla,hitsL_app,hitsL_one,← hCl.out]
  exact hoh.out.kept hfin (.inr (fun e => by have : g' = w.heap.size + 1:=Option.some.inj e;omega))
 case done =>
  intro xs left sh W hdn hsW hi hD
  obtain ⟨v,hv,hrow,hB⟩:=hi
  obtain ⟨Av,nv,cv,rfl⟩:=ownsRow_slice hrow
  have c0 : W.cell? ⟨w1.heap.size,3,none⟩ = some (.int .i64 left):=hsW.held.at_ rfl
  have c4 : W.cell? ⟨w1.heap.size,4,none⟩ = some (.bool sh):=hsW.held.at_ rfl
  have c1 : W.cell? ⟨w.heap.size + 1,0,none⟩ = some (.slice Av nv cv):=hv.at_ rfl
  have t1:=hv.thawed 0
  have hDl : w3.heap.size < W.heap.size:=(Array.getElem?_eq_some_iff.1 hD).1
  have hOw : ∀ r,Value.ownBlock (.slice Av nv cv) = some r → w3.heap.size + 2 ≤ r:=fun r e => (hrow.lt r e).1
  cases sh with
  | true =>
   have hgc:=grown_cell W (w.heap.size + 1) 0 (.slice none 0 0)
   have hv8:=hv.put 0 (.slice none 0 0)
   have hD8 : (W.setCell ⟨w.heap.size + 1,0,none⟩ (.slice none 0 0)).heap[w3.heap.size]? = some (.deferred (some [])):=(hgc.block _ hDl (fun e => by have:=Option.some.inj e;omega)).trans hD
   have hpo:=grown_putObj (W.setCell ⟨w.heap.size + 1,0,none⟩ (.slice none 0 0)) w3.heap.size (.deferred none)
   have hc9 : ((W.setCell ⟨w.heap.size + 1,0,none⟩ (.slice none 0 0)).putObj w3.heap.size (.deferred none)).cell? ⟨w.heap.size + 1,0,none⟩ = some (.slice none 0 0):=(hv8.grown hpo (fun e => by have:=Option.some.inj e;omega)).at_ rfl
   have hB9:=(hB.setCell (p:=⟨w.heap.size + 1,0,none⟩) (by show w.heap.size ≤ w.heap.size + 1;omega) (.slice none 0 0)).grown hpo (by have:=hB.size;have:=hgc.size;omega) (fun k e => by cases e;omega)
   have hfin:=lhi (show (fun w' => AllQ w ns g t fuel (.returned (.tuple #[.slice none 0 0,.int .i64 0,.int .i64 18])) w' ∧ Below w.heap.size w w') ((W.setCell ⟨w.heap.size + 1,0,none⟩ (.slice none 0 0)).putObj w3.heap.size (.deferred none)) from ⟨.inr (.inl ⟨hok.out,hdn.over,rfl⟩),hB9⟩)
   clear hdn hB9 hB hsW hrow hgc hv8 hpo hv hOw
   go_wp2
   refine ⟨by simp,.inl ⟨_,_,rfl,run_takeDeferred hD8,?_⟩⟩
   exact ⟨_,results_cell3S Try.results17 _ _ (w.heap.size + 1) _ rfl rfl rfl hc9,hfin.out⟩
  | false =>
   have hgc:=grown_cell W.drew (w.heap.size + 1) 0 (.slice Av nv cv)
   have hv8 : Held (W.drew.setCell ⟨w.heap.size + 1,0,none⟩ (.slice Av nv cv)) (w.heap.size + 1) 42 #[.slice Av nv cv]:=hv.drew.put 0 (.slice Av nv cv)
   have hD8 : (W.drew.setCell ⟨w.heap.size + 1,0,none⟩ (.slice Av nv cv)).heap[w3.heap.size]? = some (.deferred (some [])):=(hgc.block _ hDl (fun e => by have:=Option.some.inj e;omega)).trans hD
   have hpo:=grown_putObj (W.drew.setCell ⟨w.heap.size + 1,0,none⟩ (.slice Av nv cv)) w3.heap.size (.deferred none)
   have hc9 : ((W.drew.setCell ⟨w.heap.size + 1,0,none⟩ (.slice Av nv cv)).putObj w3.heap.size (.deferred none)).cell? ⟨w.heap.size + 1,0,none⟩ = some (.slice Av nv cv):=(hv8.grown hpo (fun e => by have:=Option.some.inj e;omega)).at_ rfl
   have hB9:=(hB.drew.setCell (p:=⟨w.heap.size + 1,0,none⟩) (by show w.heap.size ≤ w.heap.size + 1;omega) (.slice Av nv cv)).grown hpo (by have:=hB.size;have h2:=hgc.size;exact Nat.le_trans this h2) (fun k e => by cases e;omega)
   have hrow9:=((hrow.kept (grown_of ((Below.refl W.heap.size W).drew) none) (by cases h : Value.ownBlock (.slice Av nv cv) <;> simp)).kept hgc (.inr (fun e => by have:=hOw _ e;omega))).kept hpo (.inr (fun e => by have:=hOw _ e;omega))
   have hfin:=lhi (show (fun w' => AllQ w ns g t fuel (.returned (.tuple #[.slice Av nv cv,.int .i64 left,.int .i64 0])) w' ∧ Below w.heap.size w w') ((W.drew.setCell ⟨w.heap.size + 1,0,none⟩ (.slice Av nv cv)).putObj w3.heap.size (.deferred none)) from ⟨.inr (.inr ⟨hok.out,xs,left,_,hdn.all,rfl,ownsRow_base hrow9 (by omega)⟩),hB9⟩)
   have hS0':=lhi (show SAl w1.heap.size (w.heap.size + 1) (fsC A n c g A2 n2 c2 left false) (.slice Av nv cv) W.drew from ⟨hsW.held.drew,hv.drew⟩)
   have hSb:=lhi (show SAl w1.heap.size (w.heap.size + 1) (fsC A n c g A2 n2 c2 left false) (.slice Av nv cv) (W.drew.setCell ⟨w.heap.size + 1,0,none⟩ (.slice Av nv cv)) from ⟨hsW.held.drew.grown hgc (fun e => by have:=Option.some.inj e;omega),hv8⟩)
   have cd : W.drew.cell? ⟨w.heap.size + 1,0,none⟩ = some (.slice Av nv cv):=c1
   have td : W.drew.frozen? ⟨w.heap.size + 1,0,none⟩ = false:=t1
   clear hdn hB9 hB hsW hrow hgc hv8 hpo hv hOw hrow9
   go_wp2
   refine wpIn_wide (n:=3).1 (wpIn_mono (Q:=Exit.then _ (fun _ _ _ => False)) (wpIn_wide.2 ?_) (by intro e a w h;cases e <;> first | exact h | exact h.elim))
   refine wp_region_held_drew (S:=SAl w1.heap.size (w.heap.size + 1) (fsC A n c g A2 n2 c2 left false) (.slice Av nv cv)) (by kernel_rfl) hS0'.out (fun hS => ?_)
   refine wpAnyH_take (i:=0) (v:=?_) rfl (by kernel_rfl) (by kernel_rfl) (by kernel_rfl) (fun _ _ _ h => h) (Or.inl ⟨by rfl,?_⟩) hS ?_
   rotate_left
   · (intro w' hS';have hc : w'.cell? ⟨w.heap.size + 1,0,none⟩ = some (.slice Av nv cv):=hS'.2.at_ rfl;go_simp;try with_reducible rfl)
   (try simp only [Act.put,List.getElem_toArray,List.getElem_cons_zero,List.getElem_cons_succ,List.setIfInBounds_toArray,List.set_cons_zero,List.set_cons_succ])
   refine wpAnyH_take (i:=1) (v:=?_) rfl (by kernel_rfl) (by kernel_rfl) (by kernel_rfl) (fun _ _ _ h => h) (Or.inl ⟨by rfl,?_⟩) hS ?_
   rotate_left
   · (intro w' hS';go_simp;try with_reducible rfl)
   (try simp only [Act.put,List.getElem_toArray,List.getElem_cons_zero,List.getElem_cons_succ,List.setIfInBounds_toArray,List.set_cons_zero,List.set_cons_succ])
   refine wpAnyH_take (i:=2) (v:=?_) rfl (by kernel_rfl) (by kernel_rfl) (by kernel_rfl) (fun _ _ _ h => h) (Or.inl ⟨by rfl,?_⟩) hS ?_
   rotate_left
   · (intro w' hS';have hc : w'.cell? ⟨w1.heap.size,3,none⟩ = some (.int .i64 left):=hS'.1.at_ rfl;go_simp;try with_reducible rfl)
   (try simp only [Act.put,List.getElem_toArray,List.getElem_cons_zero,List.getElem_cons_succ,List.setIfInBounds_toArray,List.set_cons_zero,List.set_cons_succ])
   refine wpAnyH_ready (rs:=[3]) (by kernel_rfl) (by simp) ?_
   refine AllReadyH.cons rfl (fun K hK => ?_) AllReadyH.nil
   go_simp
   refine hK.out _ _ hSb.out (fun _ => ?_)
   clear hK K
   replace hS:=hSb.out
   (try simp only [Act.put,List.getElem_toArray,List.getElem_cons_zero,List.getElem_cons_succ,List.setIfInBounds_toArray,List.set_cons_zero,List.set_cons_succ])
   refine wpAnyH_take (i:=4) (v:=?_) rfl (by kernel_rfl) (by kernel_rfl) (by kernel_rfl) (fun _ _ _ h => h) (Or.inl ⟨by rfl,?_⟩) hS ?_
   rotate_left
   · (intro w' hS';go_simp;try with_reducible rfl)
   (try simp only [Act.put,List.getElem_toArray,List.getElem_cons_zero,List.getElem_cons_succ,List.setIfInBounds_toArray,List.set_cons_zero,List.set_cons_succ])
   refine wpAnyH_take (i:=5) (v:=?_) rfl (by kernel_rfl) (by kernel_rfl) (by kernel_rfl) (fun _ _ _ h => h) (Or.inl ⟨by rfl,?_⟩) hS ?_
   rotate_left
   · (intro w' hS';go_simp;try with_reducible rfl)
   (try simp only [Act.put,List.getElem_toArray,List.getElem_cons_zero,List.getElem_cons_succ,List.setIfInBounds_toArray,List.set_cons_zero,List.set_cons_succ])
   refine wpAnyH_done (by kernel_rfl) ?_ _
   go_wp2
   refine ⟨by simp,.inl ⟨_,_,rfl,run_takeDeferred hD8,?_⟩⟩
   exact ⟨_,results_cell3S Try.results17 _ _ (w.heap.size + 1) _ rfl rfl rfl hc9,hfin.out⟩
end
end Go.Proofs.Ytbdfhmefjfaofaa
