/- Contracts and plain facts: M31. -/
import Derived.Test.YtbdfhmefjfaofaaM30
set_option linter.unusedVariables false
set_option linter.unusedSimpArgs false
set_option maxRecDepth 100000
set_option maxHeartbeats 32000000
namespace Go.Proofs.Ytbdfhmefjfaofaa
open Go.RowKit
section
variable {w : World} {B : Nat} {A A2 : Option Addr} {n c n2 c2 : Nat} {ns : List Nod} {t : List UInt8} {g at_ fuel : Int}
def SR1 (S : Nat) (sc : Array Value) (w0 w' : World) : Prop:=Held w' S 57 sc ∧ Below w0.heap.size w0 w'
theorem step_store_hit {ops : Array Oper} {o : Oper} {a : Act} {w : World} {K : Act → World → Prop} {Q : Exit → Act → World → Prop} {E : Prop} (x y : Operand) (hgd : o.guard = none) (ho : o.op = .store 31 x y) (O : Nat) (hx : a.eval x = .pointer (some ⟨O,0,none⟩)) (C : Array Value) (hy : a.eval y = .agg C) (old : Array Value) (hh : Held w O 31 old) (hs : C.size = 20) (ho2 : old.size = 20) (h1 : C.all (·.oneCell') = true)
    (h : K (a.put o.dst undef) (w.setRow O C)) : if Region.wanted o (yielded ops a.tmps) = true then Oper.wp Try.prog o a w K Q else E:=by
 have hw : Region.wanted o (yielded ops a.tmps) = true:=by simp [Region.wanted,hgd]
 rw [if_pos hw]
 exact wp_store_row 31 x y ho O C hx hy 31 old hh (by rw [hs];exact size_hit) (by rw [hs,ho2]) h1 h
theorem mat_good (i f : Nat) (h : AtIn w B A n c A2 n2 c2 ns t) (h1 : rightN ns g = true) (h2 : i ≤ t.length) (h3 : f ≤ 999999) : Calls Try.prog 10 #[.agg #[.slice A n c,.int .i64 g],.slice A2 n2 c2,.int .i64 (i : Int),.int .i64 (f : Int)] w fun e w' => AtP ns g t i f e ∧ Below w.heap.size w w':=by
 have hok : rightN ns g = true ∧ (0 ≤ (i : Int) ∧ (i : Int) ≤ t.length) ∧ 0 ≤ (f : Int):=⟨h1,by omega,by omega⟩
 have hrt:=right_rt h1
 have hn1k : 1 ≤ ns.length ∧ ns.length ≤ 1000:=by
  unfold rightN at h1
  simp only [Bool.and_eq_true,decide_eq_true_eq] at h1
  exact ⟨h1.1.1.1.1,h1.1.1.1.2⟩
 have hb0:=lhi (((Below.refl w.heap.size w).alloc (nlr _) (.cells #[.slice A n c,.int .i64 g] 24)).alloc (by simp) (.cells (hitC sp00) 31))
 have hR:=lhi (fun w' (hb : Below w.heap.size w w') => right_any A n c ns g B w' h.hn h.hnc h.hcm (Nat.le_trans h.base hb.size) (h.nods.below (hb.mono h.base)))
 rw [h1] at hR
 have hH:=lhi (held_new2 w (.cells #[.slice A n c,.int .i64 g] 24) 31 (hitC sp00))
 have hRe:=lhi ((held_new w 24 #[.slice A n c,.int .i64 g]).alloc (.cells (hitC sp00) 31))
 have hsz0:=lhi (show ((w.alloc (.cells #[.slice A n c,.int .i64 g] 24)).alloc (.cells (hitC sp00) 31)).heap.size = w.heap.size + 2 by simp)
 have d1 : decide ((i : Int) < 0) = false:=decide_eq_false (by omega)
 have d2 : decide ((n2 : Int) < (i : Int)) = false:=decide_eq_false (by have:=h.hn2;omega)
 have d2' : ¬ n2 < i:=by have:=h.hn2;omega
 have d2'' : decide (n2 < i) = false:=decide_eq_false d2'
 have d3 : decide ((f : Int) < 0) = false:=decide_eq_false (by omega)
 have hS:=lhi (fun (w1 : World) (hb1 : Below w.heap.size w w1) => show Held ((w1.alloc (.cells #[.slice none 0 0,.slice none 0 0,.int .i64 0,.int .i64 0,.slice none 0 0,.int .i64 0,.int .i64 0,.int .i64 0,.int .i64 0,.int .i64 0,.int .i64 0,.int .i64 0,.int .i64 0,.int .i64 0,.int .i64 0,.int .i64 0,.int .i64 0,.int .i64 0,.int .i64 0,.int .i64 0,.int .i64 0,.int .i64 0,.int .i64 0,.int .i64 0,.int .i64 0,.bool false] 57)).setRow w1.heap.size (srchC A n c A2 n2 c2 i f (.slice none 0 0) none)) w1.heap.size 57 (srchC A n c A2 n2 c2 i f (.slice none 0 0) none) ∧ Thru ((w1.alloc (.cells #[.slice none 0 0,.slice none 0 0,.int .i64 0,.int .i64 0,.slice none 0 0,.int .i64 0,.int .i64 0,.int .i64 0,.int .i64 0,.int .i64 0,.int .i64 0,.int .i64 0,.int .i64 0,.int .i64 0,.int .i64 0,.int .i64 0,.int .i64 0,.int .i64 0,.int .i64 0,.int .i64 0,.int .i64 0,.int .i64 0,.int .i64 0,.int .i64 0,.int .i64 0,.bool false] 57)).setRow w1.heap.size (srchC A n c A2 n2 c2 i f (.slice none 0 0) none)) w1.heap.size A n c A2 n2 c2 ns t g ∧ Below w1.heap.size w1 ((w1.alloc (.cells #[.slice none 0 0,.slice none 0 0,.int .i64 0,.int .i64 0,.slice none 0 0,.int .i64 0,.int .i64 0,.int .i64 0,.int .i64 0,.int .i64 0,.int .i64 0,.int .i64 0,.int .i64 0,.int .i64 0,.int .i64 0,.int .i64 0,.int .i64 0,.int .i64 0,.int .i64 0,.int .i64 0,.int .i64 0,.int .i64 0,.int .i64 0,.int .i64 0,.int .i64 0,.bool false] 57)).setRow w1.heap.size (srchC A n c A2 n2 c2 i f (.slice none 0 0) none)) from by
  have hbz:=below_row ((Below.refl w1.heap.size w1).alloc (nlr _) (.cells #[.slice none 0 0,.slice none 0 0,.int .i64 0,.int .i64 0,.slice none 0 0,.int .i64 0,.int .i64 0,.int .i64 0,.int .i64 0,.int .i64 0,.int .i64 0,.int .i64 0,.int .i64 0,.int .i64 0,.int .i64 0,.int .i64 0,.int .i64 0,.int .i64 0,.int .i64 0,.int .i64 0,.int .i64 0,.int .i64 0,.int .i64 0,.int .i64 0,.int .i64 0,.bool false] 57)) (nlr _) (srchC A n c A2 n2 c2 i f (.slice none 0 0) none)
  have hz:=h.below ((hb1.mono h.base).trans (hbz.mono (Nat.le_trans h.base hb1.size)))
  exact ⟨(held_new w1 _ _).row _,⟨hz.hn,hz.hnc,hz.hcm,hz.nods.more (Nat.le_trans h.base hb1.size),hz.hn2,hz.hnc2,hz.hcm2,hz.hl2,hz.byt.more (Nat.le_trans h.base hb1.size),hbz.size,hrt,by have:=hz.hn;omega,by have:=hz.hn;omega⟩,hbz⟩)
 have hAll:=lhi (fun (w1 : World) (hb1 : Below w.heap.size w w1) => all_any (hS.out w1 hb1).1 (hS.out w1 hb1).2.1 h2 h3)
 rw [show hitC sp00 = #[.int .i64 0,.int .i64 0,.int .i64 0,.int .i64 0,.int .i64 0,.int .i64 0,.int .i64 0,.int .i64 0,.int .i64 0,.int .i64 0,.int .i64 0,.int .i64 0,.int .i64 0,.int .i64 0,.int .i64 0,.int .i64 0,.int .i64 0,.int .i64 0,.int .i64 0,.int .i64 0] from rfl] at hb0 hRe hsz0
 clear h hrt hn1k
 replace hok:=lhi hok
 go_enter Try.func10,Try.ntmps10
 go_wp2_with (first
  | (go_at_call 21;refine (hR.out _ hb0.out).mono ?_;rintro e w1 ⟨rfl,hb1⟩;have hH1:=lhi (hH.out.keep hb1);have r0 : w1.cell? ⟨w.heap.size,0,none⟩ = some (.slice A n c):=(hRe.out.keep hb1).at_ rfl;have hs1 : w.heap.size + 2 ≤ w1.heap.size:=(by have:=hb1.size;have:=hsz0.out;omega);replace hb1:=lhi (hb0.out.trans (hb1.mono hb0.out.size));have hAl1:=lhi (hAll.out w1 hb1.out);have hS1:=lhi (hS.out w1 hb1.out);have hz1:=lhi (held_new w1 57 #[.slice none 0 0,.slice none 0 0,.int .i64 0,.int .i64 0,.slice none 0 0,.int .i64 0,.int .i64 0,.int .i64 0,.int .i64 0,.int .i64 0,.int .i64 0,.int .i64 0,.int .i64 0,.int .i64 0,.int .i64 0,.int .i64 0,.int .i64 0,.int .i64 0,.int .i64 0,.int .i64 0,.int .i64 0,.int .i64 0,.int .i64 0,.int .i64 0,.int .i64 0,.bool false]);generalize hCS : srchC A n c A2 n2 c2 i f (.slice none 0 0) none = CS at hAl1 hS1;have hCsz:=lhi (show CS.size = 26 from (by rw [← hCS];rfl));have hCone:=lhi (show CS.all (·.oneCell') = true from (by rw [← hCS];exact srch_cells));replace hCS:=lhi hCS;clear hR hAll hS)
  | (refine wpList_build_srch rfl (.tmp 32) (.tmp 33) (.tmp 34) (.tmp 35) rfl A A2 n c n2 c2 i f rfl rfl rfl rfl CS hCS.out ?_)
  | (refine wpList_store_row rfl 57 (.tmp 12) (.tmp 36) rfl w1.heap.size CS rfl rfl 57 _ hz1.out (by rw [hCsz.out];exact size_srch) (by rw [hCsz.out];rfl) hCone.out ?_)
  | (go_at_call 22;refine (hAl1.out).mono ?_;intro e w2 hA;have hlow2:=lhi ((hS1.out.2.2).trans hA.gr);have hH2:=lhi (hH1.out.below hlow2.out (by omega));have hb2:=lhi (hb1.out.trans (hlow2.out.mono (by omega)));rcases hA.told with ⟨rfl,hT⟩ | ⟨b,left,v,rfl,hSr,hT⟩)
  | (refine wpList_build_hit0 rfl rfl (hitC sp00) rfl ?_)
  | (refine wpList_store_row rfl 31 (.tmp 8) (.tmp 39) rfl (w.heap.size + 1) (hitC sp00) rfl rfl 31 _ hH2.out (by rw [hitC_size];exact size_hit) rfl (hit_cells _) ?_))
 · exact bodyPost_ret (results_cell_four Try.results10 _ _ (w.heap.size + 1) 31 (hitC sp00) (0,0) _ rfl rfl rfl rfl (hH2.out.row _) Try.underlying31 rfl (by rw [hitC_size];exact size_hit)) rfl ⟨.fuel hok.out hT,below_row hb2.out (Nat.le_succ _) _⟩
 · have hok2:=lhi (AtP.fine hok.out hT)
   have hRg:=lhi (fun (w' : World) (h' : Held w' w1.heap.size 57 (srchC A n c A2 n2 c2 i left v b)) => srch_rangeS h')
   have hLn:=lhi (hitL_len (ansS b))
   have hLC:=lhi (show hitC (ansS b) = (hitL (ansS b)).toArray from by unfold hitC;rfl)
   have hLo:=lhi (hit_cells (ansS b))
   rw [hLC.out] at hok2 hLo
   have hHd:=lhi hH2.out.drew
   have hS0:=lhi (show SR1 w1.heap.size (srchC A n c A2 n2 c2 i left v b) w w2.drew from ⟨hSr.drew,hb2.out.drew⟩)
   have hne : w.heap.size + 1 ≠ w1.heap.size:=by omega
   clear hT hSr hLC hb2 hH2 hAl1 hS1 hz1 hCsz hCone hCS hH hRe hb0 hsz0 hlow2 hok
   generalize hitL (ansS b) = L at *
   refine wp_region_held_drew (S:=SR1 w1.heap.size (srchC A n c A2 n2 c2 i left v b) w) (by kernel_rfl) hS0.out (fun hS => ?_)
   refine wpAnyH_take (i:=0) (v:=?_) rfl (by kernel_rfl) (by kernel_rfl) (by kernel_rfl) (fun _ _ _ h => h) (Or.inl ⟨by rfl,?_⟩) hS ?_
   rotate_left
   · (intro w' hS';go_simp;try with_reducible rfl)
   (try simp only [Act.put,List.getElem_toArray,List.getElem_cons_zero,List.getElem_cons_succ,List.setIfInBounds_toArray,List.set_cons_zero,List.set_cons_succ])
   refine wpAnyH_take (i:=1) (v:=_) rfl (by kernel_rfl) (by kernel_rfl) (by kernel_rfl) (fun _ _ _ h => h) (yieldsIf_load_mid (by rfl) _ _ rfl (w1.heap.size) 5 rfl (L) _ (fun _ hS' => hRg.out _ hS'.1) Try.underlying31 rfl (by rw [hLn.out];exact size_hit)) hS ?_
   (try simp only [Act.put,List.getElem_toArray,List.getElem_cons_zero,List.getElem_cons_succ,List.setIfInBounds_toArray,List.set_cons_zero,List.set_cons_succ])
   refine wpAnyH_take (i:=2) (v:=?_) rfl (by kernel_rfl) (by kernel_rfl) (by kernel_rfl) (fun _ _ _ h => h) (Or.inl ⟨by rfl,?_⟩) hS ?_
   rotate_left
   · (intro w' hS';go_simp;try with_reducible rfl)
   (try simp only [Act.put,List.getElem_toArray,List.getElem_cons_zero,List.getElem_cons_succ,List.setIfInBounds_toArray,List.set_cons_zero,List.set_cons_succ])
   refine wpAnyH_take (i:=3) (v:=?_) rfl (by kernel_rfl) (by kernel_rfl) (by kernel_rfl) (fun _ _ _ h => h) (Or.inl ⟨by rfl,?_⟩) hS ?_
   rotate_left
   · (intro w' hS';have hc : w'.cell? ⟨w1.heap.size,25,none⟩ = some (.bool b.isSome):=hS'.1.at_ rfl;go_simp;try with_reducible rfl)
   (try simp only [Act.put,List.getElem_toArray,List.getElem_cons_zero,List.getElem_cons_succ,List.setIfInBounds_toArray,List.set_cons_zero,List.set_cons_succ])
   refine wpAnyH_take (i:=4) (v:=?_) rfl (by kernel_rfl) (by kernel_rfl) (by kernel_rfl) (fun _ _ _ h => h) (Or.inl ⟨by rfl,?_⟩) hS ?_
   rotate_left
   · (intro w' hS';go_simp;try with_reducible rfl)
   (try simp only [Act.put,List.getElem_toArray,List.getElem_cons_zero,List.getElem_cons_succ,List.setIfInBounds_toArray,List.set_cons_zero,List.set_cons_succ])
   refine wpAnyH_take (i:=5) (v:=?_) rfl (by kernel_rfl) (by kernel_rfl) (by kernel_rfl) (fun _ _ _ h => h) (Or.inl ⟨by rfl,?_⟩) hS ?_
   rotate_left
   · (intro w' hS';have hc : w'.cell? ⟨w1.heap.size,3,none⟩ = some (.int .i64 (left : Int)):=hS'.1.at_ rfl;go_simp;try with_reducible rfl)
   (try simp only [Act.put,List.getElem_toArray,List.getElem_cons_zero,List.getElem_cons_succ,List.setIfInBounds_toArray,List.set_cons_zero,List.set_cons_succ])
   refine wpAnyH_ready (rs:=[6]) (by kernel_rfl) (by simp) ?_
   refine AllReadyH.cons rfl (fun K hK => ?_) AllReadyH.nil
   refine step_store_hit (.tmp 8) (.tmp 41) rfl rfl (w.heap.size + 1) rfl L.toArray rfl (hitC sp00) hHd.out (by rw [List.size_toArray,hLn.out]) rfl hLo.out ?_
   have hSb : SR1 w1.heap.size (srchC A n c A2 n2 c2 i left v b) w (w2.drew.setRow (w.heap.size + 1) L.toArray):=⟨hS.1.row_far (fun e => hne e.symm) _,below_row hS.2 (Nat.le_succ _) _⟩
   refine hK.out _ _ hSb (fun _ => ?_)
   clear hK K
   replace hS:=hSb
   (try simp only [Act.put,List.getElem_toArray,List.getElem_cons_zero,List.getElem_cons_succ,List.setIfInBounds_toArray,List.set_cons_zero,List.set_cons_succ])
   refine wpAnyH_take (i:=7) (v:=?_) rfl (by kernel_rfl) (by kernel_rfl) (by kernel_rfl) (fun _ _ _ h => h) (Or.inl ⟨by rfl,?_⟩) hS ?_
   rotate_left
   · (intro w' hS';go_simp;try with_reducible rfl)
   (try simp only [Act.put,List.getElem_toArray,List.getElem_cons_zero,List.getElem_cons_succ,List.setIfInBounds_toArray,List.set_cons_zero,List.set_cons_succ])
   refine wpAnyH_take (i:=8) (v:=?_) rfl (by kernel_rfl) (by kernel_rfl) (by kernel_rfl) (fun _ _ _ h => h) (Or.inl ⟨by rfl,?_⟩) hS ?_
   rotate_left
   · (intro w' hS';go_simp;try with_reducible rfl)
   (try simp only [Act.put,List.getElem_toArray,List.getElem_cons_zero,List.getElem_cons_succ,List.setIfInBounds_toArray,List.set_cons_zero,List.set_cons_succ])
   refine wpAnyH_take (i:=9) (v:=?_) rfl (by kernel_rfl) (by kernel_rfl) (by kernel_rfl) (fun _ _ _ h => h) (Or.inl ⟨by rfl,?_⟩) hS ?_
   rotate_left
   · (intro w' hS';go_simp;try with_reducible rfl)
   (try simp only [Act.put,List.getElem_toArray,List.getElem_cons_zero,List.getElem_cons_succ,List.setIfInBounds_toArray,List.set_cons_zero,List.set_cons_succ])
   refine wpAnyH_done (by kernel_rfl) ?_ _
   go_wp2
   exact bodyPost_ret (results_cell_four Try.results10 _ _ (w.heap.size + 1) 31 L.toArray (0,0) _ rfl rfl rfl rfl (hHd.out.row _) Try.underlying31 rfl (by rw [List.size_toArray,hLn.out];exact size_hit)) rfl ⟨hok2.out,hS.2⟩
theorem mat_any (h : AtIn w B A n c A2 n2 c2 ns t) (hf : fuel ≤ 999999) : Calls Try.prog 10 #[.agg #[.slice A n c,.int .i64 g],.slice A2 n2 c2,.int .i64 at_,.int .i64 fuel] w fun e w' => AtP ns g t at_ fuel e ∧ Below w.heap.size w w':=by
 cases h1 : rightN ns g with
 | false => exact mat_right h h1
 | true =>
  by_cases h2 : at_ < 0
  · exact mat_low h h1 h2
  by_cases h3 : (t.length : Int) < at_
  · exact mat_high h h1 h2 h3
  by_cases h4 : fuel < 0
  · exact mat_fuel h h1 h2 h3 h4
  obtain ⟨i,rfl⟩:=Int.eq_ofNat_of_zero_le (show 0 ≤ at_ by omega)
  obtain ⟨f,rfl⟩:=Int.eq_ofNat_of_zero_le (show 0 ≤ fuel by omega)
  exact mat_good i f h h1 (by omega) (by omega)
end
end Go.Proofs.Ytbdfhmefjfaofaa
