/- Contracts and plain facts: M54. -/
import Derived.Test.YtbdfhmefjfaofaaM53
set_option linter.unusedVariables false
set_option linter.unusedSimpArgs false
set_option maxRecDepth 100000
set_option maxHeartbeats 32000000
namespace Go.Proofs.Ytbdfhmefjfaofaa
open Go.RowKit
theorem build_pt0 (a : Int) (w : World) : (Instr.build 71 #[(0,.int .i64 a),(1,.agg (hitC spNo))]).run Try.prog w = .ok (.agg ((.int .i64 a :: hitL spNo).toArray)) w:=run_build w _ _ _ (by kernel_rfl)
theorem yields_pt0 {ops : Array Oper} {S : World → Prop} {o : Oper} {ac : Act} (a : Nat) (x y : Operand) (hgd : o.guard = none) (ho : o.op = .build 71 #[(0,x),(1,y)]) (hx : ac.eval x = .int .i64 (a : Int)) (hy : ac.eval y = .agg (hitC spNo)) : YieldsIf Try.prog ops S o (.agg (ptC (pt0 a))) ac :=
 Or.inl ⟨by simp [Region.wanted,hgd],fun w _ => by
  unfold execOp
  simp only [ho,Sem.run_bind,List.map_toArray,List.map_cons,List.map_nil,hx,hy,build_pt0,Result.andThen_ok]
  rfl⟩
def SBe (H H1 : Nat) (RE C0 : Array Value) (w' : World) : Prop:=Held w' H 24 RE ∧ Held w' H1 31 C0
theorem SBe.below {H H1 : Nat} {RE C0 : Array Value} {w1 w2 : World} (h : SBe H H1 RE C0 w1) (hb : Below w1.heap.size w1 w2) : SBe H H1 RE C0 w2:=⟨h.1.keep hb,h.2.keep hb⟩
theorem wpList_load_hitG {ops : Array Oper} {rest : List Oper} {o : Oper} {a : Act} {w : World} {Q : Exit → Act → World → Prop} (hw : Region.wanted o (yielded ops a.tmps) = true) (x : Operand) (ho : o.op = .load 31 x) (H : Nat) (hx : a.eval x = .pointer (some ⟨H,0,none⟩)) (C : Array Value) (hs : C.size = 20) (hh : Held w H 31 C)
    (h : wpList Try.prog ops Q rest (a.put o.dst (.agg C)) w) : wpList Try.prog ops Q (o :: rest) a w :=
 wpList_step fun K hK => by
  simp only [hw,if_true]
  exact wp_load_mid 31 x ho H 0 hx C.toList _ hh.range Try.underlying31 rfl (by rw [Array.length_toList,hs];exact size_hit) (hK _ _ h)
theorem bestF_next (a : Nat) (l : List Pt) {k : Nat} (hk : k < l.length) : bestF none ((l.take (k + 1)).map (hitS a)) = some (match bestF none ((l.take k).map (hitS a)) with | none => hitS a (l[k]'hk) | some m => if bet (hitS a (l[k]'hk)) m then hitS a (l[k]'hk) else m):=by
 rw [show l.take (k + 1) = l.take k ++ [l[k]'hk] by rw [List.take_add_one,List.getElem?_eq_getElem hk];rfl,List.map_append,bestF_app]
 cases bestF none ((l.take k).map (hitS a)) <;> rfl
def BestQ (w : World) (ns : List Nod) (t : List UInt8) (a : Nat) (e : Ending) (w' : World) : Prop :=
 (∃ l,Rch ns t ((ns.length : Int) - 1) (pt0 a) l ∧ e = .returned (.tuple #[hitV (ansS (bestF none (l.map (hitS a)))),.bool (bestF none (l.map (hitS a))).isSome])) ∧ Below w.heap.size w w'
section
variable {w w' w1 : World} {B : Nat} {An : Option Addr} {nn cn : Nat} {At : Option Addr} {nt ct : Nat} {ns : List Nod} {t : List UInt8} {g : Int} {a : Nat} {D : Nat} {p : Pt} {F : Int → Pt → Prop}
theorem rBest_any (h : Thru w B An nn cn At nt ct ns t g) (ha : a ≤ t.length) (hF : Bnd ns t F) (hst : F ((ns.length : Int) - 1) (pt0 a)) :
    Calls Try.prog 13 #[.agg #[.slice An nn cn,.int .i64 g],.slice At nt ct,.int .i64 (a : Int)] w (BestQ w ns t a):=by
 have hrt:=h.rt
 have hn1 : 1 ≤ ns.length:=by have:=h.n1;have:=h.nn_;omega
 have hnk:=h.nk
 obtain ⟨m,hm⟩ : ∃ m : Nat,ns.length = m + 1:=⟨ns.length - 1,by omega⟩
 have hmI : (ns.length : Int) - 1 = (m : Int):=by omega
 rw [hmI] at hst
 have hw1 : IntKind.i64.wrap ((nn : Int) - 1) = (m : Int):=by rw [show (nn : Int) - 1 = (m : Int) by have:=h.nn_;omega];exact IntWalk.i64_in _ (by have:=h.nn_;omega)
 have hp0 : POK ns t g a (pt0 a):=⟨nlr _,ha,pt0_lies _ _ _,fun _ hx => nomatch hx⟩
 have hR:=lhi (fun (w' : World) (hb : Below w.heap.size w w') => show Calls Try.prog 26 #[.agg #[.slice An nn cn,.int .i64 g],.slice At nt ct,.int .i64 (m : Int),.agg (ptC (pt0 a))] w' (RchQ w' ns t m (pt0 a)) from
  reach_any hF (m + 1) w' m (pt0 a) (h.below (hb.mono h.base)) (by omega) hp0 hst (by omega))
 have hln:=lhi (fun (l : List Pt) (hl : Rch ns t (m : Int) (pt0 a) l) => show l.length ≤ 500000000000 from hF.rch hst hl)
 have hmI':=lhi hmI
 have hm':=lhi hm
 have hnnh:=lhi h.nn_
 clear h hst hF hrt hn1 hnk hmI hm hp0
 have hb2:=lhi (((Below.refl w.heap.size w).alloc (nlr _) (.cells #[.slice An nn cn,.int .i64 g] 24)).alloc (by simp) (.cells #[.int .i64 0,.int .i64 0,.int .i64 0,.int .i64 0,.int .i64 0,.int .i64 0,.int .i64 0,.int .i64 0,.int .i64 0,.int .i64 0,.int .i64 0,.int .i64 0,.int .i64 0,.int .i64 0,.int .i64 0,.int .i64 0,.int .i64 0,.int .i64 0,.int .i64 0,.int .i64 0] 31))
 have hS2:=lhi (show SBe w.heap.size (w.heap.size + 1) #[.slice An nn cn,.int .i64 g] #[.int .i64 0,.int .i64 0,.int .i64 0,.int .i64 0,.int .i64 0,.int .i64 0,.int .i64 0,.int .i64 0,.int .i64 0,.int .i64 0,.int .i64 0,.int .i64 0,.int .i64 0,.int .i64 0,.int .i64 0,.int .i64 0,.int .i64 0,.int .i64 0,.int .i64 0,.int .i64 0] _ from ⟨(held_new w 24 #[.slice An nn cn,.int .i64 g]).alloc (.cells #[.int .i64 0,.int .i64 0,.int .i64 0,.int .i64 0,.int .i64 0,.int .i64 0,.int .i64 0,.int .i64 0,.int .i64 0,.int .i64 0,.int .i64 0,.int .i64 0,.int .i64 0,.int .i64 0,.int .i64 0,.int .i64 0,.int .i64 0,.int .i64 0,.int .i64 0,.int .i64 0] 31),held_new2 w (.cells #[.slice An nn cn,.int .i64 g] 24) 31 #[.int .i64 0,.int .i64 0,.int .i64 0,.int .i64 0,.int .i64 0,.int .i64 0,.int .i64 0,.int .i64 0,.int .i64 0,.int .i64 0,.int .i64 0,.int .i64 0,.int .i64 0,.int .i64 0,.int .i64 0,.int .i64 0,.int .i64 0,.int .i64 0,.int .i64 0,.int .i64 0]⟩)
 go_enter Try.func13,Try.ntmps13
 go_upto_region 1 with fail
 generalize (w.alloc (.cells #[.slice An nn cn,.int .i64 g] 24)).alloc (.cells #[.int .i64 0,.int .i64 0,.int .i64 0,.int .i64 0,.int .i64 0,.int .i64 0,.int .i64 0,.int .i64 0,.int .i64 0,.int .i64 0,.int .i64 0,.int .i64 0,.int .i64 0,.int .i64 0,.int .i64 0,.int .i64 0,.int .i64 0,.int .i64 0,.int .i64 0,.int .i64 0] 31) = w2 at *
 generalize hH1 : w.heap.size + 1 = H1 at *
 have hlo:=lhi (show w.heap.size ≤ H1 from by rw [← hH1];exact Nat.le_succ _)
 clear hH1
 have hSd:=lhi (show SBe w.heap.size H1 #[.slice An nn cn,.int .i64 g] #[.int .i64 0,.int .i64 0,.int .i64 0,.int .i64 0,.int .i64 0,.int .i64 0,.int .i64 0,.int .i64 0,.int .i64 0,.int .i64 0,.int .i64 0,.int .i64 0,.int .i64 0,.int .i64 0,.int .i64 0,.int .i64 0,.int .i64 0,.int .i64 0,.int .i64 0,.int .i64 0] w2.drew from hS2.out.below (below_drewN (Below.refl _ _) 1))
 have hb2d:=lhi (show Below w.heap.size w w2.drew from below_drewN hb2.out 1)
 go_wp2
 refine wp_region_held_drew (S:=SBe w.heap.size H1 #[.slice An nn cn,.int .i64 g] #[.int .i64 0,.int .i64 0,.int .i64 0,.int .i64 0,.int .i64 0,.int .i64 0,.int .i64 0,.int .i64 0,.int .i64 0,.int .i64 0,.int .i64 0,.int .i64 0,.int .i64 0,.int .i64 0,.int .i64 0,.int .i64 0,.int .i64 0,.int .i64 0,.int .i64 0,.int .i64 0]) (by kernel_rfl) hSd.out (fun hS => ?_)
 refine wpAnyH_take (i:=0) (v:=?_) rfl (by kernel_rfl) (by kernel_rfl) (by kernel_rfl) (fun _ _ _ h => h) (Or.inl ⟨by rfl,?_⟩) hS ?_
 rotate_left
 · (intro w' hS';have ha : w'.cell? ⟨w.heap.size,0,none⟩ = some (.slice An nn cn):=hS'.1.at_ rfl;have hb : w'.cell? ⟨w.heap.size,1,none⟩ = some (.int .i64 g):=hS'.1.at_ rfl;go_simp;try with_reducible rfl)
 (try simp only [Act.put,List.getElem_toArray,List.getElem_cons_zero,List.getElem_cons_succ,List.setIfInBounds_toArray,List.set_cons_zero,List.set_cons_succ])
 refine wpAnyH_take (i:=1) (v:=?_) rfl (by kernel_rfl) (by kernel_rfl) (by kernel_rfl) (fun _ _ _ h => h) (Or.inl ⟨by rfl,?_⟩) hS ?_
 rotate_left
 · (intro w' hS';go_simp;try with_reducible rfl)
 (try simp only [Act.put,List.getElem_toArray,List.getElem_cons_zero,List.getElem_cons_succ,List.setIfInBounds_toArray,List.set_cons_zero,List.set_cons_succ])
 refine wpAnyH_take (i:=2) (v:=?_) rfl (by kernel_rfl) (by kernel_rfl) (by kernel_rfl) (fun _ _ _ h => h) (Or.inl ⟨by rfl,?_⟩) hS ?_
 rotate_left
 · (intro w' hS';go_simp;try with_reducible rfl)
 (try simp only [Act.put,List.getElem_toArray,List.getElem_cons_zero,List.getElem_cons_succ,List.setIfInBounds_toArray,List.set_cons_zero,List.set_cons_succ])
 refine wpAnyH_take (i:=3) (v:=?_) rfl (by kernel_rfl) (by kernel_rfl) (by kernel_rfl) (fun _ _ _ h => h) (Or.inl ⟨by rfl,?_⟩) hS ?_
 rotate_left
 · (intro w' hS';have ha : w'.cell? ⟨w.heap.size,0,none⟩ = some (.slice An nn cn):=hS'.1.at_ rfl;go_simp;try with_reducible rfl)
 (try simp only [Act.put,List.getElem_toArray,List.getElem_cons_zero,List.getElem_cons_succ,List.setIfInBounds_toArray,List.set_cons_zero,List.set_cons_succ])
 refine wpAnyH_take (i:=4) (v:=?_) rfl (by kernel_rfl) (by kernel_rfl) (by kernel_rfl) (fun _ _ _ h => h) (Or.inl ⟨by rfl,?_⟩) hS ?_
 rotate_left
 · (intro w' hS';go_simp;try with_reducible rfl)
 (try simp only [Act.put,List.getElem_toArray,List.getElem_cons_zero,List.getElem_cons_succ,List.setIfInBounds_toArray,List.set_cons_zero,List.set_cons_succ])
 refine wpAnyH_take (i:=5) (v:=?_) rfl (by kernel_rfl) (by kernel_rfl) (by kernel_rfl) (fun _ _ _ h => h) (Or.inl ⟨by rfl,?_⟩) hS ?_
 rotate_left
 · (intro w' hS';go_simp;try with_reducible rfl)
 (try simp only [Act.put,List.getElem_toArray,List.getElem_cons_zero,List.getElem_cons_succ,List.setIfInBounds_toArray,List.set_cons_zero,List.set_cons_succ])
 refine wpAnyH_take (i:=6) (v:=?_) rfl (by kernel_rfl) (by kernel_rfl) (by kernel_rfl) (fun _ _ _ h => h) (Or.inl ⟨by rfl,?_⟩) hS ?_
 rotate_left
 · (intro w' hS';go_simp;try with_reducible rfl)
 (try simp only [Act.put,List.getElem_toArray,List.getElem_cons_zero,List.getElem_cons_succ,List.setIfInBounds_toArray,List.set_cons_zero,List.set_cons_succ])
 refine wpAnyH_ready (rs:=[7]) (by kernel_rfl) (by simp) ?_
 refine AllReadyH.cons rfl (fun K hK => ?_) AllReadyH.nil
 go_simp
 refine (rNone_any _).mono ?_
 rintro e w3 ⟨rfl,hb3⟩
 go_simp
 refine hK.out _ _ (hS.below hb3) (fun _ => ?_)
 clear hK K
 replace hS:=hS.below hb3
 (try simp only [Act.put,List.getElem_toArray,List.getElem_cons_zero,List.getElem_cons_succ,List.setIfInBounds_toArray,List.set_cons_zero,List.set_cons_succ])
 have hb3w:=lhi (hb2d.out.trans (hb3.mono hb2d.out.size))
 refine wpAnyH_take (i:=8) (v:=.agg (ptC (pt0 a))) rfl (by kernel_rfl) (by kernel_rfl) (by kernel_rfl) (fun _ _ _ h => h) (yields_pt0 a (.tmp 18) (.tmp 19) rfl rfl rfl rfl) hS ?_
 (try simp only [Act.put,List.getElem_toArray,List.getElem_cons_zero,List.getElem_cons_succ,List.setIfInBounds_toArray,List.set_cons_zero,List.set_cons_succ])
 refine wpAnyH_ready (rs:=[9]) (by kernel_rfl) (by simp) ?_
 refine AllReadyH.cons rfl (fun K hK => ?_) AllReadyH.nil
 go_simp
 refine (hR.out _ hb3w.out).mono ?_
 rintro e w5 ⟨⟨vb,l,rfl,hRl,hPl⟩,hb5'⟩
 go_simp
 refine hK.out _ _ (hS.below hb5') (fun _ => ?_)
 clear hK K
 replace hS:=hS.below hb5'
 (try simp only [Act.put,List.getElem_toArray,List.getElem_cons_zero,List.getElem_cons_succ,List.setIfInBounds_toArray,List.set_cons_zero,List.set_cons_succ])
 refine wpAnyH_take (i:=10) (v:=?_) rfl (by kernel_rfl) (by kernel_rfl) (by kernel_rfl) (fun _ _ _ h => h) (Or.inl ⟨by rfl,?_⟩) hS ?_
 rotate_left
 · (intro w' hS';go_simp;try with_reducible rfl)
 (try simp only [Act.put,List.getElem_toArray,List.getElem_cons_zero,List.getElem_cons_succ,List.setIfInBounds_toArray,List.set_cons_zero,List.set_cons_succ])
 refine wpAnyH_done (by kernel_rfl) ?_ _
 have hB5:=lhi (hb3w.out.trans (hb5'.mono hb3w.out.size))
 have hS5:=lhi hS
 replace hPl:=lhi hPl
 have hl4:=hln.out l hRl
 replace hRl:=lhi hRl
 clear hS hSd hb3 hb5' hb2 hS2 hb2d hR
 obtain ⟨Ab,cb,rfl,_⟩:=hPl.out.prow
 generalize hnl : l.length = n at *
 replace hnl:=lhi hnl
 have hnull0:=lhi (held_new w5 31 #[.int .i64 0,.int .i64 0,.int .i64 0,.int .i64 0,.int .i64 0,.int .i64 0,.int .i64 0,.int .i64 0,.int .i64 0,.int .i64 0,.int .i64 0,.int .i64 0,.int .i64 0,.int .i64 0,.int .i64 0,.int .i64 0,.int .i64 0,.int .i64 0,.int .i64 0,.int .i64 0])
 have hHB:=lhi (show H1 < w5.heap.size from hS5.out.2.lt)
 go_upto_region 3 with fail
 go_wp2
 go_loopw [10] (fun i wr => ∃ k : Nat,k ≤ n ∧ i = .int .i64 (k : Int) ∧ Held wr w5.heap.size 31 (hitC (ansS (bestF none ((l.take k).map (hitS a))))) ∧ Below w5.heap.size w5 wr) (fun i _ => n - (intOf i).toNat)
 case atStart => exact ⟨0,Nat.zero_le _,rfl,hnull0.out,(Below.refl w5.heap.size w5).alloc (nlr _) _⟩
 case round =>
  obtain ⟨k,hk',rfl,hHb,hbr⟩:=hrel
  have hHb0:=lhi hHb
  have hbr0:=lhi hbr
  clear hHb hbr
  by_cases hlt : k < n
  · have hkx : k < l.length:=by rw [hnl.out];exact hlt
    obtain ⟨G,c',e',_,hG,hrg⟩:=(hPl.out.keep hbr0.out).range hkx
    rw [hnl.out] at e'
    obtain ⟨rfl,rfl⟩ : Ab = some ⟨G,0,none⟩ ∧ cb = c':=by injection e' with e1 _ e2;exact ⟨e1,e2⟩
    have hnx:=lhi (bestF_next a l hkx)
    have hbk:=lhi (show (k = 0 ∧ bestF none ((l.take k).map (hitS a)) = none) ∨ (0 < k ∧ ∃ m,bestF none ((l.take k).map (hitS a)) = some m) from by
     cases k with
     | zero => exact .inl ⟨rfl,rfl⟩
     | succ k => exact .inr ⟨Nat.succ_pos _,_,bestF_next a l (by omega)⟩)
    have hz0:=lhi (show wr.cell? ⟨G,k * 21,none⟩ = some (.int .i64 ((l[k]'hkx).i : Int)) from hrg 0 _ rfl)
    have hr10:=lhi (show wr.rangeAt G (k * 21 + 1) (hitL (l[k]'hkx).sp) from fun j u hj => by rw [Nat.add_assoc,Nat.add_comm 1 j];exact hrg (j + 1) u hj)
    have hkI : (k : Int) < (n : Int):=by omega
    have hw2 : IntKind.i64.wrap ((k : Int) + 1) = (k : Int) + 1:=IntWalk.i64_in _ (by omega)
    have hGh:=lhi hG
    clear hrg e' hG
    generalize hqk : l[k]'hkx = q at *
    replace hqk:=lhi hqk
    generalize hbb : bestF none ((l.take k).map (hitS a)) = b at *
    replace hbb:=lhi hbb
    have hMl:=lhi (hitL_len q.sp)
    have hnull:=lhi (held_new wr 31 #[.int .i64 0,.int .i64 0,.int .i64 0,.int .i64 0,.int .i64 0,.int .i64 0,.int .i64 0,.int .i64 0,.int .i64 0,.int .i64 0,.int .i64 0,.int .i64 0,.int .i64 0,.int .i64 0,.int .i64 0,.int .i64 0,.int .i64 0,.int .i64 0,.int .i64 0,.int .i64 0])
    have hb6:=lhi (below_row ((Below.refl wr.heap.size wr).alloc (nlr _) (.cells #[.int .i64 0,.int .i64 0,.int .i64 0,.int .i64 0,.int .i64 0,.int .i64 0,.int .i64 0,.int .i64 0,.int .i64 0,.int .i64 0,.int .i64 0,.int .i64 0,.int .i64 0,.int .i64 0,.int .i64 0,.int .i64 0,.int .i64 0,.int .i64 0,.int .i64 0,.int .i64 0] 31)) (nlr _) (hitC q.sp))
    have hK6:=lhi (hnull.out.row (hitC q.sp))
    have hCL:=lhi (show hitC q.sp = (hitL q.sp).toArray from rfl)
    have hMs:=lhi (show (hitL q.sp).toArray.size = 20 from rfl)
    have hMo:=lhi (show (hitL q.sp).toArray.all (·.oneCell') = true from hit_cells q.sp)
    rw [show hitC q.sp = (hitL q.sp).toArray from rfl] at hb6
    generalize hhl : hitL q.sp = L at *
    replace hhl:=lhi hhl
    go_upto_region 7 with (first
     | (refine wpList_load_mid rfl 29 (.tmp 31) rfl G (k * 21 + 1) rfl L _ hr10.out Try.underlying29 rfl (by rw [hMl.out];exact size_ten) ?_)
     | (refine wpList_build_hit rfl (.tmp 32) rfl q.sp L.toArray hCL.out rfl ?_)
     | (refine wpList_store_row rfl 31 (.tmp 11) (.tmp 33) rfl wr.heap.size L.toArray rfl rfl 31 _ hnull.out (by rw [hMs.out];exact size_hit) (by rw [hMs.out];rfl) hMo.out ?_))
    rw [hCL.out] at hK6
    have hne:=lhi (show w5.heap.size ≤ wr.heap.size ∧ w5.heap.size < wr.heap.size from ⟨hbr0.out.size,hHb0.out.lt⟩)
    have c0 : ((wr.alloc (.cells #[.int .i64 0,.int .i64 0,.int .i64 0,.int .i64 0,.int .i64 0,.int .i64 0,.int .i64 0,.int .i64 0,.int .i64 0,.int .i64 0,.int .i64 0,.int .i64 0,.int .i64 0,.int .i64 0,.int .i64 0,.int .i64 0,.int .i64 0,.int .i64 0,.int .i64 0,.int .i64 0] 31)).setRow wr.heap.size L.toArray).cell? ⟨G,k * 21,none⟩ = some (.int .i64 (q.i : Int)):=(hb6.out.cell (p:=⟨G,k * 21,none⟩) hGh.out).trans hz0.out
    generalize (wr.alloc (.cells #[.int .i64 0,.int .i64 0,.int .i64 0,.int .i64 0,.int .i64 0,.int .i64 0,.int .i64 0,.int .i64 0,.int .i64 0,.int .i64 0,.int .i64 0,.int .i64 0,.int .i64 0,.int .i64 0,.int .i64 0,.int .i64 0,.int .i64 0,.int .i64 0,.int .i64 0,.int .i64 0] 31)).setRow wr.heap.size L.toArray = w6 at *
    rw [← hCL.out] at hK6
    generalize hKK : wr.heap.size = K at *
    have ⟨z0,z1⟩:=span_there hK6.out (k:=0) (by decide)
    have y0:=hK6.out.thawed 0
    have y1:=hK6.out.thawed 1
    have hK7:=lhi (show Held ((w6.setCell ⟨K,0,none⟩ (.int .i64 (a : Int))).setCell ⟨K,1,none⟩ (.int .i64 (q.i : Int))) K 31 (hitC (hitS a q)) from hK6.out.span (k:=0) (by decide) ((a : Int),(q.i : Int)))
    have hb7:=lhi (show Below K wr ((w6.setCell ⟨K,0,none⟩ (.int .i64 (a : Int))).setCell ⟨K,1,none⟩ (.int .i64 (q.i : Int))) from (hb6.out.setCell (p:=⟨K,0,none⟩) (nlr _) _).setCell (p:=⟨K,1,none⟩) (nlr _) _)
    have hKKh:=lhi hKK
    clear hKK
    clear hnull hb6 hK6 hCL hMs hMo hr10 hz0
    go_upto_region 8 with fail
    generalize (w6.setCell ⟨K,0,none⟩ (.int .i64 (a : Int))).setCell ⟨K,1,none⟩ (.int .i64 (q.i : Int)) = w7 at *
    clear z0 z1 y0 y1 c0
    have hHb7:=lhi (hHb0.out.keep (hKKh.out.symm ▸ hb7.out))
    have hB7:=lhi (show Below w5.heap.size w5 w7 from hbr0.out.trans (hb7.out.mono hne.out.1))
    have hMs:=lhi (hitC_size (hitS a q))
    have hMo:=lhi (hit_cells (hitS a q))
    clear hHb0 hb7
    rcases hbk.out with ⟨hk0,hbn⟩ | ⟨hk0,m,hbm⟩
    · have e0 : ((k : Int) == 0) = true:=by rw [beq_iff_eq];omega
      have hfin:=lhi (show bestF none ((l.take (k + 1)).map (hitS a)) = some (hitS a q) from by rw [hnx.out,hbn])
      replace hk0:=lhi hk0
      replace hbn:=lhi hbn
      generalize hcm : hitC (hitS a q) = CM at *
      replace hcm:=lhi hcm
      go_wp2_with (first
       | (refine wpList_load_row rfl 31 (.tmp 11) rfl K rfl 31 _ (0,0) _ hK7.out Try.underlying31 rfl (by rw [hMs.out];exact size_hit) ?_)
       | (refine wpList_store_row rfl 31 (.tmp 9) (.tmp 50) rfl w5.heap.size CM rfl rfl 31 _ hHb7.out (by rw [hMs.out];exact size_hit) (by rw [hMs.out];rfl) hMo.out ?_))
      go_roundw
      case rel => exact ⟨k + 1,by omega,rfl,by rw [hfin.out];show Held _ _ _ (hitC (hitS a q));rw [hcm.out];exact hHb7.out.row _,below_row hB7.out (nlr _) _⟩
      case measure => simp [intOf];omega
    · have e0 : ((k : Int) == 0) = false:=by rw [bef];omega
      have hm:=lhi (show b = some m from hbm)
      have hH8:=lhi (show Held w7 w5.heap.size 31 (hitC m) from by have h:=hHb7.out;rw [hm.out] at h;exact h)
      have hBt:=lhi (show Calls Try.prog 27 #[.agg (hitC (hitS a q)),.agg (hitC m)] w7 fun e w' => e = .returned (.bool (bet (hitS a q) m)) ∧ Below w7.heap.size w7 w' from rBetter_any (hitS a q) m w7)
      have hM0:=lhi (hitC_size m)
      have hfin:=lhi (show bestF none ((l.take (k + 1)).map (hitS a)) = some (if bet (hitS a q) m then hitS a q else m) from by rw [hnx.out,hbm])
      replace hk0:=lhi hk0
      clear hbm hHb7 hnx hbk
      generalize hcm : hitC (hitS a q) = CM at *
      replace hcm:=lhi hcm
      generalize hc0 : hitC m = C0 at *
      replace hc0:=lhi hc0
      cases hbt : bet (hitS a q) m with
      | false =>
       replace hfin:=lhi (by rw [hbt] at hfin;exact hfin.out : bestF none ((l.take (k + 1)).map (hitS a)) = some (if false = true then hitS a q else m))
       rw [hbt] at hBt
       replace hbt:=lhi hbt
       go_wp2_with (first
        | (refine wpList_load_hitG (by rfl) (.tmp 11) rfl K rfl CM hMs.out hK7.out ?_)
        | (refine wpList_load_hitG (by rfl) (.tmp 9) rfl w5.heap.size rfl C0 hM0.out hH8.out ?_)
        | (go_at_call 27;refine hBt.out.mono ?_;rintro e w8 ⟨rfl,hb8⟩))
       go_roundw
       case rel => exact ⟨k + 1,by omega,rfl,by rw [hfin.out];show Held _ _ _ (hitC m);rw [hc0.out];exact hH8.out.keep hb8,hB7.out.trans (hb8.mono hB7.out.size)⟩
       case measure => simp [intOf];omega
      | true =>
       replace hfin:=lhi (by rw [hbt] at hfin;exact hfin.out : bestF none ((l.take (k + 1)).map (hitS a)) = some (if true = true then hitS a q else m))
       rw [hbt] at hBt
       replace hbt:=lhi hbt
       go_wp2_with (first
        | (refine wpList_load_hitG (by rfl) (.tmp 9) rfl w5.heap.size rfl C0 hM0.out hH8.out ?_)
        | (go_at_call 27;refine hBt.out.mono ?_;rintro e w8 ⟨rfl,hb8⟩;have hK8:=lhi (hK7.out.keep hb8);have hH9:=lhi (hH8.out.keep hb8))
        | (have _h:=hH9;refine wpList_load_row rfl 31 (.tmp 11) rfl K rfl 31 _ (0,0) _ hK8.out Try.underlying31 rfl (by rw [hMs.out];exact size_hit) ?_)
        | (refine wpList_load_hitG (by rfl) (.tmp 11) rfl K rfl CM hMs.out hK7.out ?_)
        | (refine wpList_store_row rfl 31 (.tmp 9) (.tmp 50) rfl w5.heap.size CM rfl rfl 31 _ hH9.out (by rw [hMs.out];exact size_hit) (by rw [hMs.out,hM0.out]) hMo.out ?_))
       go_roundw
       case rel => exact ⟨k + 1,by omega,rfl,by rw [hfin.out];show Held _ _ _ (hitC (hitS a q));rw [hcm.out];exact hH9.out.row _,below_row (hB7.out.trans (hb8.mono hB7.out.size)) (nlr _) _⟩
       case measure => simp [intOf];omega
  · obtain rfl : k = n:=by omega
    have hall:=lhi (show l.take k = l from by rw [← hnl.out,List.take_length])
    have hHz:=lhi (show Held wr w5.heap.size 31 (hitC (ansS (bestF none (l.map (hitS a))))) from by have h:=hHb0.out;rw [hall.out] at h;exact h)
    have hH1:=lhi (show Held wr H1 31 #[.int .i64 0,.int .i64 0,.int .i64 0,.int .i64 0,.int .i64 0,.int .i64 0,.int .i64 0,.int .i64 0,.int .i64 0,.int .i64 0,.int .i64 0,.int .i64 0,.int .i64 0,.int .i64 0,.int .i64 0,.int .i64 0,.int .i64 0,.int .i64 0,.int .i64 0,.int .i64 0] from hS5.out.2.keep hbr0.out)
    have hso : decide ((0 : Int) < (k : Int)) = (bestF none (l.map (hitS a))).isSome:=by
     cases hl0 : l with
     | nil => have:=hnl.out;rw [hl0] at this;simp at this;subst this;rfl
     | cons x r =>
      have h1 : k = (x :: r).length:=by rw [← hl0];exact hnl.out.symm
      rw [decide_eq_true (by rw [h1];simp only [List.length_cons];omega)]
      cases hb : bestF none ((x :: r).map (hitS a)) with
      | none => rw [bestF_none] at hb;cases hb
      | some m => rfl
    have hso2 : decide (0 < k) = (bestF none (l.map (hitS a))).isSome:=by rw [← hso];exact decide_eq_decide.2 (by omega)
    have hMs:=lhi (hitC_size (ansS (bestF none (l.map (hitS a)))))
    have hMo:=lhi (hit_cells (ansS (bestF none (l.map (hitS a)))))
    have hRes:=lhi (show ∃ l',Rch ns t ((ns.length : Int) - 1) (pt0 a) l' ∧ Ending.returned (.tuple #[hitV (ansS (bestF none (l.map (hitS a)))),.bool (bestF none (l.map (hitS a))).isSome]) = .returned (.tuple #[hitV (ansS (bestF none (l'.map (hitS a)))),.bool (bestF none (l'.map (hitS a))).isSome]) from ⟨l,by rw [hmI'.out];exact hRl.out,rfl⟩)
    have hBB:=lhi (hB5.out.trans (hbr0.out.mono hB5.out.size))
    unfold hitV at hRes
    clear hHb0
    generalize (bestF none (l.map (hitS a))).isSome = bs at *
    generalize hcm : hitC (ansS (bestF none (l.map (hitS a)))) = CM at *
    replace hcm:=lhi hcm
    go_wp2_with (first
     | (refine wpList_load_row rfl 31 (.tmp 9) rfl w5.heap.size rfl 31 _ (0,0) _ hHz.out Try.underlying31 rfl (by rw [hMs.out];exact size_hit) ?_)
     | (refine wpList_store_row rfl 31 (.tmp 6) (.tmp 51) rfl H1 CM rfl rfl 31 _ hH1.out (by rw [hMs.out];exact size_hit) (by rw [hMs.out];rfl) hMo.out ?_))
    exact bodyPost_ret (results_cell_two Try.results13 _ _ H1 31 CM (0,0) _ rfl rfl (hH1.out.row _) Try.underlying31 rfl (by rw [hMs.out];exact size_hit)) rfl ⟨hRes.out,below_row hBB.out hlo.out _⟩
end
end Go.Proofs.Ytbdfhmefjfaofaa
