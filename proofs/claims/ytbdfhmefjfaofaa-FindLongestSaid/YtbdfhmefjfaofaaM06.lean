/- Contracts and plain facts: M06. -/
import Derived.Test.YtbdfhmefjfaofaaM05
set_option linter.unusedVariables false
set_option linter.unusedSimpArgs false
set_option maxRecDepth 100000
set_option maxHeartbeats 32000000
namespace Go.Proofs.Ytbdfhmefjfaofaa
open Go.RowKit
def RelRt (W : World) (ns : List Nod) (g n : Nat) (rv : Array Value) (i : Value) (wr : World) : Prop :=
 ∃ k : Nat,k ≤ n ∧ i = .int .i64 (k : Nat) ∧ (∀ j (hj : j < ns.length),j < k → fitsN (ns[j]'hj) (j : Int) (g : Int) = true) ∧ Held wr W.heap.size 24 rv ∧
  Held wr (W.heap.size + 1) 3 (rowC n (cntI ((ns.take k).flatMap partsN))) ∧ Held wr (W.heap.size + 2) 3 (rowC (g + 1) (grpsN (ns.take k))) ∧ Below W.heap.size W wr
theorem RelRt.mk {W : World} {ns : List Nod} {g n : Nat} {rv : Array Value} {i : Value} {wr : World} (h : ∃ k : Nat,k ≤ n ∧ i = .int .i64 (k : Nat) ∧ (∀ j (hj : j < ns.length),j < k → fitsN (ns[j]'hj) (j : Int) (g : Int) = true) ∧ Held wr W.heap.size 24 rv ∧
    Held wr (W.heap.size + 1) 3 (rowC n (cntI ((ns.take k).flatMap partsN))) ∧ Held wr (W.heap.size + 2) 3 (rowC (g + 1) (grpsN (ns.take k))) ∧ Below W.heap.size W wr) : RelRt W ns g n rv i wr:=h
theorem nod_zero_lit (w : World) : Held (w.alloc (.cells #[.int .i64 0,.int .i64 0,.int .i64 0,.int .i64 0,.int .i64 0,.int .i64 0,.int .u64 0,.int .u64 0,.int .u64 0,.int .u64 0] 54)) w.heap.size 54 #[.int .i64 0,.int .i64 0,.int .i64 0,.int .i64 0,.int .i64 0,.int .i64 0,.int .u64 0,.int .u64 0,.int .u64 0,.int .u64 0]:=held_new _ _ _
theorem held_new3 (w : World) (o1 o2 : Obj) (t : TypeId) (cs : Array Value) : Held (((w.alloc o1).alloc o2).alloc (.cells cs t)) (w.heap.size + 2) t cs:=by
 have:=held_new ((w.alloc o1).alloc o2) t cs
 rwa [show ((w.alloc o1).alloc o2).heap.size = w.heap.size + 2 by simp] at this
theorem grown_set (w : World) (p : Addr) (u : Value) : w.grownBy (w.setCell p u) (some p.block):=by
 have hb : Below 0 w (w.setCell p u):=(Below.refl 0 w).setCell (Nat.zero_le _) u
 exact ⟨hb.os,hb.tape,hb.output,hb.size,fun k _ hne => Below.heap_setCell w p u k (fun e => hne (by rw [e]))⟩
theorem grown_trans {w w1 w2 : World} {r : Option Nat} (h1 : w.grownBy w1 r) (h2 : w1.grownBy w2 r) : w.grownBy w2 r :=
 ⟨h2.os.trans h1.os,h2.tape.trans h1.tape,h2.output.trans h1.output,Nat.le_trans h1.size h2.size,fun k hk hne => (h2.block k (nll hk h1.size) hne).trans (h1.block k hk hne)⟩
theorem flat_snoc (ns : List Nod) (k : Nat) (h : k < ns.length) : (ns.take (k + 1)).flatMap partsN = (ns.take k).flatMap partsN ++ partsN (ns[k]'h):=by
 rw [List.take_succ_eq_append_getElem h,List.flatMap_append];simp
theorem grps_snoc (ns : List Nod) (k : Nat) (h : k < ns.length) (q : Nat) (hk : (ns[k]'h).kind = 5) (hq : (ns[k]'h).grp = (q : Int)) (i : Nat) : grpsN (ns.take (k + 1)) i = if i = q then grpsN (ns.take k) q + 1 else grpsN (ns.take k) i:=by
 unfold grpsN
 rw [List.take_succ_eq_append_getElem h,List.filter_append,List.map_append]
 simp only [List.filter_cons,hk,decide_true,if_true,List.filter_nil,List.map_cons,List.map_nil,hq]
 exact cntI_snoc _ q i
theorem grps_same (ns : List Nod) (k : Nat) (h : k < ns.length) (hk : (ns[k]'h).kind ≠ 5) : grpsN (ns.take (k + 1)) = grpsN (ns.take k):=by
 unfold grpsN
 rw [List.take_succ_eq_append_getElem h,List.filter_append,List.map_append]
 simp [hk]
def Rel2t (w5 : World) (B1 n m : Nat) (P l : List Int) (i : Value) (wr : World) : Prop :=
 ∃ j : Nat,j ≤ m ∧ i = .int .i64 (j : Nat) ∧ Held wr B1 3 (rowC n (cntI (P ++ l.take j))) ∧ w5.grownBy wr (some B1)
theorem Rel2t.mk {w5 : World} {B1 n m : Nat} {P l : List Int} {i : Value} {wr : World} (h : ∃ j : Nat,j ≤ m ∧ i = .int .i64 (j : Nat) ∧ Held wr B1 3 (rowC n (cntI (P ++ l.take j))) ∧ w5.grownBy wr (some B1)) : Rel2t w5 B1 n m P l i wr:=h
structure St (W w : World) (G : Nat) (nd : Nod) (rv r1 r2 : Array Value) : Prop where
 re : Held w W.heap.size 24 rv
 a : Held w (W.heap.size + 1) 3 r1
 b : Held w (W.heap.size + 2) 3 r2
 nd : Held w G 54 (nodC nd)
 low : Below W.heap.size W w
theorem St.below {W w w' : World} {G : Nat} {nd : Nod} {rv r1 r2 : Array Value} (h : St W w G nd rv r1 r2) (hb : Below w.heap.size w w') : St W w' G nd rv r1 r2 :=
 ⟨h.re.keep hb,h.a.keep hb,h.b.keep hb,h.nd.keep hb,h.low.trans (hb.mono h.low.size)⟩
theorem right_go (A : Option Addr) (n c : Nat) (ns : List Nod) (g : Nat) (B : Nat) (w : World) (hn : n = ns.length) (hnc : n ≤ c) (hm : c ≤ maxLen) (hB : B ≤ w.heap.size) (h : Nods w B A ns) (h1 : 1 ≤ n) (h2 : n ≤ 1000) (h3 : g ≤ 9) :
    Calls Try.prog 21 #[.agg #[.slice A n c,.int .i64 (g : Int)]] w fun e w' => e = .returned (.bool (rightN ns g)) ∧ Below w.heap.size w w':=by
 unfold maxLen at hm
 have hMk1:=make_ints n (by omega)
 have hMk2 : ∀ w,(Instr.makeSlice 59 (.int .i64 ((g : Int) + 1)) (.int .i64 ((g : Int) + 1))).run Try.prog w = .ok (.slice (some ⟨w.heap.size,0,none⟩) (g + 1) (g + 1)) (w.alloc (.cells (rowC (g + 1) (fun _ => 0)) 3)):=fun w => by
  have:=make_ints (g + 1) (by omega) w
  rwa [show ((g + 1 : Nat) : Int) = (g : Int) + 1 by omega] at this
 have hH:=lhi hn
 have hF:=lhi (fun nd (t : Int) w => fits_any nd t (g : Int) w)
 have hP:=lhi (fun nd w => parts_any nd w)
 have hh:=lhi h
 have hBB:=lhi hB
 clear hn h hB
 go_enter Try.func21,Try.ntmps21
 go_wp2
 clear hMk1 hMk2
 go_loopw [5,6,8,40] (fun _ _ _ i wr => RelRt w ns g n #[.slice A n c,.int .i64 (g : Int)] i wr) (fun _ _ _ i _ => n - (intOf i).toNat)
 case atStart =>
  exact RelRt.mk ⟨0,by omega,rfl,fun j hj h => absurd h (by omega),((held_new w _ _).alloc _).alloc _,(held_new2 w _ _ _).alloc _,held_new3 w _ _ _ _,(alloc2_below w _ _).alloc (by simp;omega) _⟩
 case round =>
  obtain ⟨k,hk,rfl,hfit,hRe,hR1,hR2,hb⟩:=hrel
  by_cases hlt : k < n
  · have hkl : k < ns.length:=by have:=hH.out;omega
    obtain ⟨ad,b,o,hA,hp,-,hd⟩:=(hh.out.below (hb.mono hBB.out)).at_ hkl
    subst hA
    have hfl:=lhi (flat_snoc ns k hkl)
    have hg5:=lhi (grps_snoc ns k hkl)
    have hgn:=lhi (grps_same ns k hkl)
    have hno:=lhi (fun h => rightN_fits (g:=(g : Int)) hkl h)
    have hyes:=lhi (fun (h : fitsN (ns[k]'hkl) (k : Int) (g : Int) = true) j (hj : j < ns.length) (hjk : j < k + 1) => show fitsN (ns[j]'hj) (j : Int) (g : Int) = true by
     rcases Nat.lt_or_ge j k with h1 | h1
     · exact hfit j hj h1
     · obtain rfl : j = k:=by omega
       exact h)
    have hPl:=lhi (flat_len (ns.take k))
    have hGl:=lhi (grp_len (ns.take k))
    rw [List.length_take] at hPl hGl
    clear hfit
    generalize ns[k]'hkl = nd at *
    have hS0:=lhi (show St w (wr.alloc (.cells (nodC nd) 54)) wr.heap.size nd _ _ _ from ⟨hRe.alloc _,hR1.alloc _,hR2.alloc _,held_new wr _ _,hb.alloc hb.size _⟩)
    replace hd:=lhi hd
    clear hRe hR1 hR2 hb
    generalize (ns.take k).flatMap partsN = P at *
    by_cases hft : fitsN nd (k : Int) (g : Int) = true
    · have hfp:=lhi (fun p hp => fits_part hft (p:=p) hp)
      have hfg:=lhi (fits_grp hft)
      have hy:=lhi (hyes.out hft)
      have hFk:=lhi (fun w => hF.out nd (k : Int) w)
      rw [hft] at hFk
      have hPk:=lhi (fun w => hP.out nd w)
      clear hno hyes hft hF hP
      go_wp2_with (first
       | (refine wpList_load_mid rfl 54 (.tmp 43) rfl b o rfl (nodL nd) _ hd.out under_nod rfl (nod_info nd) ?_)
       | (refine wpList_store_row rfl 54 (.tmp 6) (.tmp 44) rfl wr.heap.size (nodC nd) rfl rfl 54 _ (nod_zero_lit wr) (nod_size nd) rfl (nod_cells nd) ?_
          rw [World.setRow_alloc_new]
          generalize wr.alloc (.cells (nodC nd) 54) = w3 at *
          generalize wr.heap.size = G at *
          have hgc:=hS0.out.re.at_ (i:=1) rfl
          have hN3:=lhi hS0.out.nd)
       | (refine wpList_load_row rfl 54 (.tmp 6) rfl G rfl 54 _ (0,0) _ hN4.out under_nod rfl (nod_size nd) ?_)
       | (refine wpList_load_row rfl 54 (.tmp 6) rfl G rfl 54 _ (0,0) _ hN3.out under_nod rfl (nod_size nd) ?_)
       | (go_at_call 30;refine (hFk.out w3).mono ?_;rintro e w4 ⟨rfl,hb4⟩;have hS4:=lhi (hS0.out.below hb4);have hN4:=lhi hS4.out.nd;have hN4':=lhi hS4.out.b.lt)
       | (go_at_call 31;refine (hPk.out w4).mono ?_;rintro e w5 ⟨A2,m,c2,rfl,hm,hmc,hc2,hv,hnew,hb5⟩;have hml:=lhi hm;clear hm;have hS5:=lhi (hS4.out.below hb5)))
      clear hN3 hN4 hgc hFk hPk hS0 hS4 hd
      have hBw : w.heap.size + 1 < w4.heap.size:=by
       have:=hS5.out.a.lt
       have h4:=hb4.size
       have h5:=hN4'.out
       omega
      have hrow:=lhi (show ∀ ad,A2 = some ad → ad.block ≠ w.heap.size + 1 from fun ad e => by have:=hnew ad e;omega)
      clear hnew hBw hN4'
      replace hb4:=lhi hb4
      replace hb5:=lhi hb5
      go_loopw [8,54] (fun _ i wr2 => Rel2t w5 (w.heap.size + 1) n m P (partsN nd) i wr2) (fun _ i _ => m - (intOf i).toNat)
      case atStart => exact Rel2t.mk ⟨0,by omega,rfl,by simpa using hS5.out.a,World.grownBy.refl _ _⟩
      case round =>
       rename World => wr2
       obtain ⟨j,hj,rfl,hR2,hgr⟩:=hrel
       by_cases hjm : j < m
       · have hjl : j < (partsN nd).length:=by have:=hml.out;omega
         obtain ⟨ad2,hA2,hab,hd2⟩:=hv.at_ (k:=j) (by rw [List.length_map];exact hjl)
         subst hA2
         rw [List.getElem_map] at hd2
         have hd2' : wr2.cell? (ad2.add j) = some (.int .i64 ((partsN nd)[j]'hjl)):=by
          rw [World.cell?_of_block (hgr.block _ (by rw [block_add];exact hab) (fun e => hrow.out ad2 rfl (by rw [block_add] at e;exact (Option.some.inj e))))]
          exact hd2
         have hq:=hfp.out _ (List.getElem_mem hjl)
         have hsn:=lhi (show (partsN nd).take (j + 1) = (partsN nd).take j ++ [(partsN nd)[j]'hjl] from List.take_succ_eq_append_getElem hjl)
         have hpl2:=lhi (show ((partsN nd).take j).length ≤ 2 by rw [List.length_take];have:=partsN_len nd;omega)
         clear hd2
         generalize (partsN nd)[j]'hjl = p at *
         obtain ⟨q,rfl⟩:=Int.eq_ofNat_of_zero_le hq.1
         have hqn : q < n:=by have:=hq.2;omega
         have hqk : (0 : Int) ≤ (q : Int):=by omega
         have hqk2 : (q : Int) < (n : Int):=by omega
         have hcell:=hR2.at_ (rowC_get n _ q hqn)
         have hthaw:=hR2.thawed q
         have hle:=cntI_le (P ++ (partsN nd).take j) q
         have hPn:=hPl.out
         have hp2:=hpl2.out
         have hle2 : cntI (P ++ (partsN nd).take j) q ≤ 3000:=by
          have:=hle.2
          rw [lla] at this
          omega
         have hle1:=hle.1
         have hnext:=lhi (fun x => (hR2.put q (.int .i64 x)))
         have hset:=lhi (fun x => rowC_set n (cntI (P ++ (partsN nd).take j)) q x)
         have hcs:=lhi (cntI_snoc (P ++ (partsN nd).take j) q)
         have hgr':=lhi hgr
         clear hle hPn hp2 hR2 hq hgr
         generalize hcv : cntI (P ++ (partsN nd).take j) q = cv at *
         replace hcv:=lhi hcv
         go_wp2
         go_roundw
         case rel =>
          refine Rel2t.mk ⟨j + 1,by omega,by go_num,?_,?_⟩
          · have:=hnext.out (cv + 1)
            rw [hset.out] at this
            rw [hsn.out,← List.append_assoc]
            have e : cntI (P ++ (partsN nd).take j ++ [(q : Int)]) = fun i => if i = q then cv + 1 else cntI (P ++ (partsN nd).take j) i:=by
             funext i
             rw [hcs.out]
            rw [e]
            exact this
          · exact grown_trans hgr'.out (grown_set wr2 _ _)
         case measure => simp [intOf];omega
       · obtain rfl : j = m:=by omega
         rw [show (partsN nd).take j = partsN nd from List.take_of_length_le (by have:=hml.out;omega)] at hR2
         have e1 : ∀ {g' : Nat} {t : TypeId} {cs : Array Value},Held w5 g' t cs → t ≠ 3 → Held wr2 g' t cs:=fun h hne => h.grown hgr (fun e => Held.apart h hS5.out.a hne (Option.some.inj e))
         have hlow : Below w.heap.size w wr2:=hS5.out.low.grown hgr (hS5.out.low.size) (fun k e => by have:=Option.some.inj e;omega)
         have hS6:=lhi (show St w wr2 G nd _ (rowC n (cntI (P ++ partsN nd))) (rowC (g + 1) (grpsN (ns.take k))) from
          ⟨e1 hS5.out.re (by decide),hR2,hS5.out.b.grown hgr (fun e => by have:=Option.some.inj e;omega),e1 hS5.out.nd (by decide),hlow⟩)
         clear hS5 hgr hR2 e1 hlow hb4 hb5 hv hrow hml
         by_cases hk5 : nd.kind = 5
         · obtain ⟨hq1,hq2⟩:=hfg.out hk5
           obtain ⟨q,hq⟩ : ∃ q : Nat,nd.grp = (q : Int):=Int.eq_ofNat_of_zero_le (by omega)
           have hqg : q < g + 1:=by omega
           have c0 : wr2.cell? ⟨G,0,none⟩ = some (.int .i64 5):=by rw [← hk5];exact hS6.out.nd.at_ rfl
           have c5 : wr2.cell? ⟨G,5,none⟩ = some (.int .i64 (q : Int)):=by rw [← hq];exact hS6.out.nd.at_ rfl
           have cq:=hS6.out.b.at_ (rowC_get (g + 1) _ q hqg)
           have tq:=hS6.out.b.thawed q
           have hle:=cntI_le ((((ns.take k).filter fun n => decide (n.kind = 5)).map Nod.grp)) q
           have hle2 : grpsN (ns.take k) q ≤ 1000:=by have:=hGl.out;unfold grpsN;omega
           have hle1 : 0 ≤ grpsN (ns.take k) q:=hle.1
           have hi1 : (0 : Int) ≤ (q : Int):=by omega
           have hi2 : (q : Int) < (g : Int) + 1:=by omega
           have hi3 : (q : Int) < ((g + 1 : Nat) : Int):=by omega
           have hgq:=lhi (hg5.out q hk5 hq)
           clear hle hq hq1 hq2 hk5 hqg
           generalize hcv : grpsN (ns.take k) q = cv at *
           replace hcv:=lhi hcv
           go_wp2
           go_roundw
           case rel =>
            refine RelRt.mk ⟨k + 1,by omega,by go_num,hy.out,hS6.out.re.far (fun e => by have : w.heap.size = w.heap.size + 2:=e;omega) _,?_,?_,hS6.out.low.setCell (by show w.heap.size ≤ w.heap.size + 2;omega) _⟩
            · rw [hfl.out]
              exact hS6.out.a.far (fun e => by have : w.heap.size + 1 = w.heap.size + 2:=e;omega) _
            · have:=hS6.out.b.put q (.int .i64 (cv + 1))
              rw [rowC_set] at this
              have e : grpsN (ns.take (k + 1)) = fun i => if i = q then cv + 1 else grpsN (ns.take k) i:=by
               funext i
               rw [hgq.out]
              rw [e]
              exact this
           case measure => simp [intOf];omega
         · have c0 : wr2.cell? ⟨G,0,none⟩ = some (.int .i64 nd.kind):=hS6.out.nd.at_ rfl
           have hq5:=beq_no hk5
           have hgq:=lhi (hgn.out hk5)
           generalize nd.kind = kd at *
           clear hk5
           go_wp2
           go_roundw
           case rel =>
            refine RelRt.mk ⟨k + 1,by omega,by go_num,hy.out,hS6.out.re,?_,?_,hS6.out.low⟩
            · rw [hfl.out];exact hS6.out.a
            · rw [hgq.out];exact hS6.out.b
           case measure => simp [intOf];omega
    · have hft' : fitsN nd (k : Int) (g : Int) = false:=by simpa using hft
      have hf:=lhi (hno.out hft')
      have hFk:=lhi (fun w => hF.out nd (k : Int) w)
      rw [hft'] at hFk
      clear hno hyes hft hft' hF hP
      go_wp2_with (first
       | (refine wpList_load_mid rfl 54 (.tmp 43) rfl b o rfl (nodL nd) _ hd.out under_nod rfl (nod_info nd) ?_)
       | (refine wpList_store_row rfl 54 (.tmp 6) (.tmp 44) rfl wr.heap.size (nodC nd) rfl rfl 54 _ (nod_zero_lit wr) (nod_size nd) rfl (nod_cells nd) ?_
          rw [World.setRow_alloc_new]
          generalize wr.alloc (.cells (nodC nd) 54) = w3 at *
          generalize wr.heap.size = G at *
          have hgc:=hS0.out.re.at_ (i:=1) rfl
          have hN3:=lhi hS0.out.nd)
       | (refine wpList_load_row rfl 54 (.tmp 6) rfl G rfl 54 _ (0,0) _ hN3.out under_nod rfl (nod_size nd) ?_)
       | (go_at_call 30;refine (hFk.out w3).mono ?_;rintro e w4 ⟨rfl,hb4⟩;have hS4:=lhi (hS0.out.below hb4)))
      go_ret
      exact ⟨ret_bool hf.out.symm,hS4.out.low⟩
  · obtain rfl : k = n:=by omega
    have hall : ∀ j (hj : j < ns.length),fitsN (ns[j]'hj) (j : Int) (g : Int) = true:=fun j hj => hfit j hj (by have:=hH.out;omega)
    have hr:=rightN_end (ns:=ns) (g:=(g : Int)) ⟨by rw [← hH.out];omega,by rw [← hH.out];omega,by omega,by omega⟩ hall
    rw [← hH.out,Int.toNat_natCast] at hr
    rw [show ns.take k = ns from List.take_of_length_le (by have:=hH.out;omega)] at hR1 hR2
    obtain ⟨m,rfl⟩ : ∃ m,k = m + 1:=⟨k - 1,by omega⟩
    rw [Nat.add_sub_cancel] at hr
    have hv1:=hR1.rowVals m (by omega)
    have hO1:=lhi (allOnce_any (some ⟨w.heap.size + 1,0,none⟩) m (m + 1) _ _ wr (by simp) (by omega) (by unfold maxLen;omega) hv1)
    have hv2:=hR2.rowVals1
    have hO2:=lhi (allOnce_any (some ⟨w.heap.size + 2,1,none⟩) g g _ _ wr (by simp) (by omega) (by unfold maxLen;omega) hv2)
    have hO3:=lhi (allOnce_any (some ⟨w.heap.size + 2,0,none⟩) 0 0 [] 0 wr (by simp) (by omega) (by unfold maxLen;omega) (Vals.none_ _ _ _))
    unfold usesN at hr
    have hl:=lhi hb
    clear hv1 hv2 hR1 hR2 hRe hb hF hP hh hfit hall hH hBB hnc hm h1
    generalize onceL ((List.range m).map (cntI (ns.flatMap partsN))) = b1 at *
    cases b1
    · rw [Bool.false_and] at hr
      replace hr:=lhi hr
      clear hO2 hO3
      go_wp2_with (first
       | (go_at_call 32;refine (hO1.out).mono ?_;rintro e w4 ⟨rfl,rfl⟩))
      go_ret
      exact ⟨ret_bool hr.out.symm,hl.out⟩
    · rw [Bool.true_and] at hr
      by_cases hg0 : g = 0
      · subst hg0
        rw [show onceL ((List.range 0).map fun i => grpsN ns (i + 1)) = true by rfl] at hr
        rw [show onceL [] = true by rfl] at hO3
        replace hr:=lhi hr
        clear hO2
        go_wp2_with (first
         | (go_at_call 32;(with_reducible refine (hO1.out).mono ?_);rintro e w4 ⟨rfl,rfl⟩)
         | (go_at_call 32;refine (hO3.out).mono ?_;rintro e w4 ⟨rfl,rfl⟩))
        go_ret
        exact ⟨ret_bool hr.out.symm,hl.out⟩
      · have hg1 : ¬ g + 1 = 1:=by omega
        generalize onceL ((List.range g).map fun i => grpsN ns (i + 1)) = b2 at *
        replace hr:=lhi hr
        clear hO3
        go_wp2_with (first
         | (go_at_call 32;(with_reducible refine (hO1.out).mono ?_);rintro e w4 ⟨rfl,rfl⟩)
         | (go_at_call 32;refine (hO2.out).mono ?_;rintro e w4 ⟨rfl,rfl⟩))
        go_ret
        exact ⟨ret_bool hr.out.symm,hl.out⟩
theorem right_any (A : Option Addr) (n c : Nat) (ns : List Nod) (g : Int) (B : Nat) (w : World) (hn : n = ns.length) (hnc : n ≤ c) (hm : c ≤ maxLen) (hB : B ≤ w.heap.size) (h : Nods w B A ns) :
    Calls Try.prog 21 #[.agg #[.slice A n c,.int .i64 g]] w fun e w' => e = .returned (.bool (rightN ns g)) ∧ Below w.heap.size w w':=by
 by_cases hs : 1 ≤ ns.length ∧ ns.length ≤ 1000 ∧ 0 ≤ g ∧ g ≤ 9
 · obtain ⟨q,rfl⟩:=Int.eq_ofNat_of_zero_le hs.2.2.1
   exact right_go A n c ns q B w hn hnc hm hB h (by omega) (by omega) (by omega)
 · rw [rightN_size hs]
   exact right_small A n c ns g w hn (by omega) hs
end Go.Proofs.Ytbdfhmefjfaofaa
