/- Contracts and plain facts: M33. -/
import Derived.Test.YtonjnagcdnmcpaaGreatDoorM31
set_option linter.unusedVariables false
set_option linter.unusedSimpArgs false
set_option maxRecDepth 100000
set_option maxHeartbeats 32000000
namespace Go.Proofs.YtonjnagcdnmcpaaGreatDoor
open Go.RowKit
theorem refParse_true (A : Option Addr) (n c : Nat) (l : List UInt8) (w : World) (hn : n = l.length) (hnc : n ≤ c) (hns : n ≤ 1000000) (hbt : Byt w w.heap.size A l) (k : Nat) (hk : k ≤ n) (hx : bg [94] (l.drop k) = true) :
    Calls Tryz.prog 98 #[.slice A n c,.int .i64 (k : Int)] w fun e w' => e = .returned (.tuple #[.agg (setC (told (readB l k)).1),.int .i64 ((told (readB l k)).2.1 : Int),.int .i64 ((told (readB l k)).2.2 : Int)]) ∧ Below w.heap.size w w':=by
 have hAt:=lhi (fun (w1 : World) (h1 : Below w.heap.size w w1) (i : Nat) (hi : i ≤ 9223372036854775807) => at_any A n c l w.heap.size w1 hn (hbt.below h1) i hi)
 have hRd:=lhi (fun (w1 : World) (h1 : Below w.heap.size w w1) (i : Nat) => read_any A n c l w.heap.size w1 hn hnc h1.size (hbt.below h1) i (by omega))
 have hn':=lhi hn
 have hk':=lhi hk
 have hzb:=zero_bools
 have hzi:=zero_itm
 have hz:=build_set
 have hx':=lhi hx
 have hW0 : Below w.heap.size w (w.alloc (.cells #[.int .u64 0,.int .u64 0,.int .u64 0,.int .u64 0] 41)):=(Below.refl _ _).alloc (nlr _) _
 have hA0:=hAt.out _ hW0 k (by omega)
 replace hW0:=lhi hW0
 have hk1 : k + 1 ≤ n:=by
  have h1:=bg_len hx
  rw [List.length_drop,lls] at h1
  omega
 rw [show atV l k = 94 by rw [at_bg l k 94 94 rfl] at hx;exact of_decide_eq_true hx] at hA0
 have hrd:=readB_not hx
 generalize hR : items true (l.drop (k + 1)) (k + 1) noneF = R at hrd
 replace hrd:=lhi hrd
 replace hR:=lhi hR
 replace hA0:=lhi hA0
 clear hn hbt hk hx
 go_enter Tryz.func98,Tryz.ntmps98
 go_wp2_with (go_at_call 120;refine (hA0.out).mono ?_;rintro e w' ⟨rfl,rfl⟩)
 go_loopw [1,9] (RelP w l R) (fun v _ _ => n - (intOf v).toNat)
 case atStart => exact RelP.mk ⟨(k + 1),0,noneF,by go_num,rfl,by have:=hn'.out;omega,Nat.zero_le _,hR.out,(set_zero' w).alloc _,bools_zero_at _ _ (sizeA' _ _).symm,hW0.out.alloc hW0.out.size _⟩
 case round =>
  rename World => w1
  clear hW0 hA0
  obtain ⟨i,nn,acc,rfl,rfl,hil,hni,hr,hs,hbo,hb⟩:=hrel
  have hs1:=lhi hs
  have hb1:=lhi hb
  have hbo1:=lhi hbo
  have hin : i ≤ n:=by have:=hn'.out;omega
  clear hs hb hbo
  by_cases hex : nn ≠ 0 ∧ bg [93] (l.drop i) = true
  · have hnn : ((nn : Int) == 0) = false:=by have:=hex.1;simp;omega
    have hA1:=hAt.out w1 hb1.out i (by omega)
    rw [show atV l i = 93 by have:=hex.2;rw [at_bg l i 93 93 rfl] at this;exact of_decide_eq_true this] at hA1
    replace hA1:=lhi hA1
    have hfin:=hr.symm
    rw [show decide (nn = 0) = false from decide_eq_false hex.1,items_end i acc hex.2] at hfin
    replace hfin:=lhi hfin
    clear hr hex
    go_wp2_with (go_at_call 120;refine (hA1.out).mono ?_;rintro e w' ⟨rfl,rfl⟩)
    go_loopw [14] (RelM w (fun _ => True) (fun x => acc x != true) acc) (fun v _ => 256 - (intOf v).toNat)
    case atStart => exact RelM.mk ⟨0,by omega,rfl,hs1.out,by rw [mix_zero];exact hbo1.out,trivial,hb1.out⟩
    case round =>
     rename World => w2
     clear hs1 hbo1 hb1 hA1
     obtain ⟨m,hm,rfl,hs,hbo,-,hb⟩:=hrel
     by_cases hm2 : m < 256
     · have d0:=hbo.cell hm2
       rw [mix_at] at d0
       have f0:=hbo.thawed m
       have m0 : (0 : Int) ≤ (m : Int):=by omega
       have m1 : (m : Int) < 256:=by omega
       cases hv : acc m with
       | false =>
        rw [hv] at d0
        have hbo2:=hbo.store hm2 ((fun x => acc x != true) m)
        rw [mix_next,show (fun x => acc x != true) m = true by simp [hv]] at hbo2
        have hs2:=lhi (hs.set_other (a:=⟨w.heap.size + 1,m,none⟩) (v:=.bool true) (by show w.heap.size ≠ w.heap.size + 1;omega))
        have hb2:=lhi (hb.setCell (p:=⟨w.heap.size + 1,m,none⟩) (by show w.heap.size ≤ w.heap.size + 1;omega) (.bool true))
        replace hbo2:=lhi hbo2
        clear hs hb hbo hv
        go_wp2
        go_roundw
        case rel => exact RelM.mk ⟨m + 1,by omega,by go_num,hs2.out,hbo2.out,trivial,hb2.out⟩
        case measure => simp [intOf];omega
       | true =>
        rw [hv] at d0
        have hbo2:=hbo.store hm2 ((fun x => acc x != true) m)
        rw [mix_next,show (fun x => acc x != true) m = false by simp [hv]] at hbo2
        have hs2:=lhi (hs.set_other (a:=⟨w.heap.size + 1,m,none⟩) (v:=.bool false) (by show w.heap.size ≠ w.heap.size + 1;omega))
        have hb2:=lhi (hb.setCell (p:=⟨w.heap.size + 1,m,none⟩) (by show w.heap.size ≤ w.heap.size + 1;omega) (.bool false))
        replace hbo2:=lhi hbo2
        clear hs hb hbo hv
        go_wp2
        go_roundw
        case rel => exact RelM.mk ⟨m + 1,by omega,by go_num,hs2.out,hbo2.out,trivial,hb2.out⟩
        case measure => simp [intOf];omega
     · obtain rfl : m = 256:=by omega
       have hs2:=lhi hs
       have hb2:=lhi hb
       have hbo2:=lhi (hbo.alike (mix_end (fun x => acc x != true) acc))
       clear hs hb hbo
       generalize hGG : (fun x => acc x != true) = G at *
       replace hGG:=lhi hGG
       go_wp2_with (first
        | (refine wpList_load_row rfl 143 (.tmp 8) rfl (w.heap.size + 1) rfl 143 (boolsC G) (0,0) _ hbo2.out Tryz.underlying143 rfl (by rw [bools_size];exact size_bools) ?_)
        | (go_at_call 122;refine (refOf_at G _).mono ?_;rintro e w3 ⟨rfl,hb3⟩;have hB3:=lhi (hb2.out.trans (hb3.mono hb2.out.size));have hS3:=lhi (hs2.out.below hb3 hs2.out.lt))
        | (refine wpList_store_row rfl 41 (.tmp 4) (.tmp 143) rfl w.heap.size (setC G) rfl rfl 41 _ hS3.out (set_size _) (set_hold _ _) (set_cells _) ?_))
       exact bodyPost_ret (v:=.tuple #[.agg (setC G),.int .i64 ((i : Int) + 1),.int .i64 0]) (results_cell_three Tryz.results98 _ _ w.heap.size 41 (setC G) (0,0) _ rfl rfl rfl (hS3.out.put _) Tryz.underlying41 rfl (set_size _)) rfl ⟨by rw [hrd.out,hfin.out];show _ = Ending.returned (.tuple #[.agg (setC (negF acc)),.int .i64 ((i + 1 : Nat) : Int),.int .i64 0]);rw [show (negF acc : Nat → Bool) = G from by rw [← hGG.out];funext x;simp [negF]];exact congrArg (fun z => Ending.returned (.tuple #[.agg (setC G),.int .i64 z,.int .i64 0])) (by omega),below_put hB3.out (nlr _) _⟩
  have hcond : Hid ((!decide (nn = 0) && bg [93] (l.drop i)) = false):=lhi (by
   by_cases h0 : nn = 0
   · simp [h0]
   · cases hb0 : bg [93] (l.drop i) with
     | false => simp
     | true => exact absurd ⟨h0,hb0⟩ hex)
  have hgo : ((nn : Int) == 0) = true ∨ (((nn : Int) == 0) = false ∧ (atV l i != 93) = true):=by
   by_cases h0 : nn = 0
   · left;simp [h0]
   · right
     refine ⟨by simp;omega,?_⟩
     simp only [bne_iff_ne,ne_eq]
     intro e
     exact hex ⟨h0,by rw [at_bg l i 93 93 rfl];exact decide_eq_true e⟩
  have hA1:=lhi (hAt.out w1 hb1.out i (by omega))
  have hRx:=hRd.out w1 hb1.out i
  clear hex
  cases hpc : piece (l.drop i) with
  | bad e =>
   have hne:=piece_bad_ne hpc
   rw [hpc] at hRx
   replace hRx:=lhi (show Calls Tryz.prog 121 #[.slice A n c,.int .i64 (i : Int)] w1 fun e' w' => e' = .returned (.agg (itmC 0 noneF false 0 (e : Int))) ∧ Below w1.heap.size w1 w' from hRx)
   have hfin:=lhi (hr.symm.trans (items_err i acc hcond.out (item_bad' hpc)))
   clear hr hpc
   rcases hgo with hnn | ⟨hnn,h93⟩
   all_goals
    go_wp2_with (first
     | (go_at_call 120;with_reducible show Calls _ _ _ w1 _;refine (hA1.out).mono ?_;rintro e w' ⟨rfl,rfl⟩)
     | (go_at_call 121;with_reducible refine (hRx.out).mono ?_;rintro e w2 ⟨rfl,hbr2⟩;have hb2:=lhi (hb1.out.trans (hbr2.mono hb1.out.size));have hs2:=lhi (hs1.out.below hbr2 hs1.out.lt);have hbo2:=lhi (hbo1.out.below hbr2 hbo1.out.lt))
     | (refine wpList_store_row rfl 145 (.tmp 10) (.tmp 43) rfl w2.heap.size (itmC 0 noneF false 0 (e : Int)) rfl rfl 145 _ (itm_new w2 0 noneF false 0 0) (itm_sz _ _ _ _ _) (itm_hold _ _ _ _ _ _ _ _ _ _) (itm_cells _ _ _ _ _) ?_;rw [World.setRow_alloc_new];have hb3:=lhi (hb2.out.alloc hb2.out.size (.cells (itmC 0 noneF false 0 (e : Int)) 145));have hs3:=lhi (hs2.out.alloc (.cells (itmC 0 noneF false 0 (e : Int)) 145));have hbo3:=lhi (hbo2.out.alloc (.cells (itmC 0 noneF false 0 (e : Int)) 145));have hit3:=lhi (itm_new w2 0 noneF false 0 (e : Int));obtain ⟨w3,hnw⟩ : ∃ x,x = w2.alloc (.cells (itmC 0 noneF false 0 (e : Int)) 145):=⟨_,rfl⟩;rw [← hnw] at hb3 hs3 hbo3 hit3 ⊢;clear hnw;have x0:=hit3.out.c0;have x2:=hit3.out.c2;have x3:=hit3.out.c3;have x4:=hit3.out.c4;have d0:=hs3.out.cell 0 (by decide);have d1:=hs3.out.cell 1 (by decide);have d2:=hs3.out.cell 2 (by decide);have d3:=hs3.out.cell 3 (by decide);have f0:=hs3.out.thawed 0;have f1:=hs3.out.thawed 1;have f2:=hs3.out.thawed 2;have f3:=hs3.out.thawed 3))
    go_region
    all_goals
     go_wp2
     exact bodyPost_ret (v:=.tuple #[.agg (setC noneF),.int .i64 0,.int .i64 (e : Int)]) (results_cell_three Tryz.results98 _ _ w.heap.size 41 (setC noneF) (0,0) _ rfl rfl rfl (set_zeroed hs3.out) Tryz.underlying41 rfl (set_size _)) rfl ⟨by rw [hrd.out,hfin.out];rfl,((((hb3.out.drew.setCell (nlr _) _).setCell (nlr _) _).setCell (nlr _) _).setCell (nlr _) _)⟩
  | cls nm m =>
   have hm:=piece_cls_size hpc
   rw [List.length_drop] at hm
   obtain ⟨N,hN⟩ : ∃ N,N = i + m:=⟨_,rfl⟩
   have hNn : N ≤ n:=by have:=hn'.out;omega
   have hiN : i < N:=by omega
   rw [hpc] at hRx
   replace hRx:=show Calls Tryz.prog 121 #[.slice A n c,.int .i64 (i : Int)] w1 fun e' w' => e' = .returned (.agg (itmC 0 (clsF nm) true ((i + m : Nat) : Int) 0)) ∧ Below w1.heap.size w1 w' from hRx
   rw [← hN] at hRx
   replace hRx:=lhi hRx
   have hA2:=fun (w3 : World) (h3 : Below w.heap.size w w3) => hAt.out w3 h3 N (by omega)
   have hA3:=fun (w3 : World) (h3 : Below w.heap.size w w3) => hAt.out w3 h3 (N + 1) (by omega)
   rw [show (((N + 1 : Nat)) : Int) = (N : Int) + 1 by omega] at hA3
   have hjj:=joins_at l N
   have hld : (l.drop i).drop m = l.drop N:=by rw [List.drop_drop,hN]
   cases hj : joins (l.drop N) with
   | false =>
    have hnj : (atV l N != 45) = true ∨ ((atV l N != 45) = false ∧ (atV l (N + 1) == 93) = true):=by
     rw [hj] at hjj
     by_cases h45 : atV l N = 45
     · right
       refine ⟨by simp [h45],?_⟩
       by_cases h93 : atV l (N + 1) = 93
       · simp [h93]
       · simp [h45,h93] at hjj
     · left
       simpa using h45
    have hit : item (l.drop i) = .ok (clsF nm,m):=by unfold item;rw [hpc];simp only;rw [hld,hj];rfl
    have hfin:=(items_ok i acc hcond.out hit).symm.trans hr
    rw [hld,← hN] at hfin
    replace hfin:=lhi hfin
    clear hr hpc hit hj hjj hld hm
    generalize atV l N = z1 at *
    generalize atV l (N + 1) = z2 at *
    replace hN:=lhi hN
    replace hA2:=lhi hA2
    replace hA3:=lhi hA3
    rcases hgo with hnn | ⟨hnn,h93⟩ <;> rcases hnj with g45 | ⟨g45,g93⟩
    all_goals
     go_wp2_with (first
      | (go_at_call 120;with_reducible show Calls _ _ _ w1 _;refine (hA1.out).mono ?_;rintro e w' ⟨rfl,rfl⟩)
      | (go_at_call 121;with_reducible refine (hRx.out).mono ?_;rintro e w2 ⟨rfl,hbr2⟩;have hb2:=lhi (hb1.out.trans (hbr2.mono hb1.out.size));have hs2:=lhi (hs1.out.below hbr2 hs1.out.lt);have hbo2:=lhi (hbo1.out.below hbr2 hbo1.out.lt))
      | (refine wpList_store_row rfl 145 (.tmp 10) (.tmp 43) rfl w2.heap.size (itmC 0 (clsF nm) true (N : Int) 0) rfl rfl 145 _ (itm_new w2 0 noneF false 0 0) (itm_sz _ _ _ _ _) (itm_hold _ _ _ _ _ _ _ _ _ _) (itm_cells _ _ _ _ _) ?_;rw [World.setRow_alloc_new];have hb3:=lhi (hb2.out.alloc hb2.out.size (.cells (itmC 0 (clsF nm) true (N : Int) 0) 145));have hs3:=lhi (hs2.out.alloc (.cells (itmC 0 (clsF nm) true (N : Int) 0) 145));have hbo3:=lhi (hbo2.out.alloc (.cells (itmC 0 (clsF nm) true (N : Int) 0) 145));have hit3:=lhi (itm_new w2 0 (clsF nm) true (N : Int) 0);obtain ⟨w3,hnw⟩ : ∃ x,x = w2.alloc (.cells (itmC 0 (clsF nm) true (N : Int) 0) 145):=⟨_,rfl⟩;rw [← hnw] at hb3 hs3 hbo3 hit3 ⊢;clear hnw;have x0:=hit3.out.c0;have x2:=hit3.out.c2;have x3:=hit3.out.c3;have x4:=hit3.out.c4)
      | (go_at_call 120;with_reducible refine (hA2.out _ hb3.out).mono ?_;rintro e w' ⟨rfl,rfl⟩)
      | (go_at_call 120;with_reducible refine (hA3.out _ hb3.out).mono ?_;rintro e w' ⟨rfl,rfl⟩))
     have hgg : w.heap.size + 1 < w2.heap.size:=hbo2.out.lt
     replace hgg:=nll hgg (nlr _)
     go_loopw [11] (RelM w (fun wr => ItmAt wr w2.heap.size 0 (clsF nm) true (N : Int) 0) (orF acc (clsF nm)) acc) (fun v _ => 256 - (intOf v).toNat)
     case atStart => exact RelM.mk ⟨0,by omega,rfl,hs3.out,by rw [mix_zero];exact hbo3.out,hit3.out,hb3.out⟩
     case round =>
      rename World => w4
      clear x0 x2 x3 x4 hs3 hbo3 hb3 hit3 hA1 hA2 hA3 hRx
      obtain ⟨m2,hm2l,rfl,hs6,hbo6,hit6,hb6⟩:=hrel
      by_cases hm2 : m2 < 256
      · have d0:=hbo6.cell hm2
        rw [mix_at] at d0
        have f0:=hbo6.thawed m2
        have m0 : (0 : Int) ≤ (m2 : Int):=by omega
        have m1 : (m2 : Int) < 256:=by omega
        have x0:=hit6.c0
        have x2:=hit6.c2
        have xi:=hit6.cin hm2
        cases hv : acc m2 with
        | true =>
         rw [hv] at d0
         have hbo7:=hbo6.store hm2 ((orF acc (clsF nm)) m2)
         rw [mix_next,show (orF acc (clsF nm)) m2 = true by simp [orF,oneF,oneF.ofB, *]] at hbo7
         have hs7:=lhi (hs6.set_other (a:=⟨w.heap.size + 1,m2,none⟩) (v:=.bool true) (by show w.heap.size ≠ w.heap.size + 1;omega))
         have hb7:=lhi (hb6.setCell (p:=⟨w.heap.size + 1,m2,none⟩) (by show w.heap.size ≤ w.heap.size + 1;omega) (.bool true))
         have hit7:=lhi (hit6.set_other (a:=⟨w.heap.size + 1,m2,none⟩) (v:=.bool true) (Nat.ne_of_gt hgg))
         replace hbo7:=lhi hbo7
         clear hs6 hb6 hbo6 hit6
         go_wp2
         go_roundw
         case rel => exact RelM.mk ⟨m2 + 1,by omega,by go_num,hs7.out,hbo7.out,hit7.out,hb7.out⟩
         case measure => simp [intOf];omega
        | false =>
         rw [hv] at d0
         cases hu : clsF nm m2 with
         | true =>
          rw [hu] at xi
          have hbo7:=hbo6.store hm2 ((orF acc (clsF nm)) m2)
          rw [mix_next,show (orF acc (clsF nm)) m2 = true by simp [orF,oneF,oneF.ofB, *]] at hbo7
          have hs7:=lhi (hs6.set_other (a:=⟨w.heap.size + 1,m2,none⟩) (v:=.bool true) (by show w.heap.size ≠ w.heap.size + 1;omega))
          have hb7:=lhi (hb6.setCell (p:=⟨w.heap.size + 1,m2,none⟩) (by show w.heap.size ≤ w.heap.size + 1;omega) (.bool true))
          have hit7:=lhi (hit6.set_other (a:=⟨w.heap.size + 1,m2,none⟩) (v:=.bool true) (Nat.ne_of_gt hgg))
          replace hbo7:=lhi hbo7
          clear hs6 hb6 hbo6 hit6
          go_wp2
          go_roundw
          case rel => exact RelM.mk ⟨m2 + 1,by omega,by go_num,hs7.out,hbo7.out,hit7.out,hb7.out⟩
          case measure => simp [intOf];omega
         | false =>
          rw [hu] at xi
          have hbo7:=hbo6.store hm2 ((orF acc (clsF nm)) m2)
          rw [mix_next,show (orF acc (clsF nm)) m2 = false by simp [orF,oneF,oneF.ofB, *]] at hbo7
          have hs7:=lhi (hs6.set_other (a:=⟨w.heap.size + 1,m2,none⟩) (v:=.bool false) (by show w.heap.size ≠ w.heap.size + 1;omega))
          have hb7:=lhi (hb6.setCell (p:=⟨w.heap.size + 1,m2,none⟩) (by show w.heap.size ≤ w.heap.size + 1;omega) (.bool false))
          have hit7:=lhi (hit6.set_other (a:=⟨w.heap.size + 1,m2,none⟩) (v:=.bool false) (Nat.ne_of_gt hgg))
          replace hbo7:=lhi hbo7
          clear hs6 hb6 hbo6 hit6
          go_wp2
          go_roundw
          case rel => exact RelM.mk ⟨m2 + 1,by omega,by go_num,hs7.out,hbo7.out,hit7.out,hb7.out⟩
          case measure => simp [intOf];omega
      · obtain rfl : m2 = 256:=by omega
        have x3:=hit6.c3
        have hs7:=lhi hs6
        have hb7:=lhi hb6
        have hbo7:=lhi (hbo6.alike (mix_end (orF acc (clsF nm)) acc))
        clear hs6 hb6 hbo6 hit6
        go_wp2
        go_roundw
        case rel => exact RelP.mk ⟨N,nn + 1,(orF acc (clsF nm)),rfl,by go_num,by have:=hn'.out;omega,by omega,by rw [show decide (nn + 1 = 0) = false by simp];exact hfin.out,hs7.out,hbo7.out,hb7.out⟩
        case measure => simp [intOf];omega
   | true =>
    have hj45 : atV l N = 45 ∧ (atV l (N + 1) == 93) = false:=by
     rw [hj] at hjj
     by_cases h45 : atV l N = 45
     · refine ⟨h45,?_⟩
       by_cases h93 : atV l (N + 1) = 93
       · simp [h45,h93] at hjj
       · simpa using h93
     · simp [h45] at hjj
    obtain ⟨h45,h93b⟩:=hj45
    rw [h45] at hA2
    have hit : item (l.drop i) = .error 3:=by unfold item;rw [hpc];simp only;rw [hld,hj];rfl
    have hfin:=lhi (hr.symm.trans (items_err i acc hcond.out hit))
    clear hr hpc hit hj hjj hld hm h45
    generalize atV l (N + 1) = z2 at *
    replace hN:=lhi hN
    replace hA2:=lhi hA2
    replace hA3:=lhi hA3
    rcases hgo with hnn | ⟨hnn,h93⟩
    all_goals
     go_wp2_with (first
      | (go_at_call 120;with_reducible show Calls _ _ _ w1 _;refine (hA1.out).mono ?_;rintro e w' ⟨rfl,rfl⟩)
      | (go_at_call 121;with_reducible refine (hRx.out).mono ?_;rintro e w2 ⟨rfl,hbr2⟩;have hb2:=lhi (hb1.out.trans (hbr2.mono hb1.out.size));have hs2:=lhi (hs1.out.below hbr2 hs1.out.lt);have hbo2:=lhi (hbo1.out.below hbr2 hbo1.out.lt))
      | (refine wpList_store_row rfl 145 (.tmp 10) (.tmp 43) rfl w2.heap.size (itmC 0 (clsF nm) true (N : Int) 0) rfl rfl 145 _ (itm_new w2 0 noneF false 0 0) (itm_sz _ _ _ _ _) (itm_hold _ _ _ _ _ _ _ _ _ _) (itm_cells _ _ _ _ _) ?_;rw [World.setRow_alloc_new];have hb3:=lhi (hb2.out.alloc hb2.out.size (.cells (itmC 0 (clsF nm) true (N : Int) 0) 145));have hs3:=lhi (hs2.out.alloc (.cells (itmC 0 (clsF nm) true (N : Int) 0) 145));have hbo3:=lhi (hbo2.out.alloc (.cells (itmC 0 (clsF nm) true (N : Int) 0) 145));have hit3:=lhi (itm_new w2 0 (clsF nm) true (N : Int) 0);obtain ⟨w3,hnw⟩ : ∃ x,x = w2.alloc (.cells (itmC 0 (clsF nm) true (N : Int) 0) 145):=⟨_,rfl⟩;rw [← hnw] at hb3 hs3 hbo3 hit3 ⊢;clear hnw;have x0:=hit3.out.c0;have x2:=hit3.out.c2;have x3:=hit3.out.c3;have x4:=hit3.out.c4)
      | (go_at_call 120;with_reducible refine (hA2.out _ hb3.out).mono ?_;rintro e w' ⟨rfl,rfl⟩)
      | (go_at_call 120;with_reducible refine (hA3.out _ hb3.out).mono ?_;rintro e w' ⟨rfl,rfl⟩)
      | (refine wpList_store_row rfl 41 (.tmp 4) (.tmp 97) rfl w.heap.size (setC noneF) rfl (by rw [setC_noneF];rfl) 41 _ hs3.out (set_size _) (set_hold _ _) (set_cells _) ?_))
     exact bodyPost_ret (v:=.tuple #[.agg (setC noneF),.int .i64 0,.int .i64 3]) (results_cell_three Tryz.results98 _ _ w.heap.size 41 (setC noneF) (0,0) _ rfl rfl rfl (hs3.out.put _) Tryz.underlying41 rfl (set_size _)) rfl ⟨by rw [hrd.out,hfin.out];rfl,below_put hb3.out (nlr _) _⟩
  | one x m =>
   have hm:=piece_one_size hpc
   rw [List.length_drop] at hm
   obtain ⟨N,hN⟩ : ∃ N,N = i + m:=⟨_,rfl⟩
   have hNn : N ≤ n:=by have:=hn'.out;omega
   have hiN : i < N:=by omega
   rw [hpc] at hRx
   replace hRx:=show Calls Tryz.prog 121 #[.slice A n c,.int .i64 (i : Int)] w1 fun e' w' => e' = .returned (.agg (itmC (x.toNat : Int) noneF false ((i + m : Nat) : Int) 0)) ∧ Below w1.heap.size w1 w' from hRx
   rw [← hN] at hRx
   replace hRx:=lhi hRx
   have hA2:=fun (w3 : World) (h3 : Below w.heap.size w w3) => hAt.out w3 h3 N (by omega)
   have hA3:=fun (w3 : World) (h3 : Below w.heap.size w w3) => hAt.out w3 h3 (N + 1) (by omega)
   rw [show (((N + 1 : Nat)) : Int) = (N : Int) + 1 by omega] at hA3
   have hjj:=joins_at l N
   have hld : (l.drop i).drop m = l.drop N:=by rw [List.drop_drop,hN]
   cases hj : joins (l.drop N) with
   | false =>
    have hnj : (atV l N != 45) = true ∨ ((atV l N != 45) = false ∧ (atV l (N + 1) == 93) = true):=by
     rw [hj] at hjj
     by_cases h45 : atV l N = 45
     · right
       refine ⟨by simp [h45],?_⟩
       by_cases h93 : atV l (N + 1) = 93
       · simp [h93]
       · simp [h45,h93] at hjj
     · left
       simpa using h45
    obtain ⟨X,hX⟩ : ∃ X,X = x.toNat:=⟨_,rfl⟩
    rw [← hX] at hRx
    replace hX:=lhi hX
    have hit:=item_alone' hpc (by rw [hld];exact hj)
    have hfin:=(items_ok i acc hcond.out hit).symm.trans hr
    rw [hld,← hN] at hfin
    replace hfin:=lhi hfin
    clear hr hpc hit hj hjj hld hm
    generalize atV l N = z1 at *
    generalize atV l (N + 1) = z2 at *
    replace hN:=lhi hN
    replace hA2:=lhi hA2
    replace hA3:=lhi hA3
    rcases hgo with hnn | ⟨hnn,h93⟩ <;> rcases hnj with g45 | ⟨g45,g93⟩
    all_goals
     go_wp2_with (first
      | (go_at_call 120;with_reducible show Calls _ _ _ w1 _;refine (hA1.out).mono ?_;rintro e w' ⟨rfl,rfl⟩)
      | (go_at_call 121;with_reducible refine (hRx.out).mono ?_;rintro e w2 ⟨rfl,hbr2⟩;have hb2:=lhi (hb1.out.trans (hbr2.mono hb1.out.size));have hs2:=lhi (hs1.out.below hbr2 hs1.out.lt);have hbo2:=lhi (hbo1.out.below hbr2 hbo1.out.lt))
      | (refine wpList_store_row rfl 145 (.tmp 10) (.tmp 43) rfl w2.heap.size (itmC (X : Int) noneF false (N : Int) 0) rfl rfl 145 _ (itm_new w2 0 noneF false 0 0) (itm_sz _ _ _ _ _) (itm_hold _ _ _ _ _ _ _ _ _ _) (itm_cells _ _ _ _ _) ?_;rw [World.setRow_alloc_new];have hb3:=lhi (hb2.out.alloc hb2.out.size (.cells (itmC (X : Int) noneF false (N : Int) 0) 145));have hs3:=lhi (hs2.out.alloc (.cells (itmC (X : Int) noneF false (N : Int) 0) 145));have hbo3:=lhi (hbo2.out.alloc (.cells (itmC (X : Int) noneF false (N : Int) 0) 145));have hit3:=lhi (itm_new w2 (X : Int) noneF false (N : Int) 0);obtain ⟨w3,hnw⟩ : ∃ x,x = w2.alloc (.cells (itmC (X : Int) noneF false (N : Int) 0) 145):=⟨_,rfl⟩;rw [← hnw] at hb3 hs3 hbo3 hit3 ⊢;clear hnw;have x0:=hit3.out.c0;have x2:=hit3.out.c2;have x3:=hit3.out.c3;have x4:=hit3.out.c4)
      | (go_at_call 120;with_reducible refine (hA2.out _ hb3.out).mono ?_;rintro e w' ⟨rfl,rfl⟩)
      | (go_at_call 120;with_reducible refine (hA3.out _ hb3.out).mono ?_;rintro e w' ⟨rfl,rfl⟩))
     have hgg : w.heap.size + 1 < w2.heap.size:=hbo2.out.lt
     replace hgg:=nll hgg (nlr _)
     go_loopw [11] (RelM w (fun wr => ItmAt wr w2.heap.size (X : Int) noneF false (N : Int) 0) (orF acc (oneF x)) acc) (fun v _ => 256 - (intOf v).toNat)
     case atStart => exact RelM.mk ⟨0,by omega,rfl,hs3.out,by rw [mix_zero];exact hbo3.out,hit3.out,hb3.out⟩
     case round =>
      rename World => w4
      clear x0 x2 x3 x4 hs3 hbo3 hb3 hit3 hA1 hA2 hA3 hRx
      obtain ⟨m2,hm2l,rfl,hs6,hbo6,hit6,hb6⟩:=hrel
      by_cases hm2 : m2 < 256
      · have d0:=hbo6.cell hm2
        rw [mix_at] at d0
        have f0:=hbo6.thawed m2
        have m0 : (0 : Int) ≤ (m2 : Int):=by omega
        have m1 : (m2 : Int) < 256:=by omega
        have x0:=hit6.c0
        have x2:=hit6.c2
        have xi:=hit6.cin hm2
        cases hv : acc m2 with
        | true =>
         rw [hv] at d0
         have hbo7:=hbo6.store hm2 ((orF acc (oneF x)) m2)
         rw [mix_next,show (orF acc (oneF x)) m2 = true by simp [orF,oneF,oneF.ofB, *]] at hbo7
         have hs7:=lhi (hs6.set_other (a:=⟨w.heap.size + 1,m2,none⟩) (v:=.bool true) (by show w.heap.size ≠ w.heap.size + 1;omega))
         have hb7:=lhi (hb6.setCell (p:=⟨w.heap.size + 1,m2,none⟩) (by show w.heap.size ≤ w.heap.size + 1;omega) (.bool true))
         have hit7:=lhi (hit6.set_other (a:=⟨w.heap.size + 1,m2,none⟩) (v:=.bool true) (Nat.ne_of_gt hgg))
         replace hbo7:=lhi hbo7
         clear hs6 hb6 hbo6 hit6
         go_wp2
         go_roundw
         case rel => exact RelM.mk ⟨m2 + 1,by omega,by go_num,hs7.out,hbo7.out,hit7.out,hb7.out⟩
         case measure => simp [intOf];omega
        | false =>
         rw [hv] at d0
         by_cases hu : X = m2
         · have gu : ((m2 : Int) == ((X : Nat) : Int)) = true:=by simp;omega
           have hxm : x.toNat = m2:=hX.out.symm.trans hu
           have hbo7:=hbo6.store hm2 ((orF acc (oneF x)) m2)
           rw [mix_next,show (orF acc (oneF x)) m2 = true by simp [orF,oneF,oneF.ofB, *]] at hbo7
           have hs7:=lhi (hs6.set_other (a:=⟨w.heap.size + 1,m2,none⟩) (v:=.bool true) (by show w.heap.size ≠ w.heap.size + 1;omega))
           have hb7:=lhi (hb6.setCell (p:=⟨w.heap.size + 1,m2,none⟩) (by show w.heap.size ≤ w.heap.size + 1;omega) (.bool true))
           have hit7:=lhi (hit6.set_other (a:=⟨w.heap.size + 1,m2,none⟩) (v:=.bool true) (Nat.ne_of_gt hgg))
           replace hbo7:=lhi hbo7
           clear hs6 hb6 hbo6 hit6
           clear hu hxm
           go_wp2
           go_roundw
           case rel => exact RelM.mk ⟨m2 + 1,by omega,by go_num,hs7.out,hbo7.out,hit7.out,hb7.out⟩
           case measure => simp [intOf];omega
         · have gu : ((m2 : Int) == ((X : Nat) : Int)) = false:=by simp;omega
           have hxm : ¬ x.toNat = m2:=fun e => hu (hX.out.trans e)
           have hbo7:=hbo6.store hm2 ((orF acc (oneF x)) m2)
           rw [mix_next,show (orF acc (oneF x)) m2 = false by simp [orF,oneF,oneF.ofB, *]] at hbo7
           have hs7:=lhi (hs6.set_other (a:=⟨w.heap.size + 1,m2,none⟩) (v:=.bool false) (by show w.heap.size ≠ w.heap.size + 1;omega))
           have hb7:=lhi (hb6.setCell (p:=⟨w.heap.size + 1,m2,none⟩) (by show w.heap.size ≤ w.heap.size + 1;omega) (.bool false))
           have hit7:=lhi (hit6.set_other (a:=⟨w.heap.size + 1,m2,none⟩) (v:=.bool false) (Nat.ne_of_gt hgg))
           replace hbo7:=lhi hbo7
           clear hs6 hb6 hbo6 hit6
           clear hu hxm
           go_wp2
           go_roundw
           case rel => exact RelM.mk ⟨m2 + 1,by omega,by go_num,hs7.out,hbo7.out,hit7.out,hb7.out⟩
           case measure => simp [intOf];omega
      · obtain rfl : m2 = 256:=by omega
        have x3:=hit6.c3
        have hs7:=lhi hs6
        have hb7:=lhi hb6
        have hbo7:=lhi (hbo6.alike (mix_end (orF acc (oneF x)) acc))
        clear hs6 hb6 hbo6 hit6
        go_wp2
        go_roundw
        case rel => exact RelP.mk ⟨N,nn + 1,(orF acc (oneF x)),rfl,by go_num,by have:=hn'.out;omega,by omega,by rw [show decide (nn + 1 = 0) = false by simp];exact hfin.out,hs7.out,hbo7.out,hb7.out⟩
        case measure => simp [intOf];omega
   | true =>
    have hj45 : atV l N = 45 ∧ (atV l (N + 1) == 93) = false:=by
     rw [hj] at hjj
     by_cases h45 : atV l N = 45
     · refine ⟨h45,?_⟩
       by_cases h93 : atV l (N + 1) = 93
       · simp [h45,h93] at hjj
       · simpa using h93
     · simp [h45] at hjj
    obtain ⟨h45,h93b⟩:=hj45
    rw [h45] at hA2
    have hRy:=fun (w3 : World) (h3 : Below w.heap.size w w3) => hRd.out w3 h3 (N + 1)
    rw [show (((N + 1 : Nat)) : Int) = (N : Int) + 1 by omega] at hRy
    have hit:=item_two hpc (by rw [hld];exact hj)
    rw [List.drop_drop,show i + (m + 1) = N + 1 by omega] at hit
    have hdm : ∀ q,(l.drop i).drop (m + 1 + q) = l.drop (N + 1 + q):=fun q => by rw [List.drop_drop,show i + (m + 1 + q) = N + 1 + q by omega]
    cases hqc : piece (l.drop (N + 1)) with
    | bad e =>
     have hne:=piece_bad_ne hqc
     rw [hqc] at hRy hit
     simp only at hit
     replace hRy:=lhi (show ∀ w3,Below w.heap.size w w3 → Calls Tryz.prog 121 #[.slice A n c,.int .i64 ((N : Int) + 1)] w3 fun e' w' => e' = .returned (.agg (itmC 0 noneF false 0 (e : Int))) ∧ Below w3.heap.size w3 w' from hRy)
     have hfin:=lhi (hr.symm.trans (items_err i acc hcond.out hit))
     clear hr hpc hqc hit hj hjj hld hm h45 hdm
     generalize atV l (N + 1) = z2 at *
     generalize x.toNat = X at *
     replace hN:=lhi hN
     replace hA2:=lhi hA2
     replace hA3:=lhi hA3
     rcases hgo with hnn | ⟨hnn,h93⟩
     all_goals
      go_wp2_with (first
       | (go_at_call 120;with_reducible show Calls _ _ _ w1 _;refine (hA1.out).mono ?_;rintro e w' ⟨rfl,rfl⟩)
       | (go_at_call 121;with_reducible refine (hRx.out).mono ?_;rintro e w2 ⟨rfl,hbr2⟩;have hb2:=lhi (hb1.out.trans (hbr2.mono hb1.out.size));have hs2:=lhi (hs1.out.below hbr2 hs1.out.lt);have hbo2:=lhi (hbo1.out.below hbr2 hbo1.out.lt))
       | (refine wpList_store_row rfl 145 (.tmp 10) (.tmp 43) rfl w2.heap.size (itmC (X : Int) noneF false (N : Int) 0) rfl rfl 145 _ (itm_new w2 0 noneF false 0 0) (itm_sz _ _ _ _ _) (itm_hold _ _ _ _ _ _ _ _ _ _) (itm_cells _ _ _ _ _) ?_;rw [World.setRow_alloc_new];have hb3:=lhi (hb2.out.alloc hb2.out.size (.cells (itmC (X : Int) noneF false (N : Int) 0) 145));have hs3:=lhi (hs2.out.alloc (.cells (itmC (X : Int) noneF false (N : Int) 0) 145));have hbo3:=lhi (hbo2.out.alloc (.cells (itmC (X : Int) noneF false (N : Int) 0) 145));have hit3:=lhi (itm_new w2 (X : Int) noneF false (N : Int) 0);obtain ⟨w3,hnw⟩ : ∃ x,x = w2.alloc (.cells (itmC (X : Int) noneF false (N : Int) 0) 145):=⟨_,rfl⟩;rw [← hnw] at hb3 hs3 hbo3 hit3 ⊢;clear hnw;have x0:=hit3.out.c0;have x2:=hit3.out.c2;have x3:=hit3.out.c3;have x4:=hit3.out.c4)
       | (go_at_call 120;with_reducible refine (hA2.out _ hb3.out).mono ?_;rintro e w' ⟨rfl,rfl⟩)
       | (go_at_call 120;with_reducible refine (hA3.out _ hb3.out).mono ?_;rintro e w' ⟨rfl,rfl⟩)
       | (go_at_call 121;with_reducible refine (hRy.out _ hb3.out).mono ?_;rintro e w4 ⟨rfl,hbr4⟩;have hb4:=lhi (hb3.out.trans (hbr4.mono hb3.out.size));have hs4:=lhi (hs3.out.below hbr4 hs3.out.lt);have hbo4:=lhi (hbo3.out.below hbr4 hbo3.out.lt);have hitA4:=lhi (hit3.out.below hbr4 hit3.out.lt))
       | (refine wpList_store_row rfl 145 (.tmp 12) (.tmp 102) rfl w4.heap.size (itmC 0 noneF false 0 (e : Int)) rfl rfl 145 _ (itm_new w4 0 noneF false 0 0) (itm_sz _ _ _ _ _) (itm_hold _ _ _ _ _ _ _ _ _ _) (itm_cells _ _ _ _ _) ?_;rw [World.setRow_alloc_new];have hb5:=lhi (hb4.out.alloc hb4.out.size (.cells (itmC 0 noneF false 0 (e : Int)) 145));have hs5:=lhi (hs4.out.alloc (.cells (itmC 0 noneF false 0 (e : Int)) 145));have hbo5:=lhi (hbo4.out.alloc (.cells (itmC 0 noneF false 0 (e : Int)) 145));have hitA5:=lhi (hitA4.out.alloc (.cells (itmC 0 noneF false 0 (e : Int)) 145));have hit5:=lhi (itm_new w4 0 noneF false 0 (e : Int));obtain ⟨w5,hnw⟩ : ∃ x,x = w4.alloc (.cells (itmC 0 noneF false 0 (e : Int)) 145):=⟨_,rfl⟩;rw [← hnw] at hb5 hs5 hbo5 hitA5 hit5 ⊢;clear hnw;have y0:=hit5.out.c0;have y2:=hit5.out.c2;have y3:=hit5.out.c3;have y4:=hit5.out.c4;have x0:=hitA5.out.c0;have x2:=hitA5.out.c2;have x3:=hitA5.out.c3;have x4:=hitA5.out.c4;have d0:=hs5.out.cell 0 (by decide);have d1:=hs5.out.cell 1 (by decide);have d2:=hs5.out.cell 2 (by decide);have d3:=hs5.out.cell 3 (by decide);have f0:=hs5.out.thawed 0;have f1:=hs5.out.thawed 1;have f2:=hs5.out.thawed 2;have f3:=hs5.out.thawed 3))
      go_region
      all_goals
       go_wp2
       exact bodyPost_ret (v:=.tuple #[.agg (setC noneF),.int .i64 0,.int .i64 (e : Int)]) (results_cell_three Tryz.results98 _ _ w.heap.size 41 (setC noneF) (0,0) _ rfl rfl rfl (set_zeroed hs5.out) Tryz.underlying41 rfl (set_size _)) rfl ⟨by rw [hrd.out,hfin.out];rfl,((((hb5.out.drew.setCell (nlr _) _).setCell (nlr _) _).setCell (nlr _) _).setCell (nlr _) _)⟩
    | cls nm2 m2 =>
     have hm2s:=piece_cls_size hqc
     rw [List.length_drop] at hm2s
     obtain ⟨N2,hN2⟩ : ∃ N2,N2 = N + 1 + m2:=⟨_,rfl⟩
     have hN2n : N2 ≤ n:=by have:=hn'.out;omega
     have hNN2 : N < N2:=by omega
     rw [hqc] at hRy hit
     simp only at hit
     replace hRy:=show ∀ w3,Below w.heap.size w w3 → Calls Tryz.prog 121 #[.slice A n c,.int .i64 ((N : Int) + 1)] w3 fun e' w' => e' = .returned (.agg (itmC 0 (clsF nm2) true ((N + 1 + m2 : Nat) : Int) 0)) ∧ Below w3.heap.size w3 w' from hRy
     rw [← hN2] at hRy
     replace hRy:=lhi hRy
     have hfin:=lhi (hr.symm.trans (items_err i acc hcond.out hit))
     clear hr hpc hqc hit hj hjj hld hm h45 hdm hm2s
     generalize atV l (N + 1) = z2 at *
     generalize x.toNat = X at *
     replace hN2:=lhi hN2
     replace hN:=lhi hN
     replace hA2:=lhi hA2
     replace hA3:=lhi hA3
     rcases hgo with hnn | ⟨hnn,h93⟩
     all_goals
      go_wp2_with (first
       | (go_at_call 120;with_reducible show Calls _ _ _ w1 _;refine (hA1.out).mono ?_;rintro e w' ⟨rfl,rfl⟩)
       | (go_at_call 121;with_reducible refine (hRx.out).mono ?_;rintro e w2 ⟨rfl,hbr2⟩;have hb2:=lhi (hb1.out.trans (hbr2.mono hb1.out.size));have hs2:=lhi (hs1.out.below hbr2 hs1.out.lt);have hbo2:=lhi (hbo1.out.below hbr2 hbo1.out.lt))
       | (refine wpList_store_row rfl 145 (.tmp 10) (.tmp 43) rfl w2.heap.size (itmC (X : Int) noneF false (N : Int) 0) rfl rfl 145 _ (itm_new w2 0 noneF false 0 0) (itm_sz _ _ _ _ _) (itm_hold _ _ _ _ _ _ _ _ _ _) (itm_cells _ _ _ _ _) ?_;rw [World.setRow_alloc_new];have hb3:=lhi (hb2.out.alloc hb2.out.size (.cells (itmC (X : Int) noneF false (N : Int) 0) 145));have hs3:=lhi (hs2.out.alloc (.cells (itmC (X : Int) noneF false (N : Int) 0) 145));have hbo3:=lhi (hbo2.out.alloc (.cells (itmC (X : Int) noneF false (N : Int) 0) 145));have hit3:=lhi (itm_new w2 (X : Int) noneF false (N : Int) 0);obtain ⟨w3,hnw⟩ : ∃ x,x = w2.alloc (.cells (itmC (X : Int) noneF false (N : Int) 0) 145):=⟨_,rfl⟩;rw [← hnw] at hb3 hs3 hbo3 hit3 ⊢;clear hnw;have x0:=hit3.out.c0;have x2:=hit3.out.c2;have x3:=hit3.out.c3;have x4:=hit3.out.c4)
       | (go_at_call 120;with_reducible refine (hA2.out _ hb3.out).mono ?_;rintro e w' ⟨rfl,rfl⟩)
       | (go_at_call 120;with_reducible refine (hA3.out _ hb3.out).mono ?_;rintro e w' ⟨rfl,rfl⟩)
       | (go_at_call 121;with_reducible refine (hRy.out _ hb3.out).mono ?_;rintro e w4 ⟨rfl,hbr4⟩;have hb4:=lhi (hb3.out.trans (hbr4.mono hb3.out.size));have hs4:=lhi (hs3.out.below hbr4 hs3.out.lt);have hbo4:=lhi (hbo3.out.below hbr4 hbo3.out.lt);have hitA4:=lhi (hit3.out.below hbr4 hit3.out.lt))
       | (refine wpList_store_row rfl 145 (.tmp 12) (.tmp 102) rfl w4.heap.size (itmC 0 (clsF nm2) true (N2 : Int) 0) rfl rfl 145 _ (itm_new w4 0 noneF false 0 0) (itm_sz _ _ _ _ _) (itm_hold _ _ _ _ _ _ _ _ _ _) (itm_cells _ _ _ _ _) ?_;rw [World.setRow_alloc_new];have hb5:=lhi (hb4.out.alloc hb4.out.size (.cells (itmC 0 (clsF nm2) true (N2 : Int) 0) 145));have hs5:=lhi (hs4.out.alloc (.cells (itmC 0 (clsF nm2) true (N2 : Int) 0) 145));have hbo5:=lhi (hbo4.out.alloc (.cells (itmC 0 (clsF nm2) true (N2 : Int) 0) 145));have hitA5:=lhi (hitA4.out.alloc (.cells (itmC 0 (clsF nm2) true (N2 : Int) 0) 145));have hit5:=lhi (itm_new w4 0 (clsF nm2) true (N2 : Int) 0);obtain ⟨w5,hnw⟩ : ∃ x,x = w4.alloc (.cells (itmC 0 (clsF nm2) true (N2 : Int) 0) 145):=⟨_,rfl⟩;rw [← hnw] at hb5 hs5 hbo5 hitA5 hit5 ⊢;clear hnw;have y0:=hit5.out.c0;have y2:=hit5.out.c2;have y3:=hit5.out.c3;have y4:=hit5.out.c4;have x0:=hitA5.out.c0;have x2:=hitA5.out.c2;have x3:=hitA5.out.c3;have x4:=hitA5.out.c4)
       | (refine wpList_store_row rfl 41 (.tmp 4) (.tmp 118) rfl w.heap.size (setC noneF) rfl (by rw [setC_noneF];rfl) 41 _ hs5.out (set_size _) (set_hold _ _) (set_cells _) ?_))
      exact bodyPost_ret (v:=.tuple #[.agg (setC noneF),.int .i64 0,.int .i64 3]) (results_cell_three Tryz.results98 _ _ w.heap.size 41 (setC noneF) (0,0) _ rfl rfl rfl (hs5.out.put _) Tryz.underlying41 rfl (set_size _)) rfl ⟨by rw [hrd.out,hfin.out];rfl,below_put hb5.out (nlr _) _⟩
    | one y m2 =>
     have hm2s:=piece_one_size hqc
     rw [List.length_drop] at hm2s
     obtain ⟨N2,hN2⟩ : ∃ N2,N2 = N + 1 + m2:=⟨_,rfl⟩
     have hN2n : N2 ≤ n:=by have:=hn'.out;omega
     have hNN2 : N < N2:=by omega
     rw [hqc] at hRy hit
     simp only at hit
     replace hRy:=show ∀ w3,Below w.heap.size w w3 → Calls Tryz.prog 121 #[.slice A n c,.int .i64 ((N : Int) + 1)] w3 fun e' w' => e' = .returned (.agg (itmC (y.toNat : Int) noneF false ((N + 1 + m2 : Nat) : Int) 0)) ∧ Below w3.heap.size w3 w' from hRy
     rw [← hN2] at hRy
     replace hRy:=lhi hRy
     by_cases hlt : y < x
     · rw [if_pos hlt] at hit
       have hfin:=lhi (hr.symm.trans (items_err i acc hcond.out hit))
       have hlt' : y.toNat < x.toNat:=hlt
       clear hr hpc hqc hit hj hjj hld hm h45 hdm hm2s hlt
       generalize atV l (N + 1) = z2 at *
       generalize x.toNat = X at *
       generalize y.toNat = Y at *
       replace hN2:=lhi hN2
       replace hN:=lhi hN
       replace hA2:=lhi hA2
       replace hA3:=lhi hA3
       rcases hgo with hnn | ⟨hnn,h93⟩
       all_goals
        go_wp2_with (first
         | (go_at_call 120;with_reducible show Calls _ _ _ w1 _;refine (hA1.out).mono ?_;rintro e w' ⟨rfl,rfl⟩)
         | (go_at_call 121;with_reducible refine (hRx.out).mono ?_;rintro e w2 ⟨rfl,hbr2⟩;have hb2:=lhi (hb1.out.trans (hbr2.mono hb1.out.size));have hs2:=lhi (hs1.out.below hbr2 hs1.out.lt);have hbo2:=lhi (hbo1.out.below hbr2 hbo1.out.lt))
         | (refine wpList_store_row rfl 145 (.tmp 10) (.tmp 43) rfl w2.heap.size (itmC (X : Int) noneF false (N : Int) 0) rfl rfl 145 _ (itm_new w2 0 noneF false 0 0) (itm_sz _ _ _ _ _) (itm_hold _ _ _ _ _ _ _ _ _ _) (itm_cells _ _ _ _ _) ?_;rw [World.setRow_alloc_new];have hb3:=lhi (hb2.out.alloc hb2.out.size (.cells (itmC (X : Int) noneF false (N : Int) 0) 145));have hs3:=lhi (hs2.out.alloc (.cells (itmC (X : Int) noneF false (N : Int) 0) 145));have hbo3:=lhi (hbo2.out.alloc (.cells (itmC (X : Int) noneF false (N : Int) 0) 145));have hit3:=lhi (itm_new w2 (X : Int) noneF false (N : Int) 0);obtain ⟨w3,hnw⟩ : ∃ x,x = w2.alloc (.cells (itmC (X : Int) noneF false (N : Int) 0) 145):=⟨_,rfl⟩;rw [← hnw] at hb3 hs3 hbo3 hit3 ⊢;clear hnw;have x0:=hit3.out.c0;have x2:=hit3.out.c2;have x3:=hit3.out.c3;have x4:=hit3.out.c4)
         | (go_at_call 120;with_reducible refine (hA2.out _ hb3.out).mono ?_;rintro e w' ⟨rfl,rfl⟩)
         | (go_at_call 120;with_reducible refine (hA3.out _ hb3.out).mono ?_;rintro e w' ⟨rfl,rfl⟩)
         | (go_at_call 121;with_reducible refine (hRy.out _ hb3.out).mono ?_;rintro e w4 ⟨rfl,hbr4⟩;have hb4:=lhi (hb3.out.trans (hbr4.mono hb3.out.size));have hs4:=lhi (hs3.out.below hbr4 hs3.out.lt);have hbo4:=lhi (hbo3.out.below hbr4 hbo3.out.lt);have hitA4:=lhi (hit3.out.below hbr4 hit3.out.lt))
         | (refine wpList_store_row rfl 145 (.tmp 12) (.tmp 102) rfl w4.heap.size (itmC (Y : Int) noneF false (N2 : Int) 0) rfl rfl 145 _ (itm_new w4 0 noneF false 0 0) (itm_sz _ _ _ _ _) (itm_hold _ _ _ _ _ _ _ _ _ _) (itm_cells _ _ _ _ _) ?_;rw [World.setRow_alloc_new];have hb5:=lhi (hb4.out.alloc hb4.out.size (.cells (itmC (Y : Int) noneF false (N2 : Int) 0) 145));have hs5:=lhi (hs4.out.alloc (.cells (itmC (Y : Int) noneF false (N2 : Int) 0) 145));have hbo5:=lhi (hbo4.out.alloc (.cells (itmC (Y : Int) noneF false (N2 : Int) 0) 145));have hitA5:=lhi (hitA4.out.alloc (.cells (itmC (Y : Int) noneF false (N2 : Int) 0) 145));have hit5:=lhi (itm_new w4 (Y : Int) noneF false (N2 : Int) 0);obtain ⟨w5,hnw⟩ : ∃ x,x = w4.alloc (.cells (itmC (Y : Int) noneF false (N2 : Int) 0) 145):=⟨_,rfl⟩;rw [← hnw] at hb5 hs5 hbo5 hitA5 hit5 ⊢;clear hnw;have y0:=hit5.out.c0;have y2:=hit5.out.c2;have y3:=hit5.out.c3;have y4:=hit5.out.c4;have x0:=hitA5.out.c0;have x2:=hitA5.out.c2;have x3:=hitA5.out.c3;have x4:=hitA5.out.c4)
         | (refine wpList_store_row rfl 41 (.tmp 4) (.tmp 118) rfl w.heap.size (setC noneF) rfl (by rw [setC_noneF];rfl) 41 _ hs5.out (set_size _) (set_hold _ _) (set_cells _) ?_))
        exact bodyPost_ret (v:=.tuple #[.agg (setC noneF),.int .i64 0,.int .i64 3]) (results_cell_three Tryz.results98 _ _ w.heap.size 41 (setC noneF) (0,0) _ rfl rfl rfl (hs5.out.put _) Tryz.underlying41 rfl (set_size _)) rfl ⟨by rw [hrd.out,hfin.out];rfl,below_put hb5.out (nlr _) _⟩
     · rw [if_neg hlt] at hit
       have hfin:=(items_ok i acc hcond.out hit).symm.trans hr
       rw [hdm,show i + (m + 1 + m2) = N2 by omega,← hN2] at hfin
       replace hfin:=lhi hfin
       have hlt' : ¬ y.toNat < x.toNat:=hlt
       have hfe:=lhi (fill_end acc x y)
       have hX:=x.toNat_lt
       have hY:=y.toNat_lt
       clear hr hpc hqc hit hj hjj hld hm h45 hdm hm2s hlt
       generalize rngF x y = F at *
       generalize atV l (N + 1) = z2 at *
       generalize x.toNat = X at *
       generalize y.toNat = Y at *
       replace hN2:=lhi hN2
       replace hN:=lhi hN
       replace hA2:=lhi hA2
       replace hA3:=lhi hA3
       rcases hgo with hnn | ⟨hnn,h93⟩
       all_goals
        go_wp2_with (first
         | (go_at_call 120;with_reducible show Calls _ _ _ w1 _;refine (hA1.out).mono ?_;rintro e w' ⟨rfl,rfl⟩)
         | (go_at_call 121;with_reducible refine (hRx.out).mono ?_;rintro e w2 ⟨rfl,hbr2⟩;have hb2:=lhi (hb1.out.trans (hbr2.mono hb1.out.size));have hs2:=lhi (hs1.out.below hbr2 hs1.out.lt);have hbo2:=lhi (hbo1.out.below hbr2 hbo1.out.lt))
         | (refine wpList_store_row rfl 145 (.tmp 10) (.tmp 43) rfl w2.heap.size (itmC (X : Int) noneF false (N : Int) 0) rfl rfl 145 _ (itm_new w2 0 noneF false 0 0) (itm_sz _ _ _ _ _) (itm_hold _ _ _ _ _ _ _ _ _ _) (itm_cells _ _ _ _ _) ?_;rw [World.setRow_alloc_new];have hb3:=lhi (hb2.out.alloc hb2.out.size (.cells (itmC (X : Int) noneF false (N : Int) 0) 145));have hs3:=lhi (hs2.out.alloc (.cells (itmC (X : Int) noneF false (N : Int) 0) 145));have hbo3:=lhi (hbo2.out.alloc (.cells (itmC (X : Int) noneF false (N : Int) 0) 145));have hit3:=lhi (itm_new w2 (X : Int) noneF false (N : Int) 0);obtain ⟨w3,hnw⟩ : ∃ x,x = w2.alloc (.cells (itmC (X : Int) noneF false (N : Int) 0) 145):=⟨_,rfl⟩;rw [← hnw] at hb3 hs3 hbo3 hit3 ⊢;clear hnw;have x0:=hit3.out.c0;have x2:=hit3.out.c2;have x3:=hit3.out.c3;have x4:=hit3.out.c4)
         | (go_at_call 120;with_reducible refine (hA2.out _ hb3.out).mono ?_;rintro e w' ⟨rfl,rfl⟩)
         | (go_at_call 120;with_reducible refine (hA3.out _ hb3.out).mono ?_;rintro e w' ⟨rfl,rfl⟩)
         | (go_at_call 121;with_reducible refine (hRy.out _ hb3.out).mono ?_;rintro e w4 ⟨rfl,hbr4⟩;have hb4:=lhi (hb3.out.trans (hbr4.mono hb3.out.size));have hs4:=lhi (hs3.out.below hbr4 hs3.out.lt);have hbo4:=lhi (hbo3.out.below hbr4 hbo3.out.lt);have hitA4:=lhi (hit3.out.below hbr4 hit3.out.lt))
         | (refine wpList_store_row rfl 145 (.tmp 12) (.tmp 102) rfl w4.heap.size (itmC (Y : Int) noneF false (N2 : Int) 0) rfl rfl 145 _ (itm_new w4 0 noneF false 0 0) (itm_sz _ _ _ _ _) (itm_hold _ _ _ _ _ _ _ _ _ _) (itm_cells _ _ _ _ _) ?_;rw [World.setRow_alloc_new];have hb5:=lhi (hb4.out.alloc hb4.out.size (.cells (itmC (Y : Int) noneF false (N2 : Int) 0) 145));have hs5:=lhi (hs4.out.alloc (.cells (itmC (Y : Int) noneF false (N2 : Int) 0) 145));have hbo5:=lhi (hbo4.out.alloc (.cells (itmC (Y : Int) noneF false (N2 : Int) 0) 145));have hitA5:=lhi (hitA4.out.alloc (.cells (itmC (Y : Int) noneF false (N2 : Int) 0) 145));have hit5:=lhi (itm_new w4 (Y : Int) noneF false (N2 : Int) 0);obtain ⟨w5,hnw⟩ : ∃ x,x = w4.alloc (.cells (itmC (Y : Int) noneF false (N2 : Int) 0) 145):=⟨_,rfl⟩;rw [← hnw] at hb5 hs5 hbo5 hitA5 hit5 ⊢;clear hnw;have y0:=hit5.out.c0;have y2:=hit5.out.c2;have y3:=hit5.out.c3;have y4:=hit5.out.c4;have x0:=hitA5.out.c0;have x2:=hitA5.out.c2;have x3:=hitA5.out.c3;have x4:=hitA5.out.c4))
        have hgg : w.heap.size + 1 < w4.heap.size:=hbo4.out.lt
        go_loopw [13] (RelF w (fun wr => ItmAt wr w4.heap.size (Y : Int) noneF false (N2 : Int) 0) acc X Y) (fun v _ => 256 - (intOf v).toNat)
        case atStart => exact RelF.mk ⟨X,nlr _,by omega,by go_num,hs5.out,by rw [fill_zero];exact hbo5.out,hit5.out,hb5.out⟩
        case round =>
         rename World => w6
         clear x0 x2 x3 x4 y0 y2 y3 y4 hs5 hbo5 hb5 hit5 hitA5 hs3 hbo3 hb3 hit3 hs4 hbo4 hb4 hitA4 hA1 hA2 hA3 hRx hRy
         obtain ⟨m3,hXm,hmY,rfl,hs6,hbo6,hit6,hb6⟩:=hrel
         have y0:=hit6.c0
         have y3:=hit6.c3
         by_cases hm3 : m3 ≤ Y
         · have d0:=hbo6.cell (show m3 < 256 by omega)
           have f0:=hbo6.thawed m3
           have m0 : (0 : Int) ≤ (m3 : Int):=by omega
           have m1 : (m3 : Int) < 256:=by omega
           have hbo7:=hbo6.store (show m3 < 256 by omega) true
           rw [fill_next acc X m3 hXm] at hbo7
           have hs7:=lhi (hs6.set_other (a:=⟨w.heap.size + 1,m3,none⟩) (v:=.bool true) (by show w.heap.size ≠ w.heap.size + 1;omega))
           have hb7:=lhi (hb6.setCell (p:=⟨w.heap.size + 1,m3,none⟩) (by show w.heap.size ≤ w.heap.size + 1;omega) (.bool true))
           have hit7:=lhi (hit6.set_other (a:=⟨w.heap.size + 1,m3,none⟩) (v:=.bool true) (Nat.ne_of_gt hgg))
           replace hbo7:=lhi hbo7
           clear hs6 hb6 hbo6 hit6
           go_wp2
           go_roundw
           case rel => exact RelF.mk ⟨m3 + 1,by omega,by omega,by go_num,hs7.out,hbo7.out,hit7.out,hb7.out⟩
           case measure => simp [intOf];omega
         · obtain rfl : m3 = Y + 1:=by omega
           rw [hfe.out] at hbo6
           have hs7:=lhi hs6
           have hb7:=lhi hb6
           have hbo7:=lhi hbo6
           clear hs6 hb6 hbo6 hit6
           go_wp2
           go_roundw
           case rel => exact RelP.mk ⟨N2,nn + 1,orF acc F,rfl,by go_num,by have:=hn'.out;omega,by omega,by rw [show decide (nn + 1 = 0) = false by simp];exact hfin.out,hs7.out,hbo7.out,hb7.out⟩
           case measure => simp [intOf];omega
end Go.Proofs.YtonjnagcdnmcpaaGreatDoor
