/- Contracts and plain facts: M31. -/
import Derived.Test.YtonjnagcdnmcpaaGreatDoorM30
import Derived.Test.YtonjnagcdnmcpaaGreatDoorM06
set_option linter.unusedVariables false
set_option linter.unusedSimpArgs false
set_option maxRecDepth 100000
set_option maxHeartbeats 32000000
namespace Go.Proofs.YtonjnagcdnmcpaaGreatDoor
open Go.RowKit
theorem betw_at (sg : UInt8) {l : List UInt8} {j : Nat} (h : j < l.length) : betw sg (l.drop j) = if bg [sg,93] (l.drop j) then some 0 else (betw sg (l.drop (j + 1))).map (· + 1):=by
 rw [List.drop_eq_getElem_cons h];rfl
def RelB (sg : UInt8) (l : List UInt8) (k : Nat) (v : Value) : Prop :=
 ∃ j : Nat,k + 2 ≤ j ∧ j ≤ l.length ∧ v = .int .i64 (j : Int) ∧ betw sg (l.drop (k + 2)) = (betw sg (l.drop j)).map (· + (j - (k + 2)))
theorem RelB.mk {sg : UInt8} {l : List UInt8} {k : Nat} {v : Value} (h : ∃ j : Nat,k + 2 ≤ j ∧ j ≤ l.length ∧ v = .int .i64 (j : Int) ∧ betw sg (l.drop (k + 2)) = (betw sg (l.drop j)).map (· + (j - (k + 2)))) : RelB sg l k v:=h
theorem betw_found {sg : UInt8} {l : List UInt8} {k j : Nat} (hl : j < l.length) (hr : betw sg (l.drop (k + 2)) = (betw sg (l.drop j)).map (· + (j - (k + 2)))) (hb : bg [sg,93] (l.drop j) = true) : betw sg (l.drop (k + 2)) = some (j - (k + 2)):=by
 rw [hr,betw_at sg hl,if_pos hb];simp
theorem betw_next {sg : UInt8} {l : List UInt8} {k j : Nat} (hj : k + 2 ≤ j) (hl : j < l.length) (hr : betw sg (l.drop (k + 2)) = (betw sg (l.drop j)).map (· + (j - (k + 2)))) (hb : bg [sg,93] (l.drop j) = false) : betw sg (l.drop (k + 2)) = (betw sg (l.drop (j + 1))).map (· + (j + 1 - (k + 2))):=by
 rw [hr,betw_at sg hl,if_neg (by simp [hb])]
 cases betw sg (l.drop (j + 1)) with
 | none => rfl
 | some i => simp;omega
theorem betw_gone {sg : UInt8} {l : List UInt8} {k j : Nat} (hl : l.length ≤ j) (hr : betw sg (l.drop (k + 2)) = (betw sg (l.drop j)).map (· + (j - (k + 2)))) : betw sg (l.drop (k + 2)) = none:=by
 rw [hr,List.drop_of_length_le hl];rfl
theorem piece_open {l : List UInt8} {k : Nat} (h : k < l.length) (hx : ((l[k]'h).toNat : Int) = 91) : (atV l (k + 1) = 58 → piece (l.drop k) = clsP (l.drop k)) ∧ (atV l (k + 1) = 46 → piece (l.drop k) = loneP 46 (l.drop k)) ∧ (atV l (k + 1) = 61 → piece (l.drop k) = loneP 61 (l.drop k)):=by
 have e1 : bg [91,58] (l.drop k) = decide (atV l (k + 1) = 58):=by rw [bg_at 91 58 h,hx];simp
 have e2 : bg [91,46] (l.drop k) = decide (atV l (k + 1) = 46):=by rw [bg_at 91 46 h,hx];simp
 have e3 : bg [91,61] (l.drop k) = decide (atV l (k + 1) = 61):=by rw [bg_at 91 61 h,hx];simp
 unfold piece endP
 rw [e1,e2,e3]
 refine ⟨fun e => ?_,fun e => ?_,fun e => ?_⟩ <;> simp [e]
section
variable {w w' : World} {g : Nat} {C : Int} {f : Nat → Bool} {cl : Bool} {nx E : Int}
theorem itmC_set (i : Nat) (v : Value) : (itmC C f cl nx E).setIfInBounds i v = ((itmL C f cl nx E).set i v).toArray:=by unfold itmC;simp
theorem ItmAt.set0 (h : ItmAt w g C f cl nx E) (C' : Int) : ItmAt (w.setCell ⟨g,0,none⟩ (.int .i64 C')) g C' f cl nx E:=by
 unfold ItmAt at h ⊢
 rw [heap_setCell_same w g 0 _ _ _ h,itmC_set];rfl
theorem boolsL_set (f : Nat → Bool) {k : Nat} (hk : k < 256) (b : Bool) : (boolsL f).set k (.bool b) = boolsL (putB f k b):=by
 apply List.ext_getElem?
 intro i
 rw [List.getElem?_set]
 by_cases hi : k = i
 · subst hi
   rw [if_pos rfl,if_pos (by rw [boolsL_len];exact hk)]
   unfold boolsL
   rw [List.getElem?_map,List.getElem?_range hk]
   simp [putB]
 · rw [if_neg hi]
   unfold boolsL
   rw [List.getElem?_map,List.getElem?_map]
   by_cases hl : i < 256
   · rw [List.getElem?_range hl]
     have : ¬ i = k:=fun e => hi e.symm
     simp [putB,this]
   · rw [List.getElem?_eq_none (by simp;omega)];rfl
theorem ItmAt.setIn (h : ItmAt w g C f cl nx E) {k : Nat} (hk : k < 256) (b : Bool) : ItmAt (w.setCell ⟨g,1 + k,none⟩ (.bool b)) g C (putB f k b) cl nx E:=by
 rw [Nat.add_comm]
 unfold ItmAt at h ⊢
 rw [heap_setCell_same w g (k + 1) _ _ _ h,itmC_set]
 unfold itmC itmL
 rw [List.set_cons_succ,List.set_append,if_pos (by rw [boolsL_len];exact hk),boolsL_set f hk b]
theorem ItmAt.set2 (h : ItmAt w g C f cl nx E) (b : Bool) : ItmAt (w.setCell ⟨g,257,none⟩ (.bool b)) g C f b nx E:=by
 unfold ItmAt at h ⊢
 rw [heap_setCell_same w g 257 _ _ _ h,itmC_set]
 unfold itmC itmL
 rw [show (257 : Nat) = 256 + 1 by rfl,List.set_cons_succ,List.set_append,if_neg (by rw [boolsL_len];omega),boolsL_len];rfl
theorem ItmAt.alike {f' : Nat → Bool} (h : ItmAt w g C f cl nx E) (ha : Go.Proofs.YtonjnagcdnmcpaaGreatDoor.alike f f') : ItmAt w g C f' cl nx E:=by
 unfold ItmAt at h ⊢;rw [← itm_alike ha];exact h
theorem ItmAt.row_far {g' : Nat} (h : ItmAt w g C f cl nx E) (hne : g ≠ g') (cs : Array Value) : ItmAt (w.setRow g' cs) g C f cl nx E:=by
 unfold ItmAt at h ⊢;rw [setRow_other w g' g cs hne];exact h
end
theorem two_blocks (w : World) (nx : Int) : ∃ w2,(((w.alloc (.cells (itmC 0 noneF false 0 0) 145)).alloc (.cells (itmC 0 noneF false 0 0) 145)).setRow (w.heap.size + 1) (itmC 0 noneF false nx 0)) = w2 ∧
    ItmAt w2 w.heap.size 0 noneF false 0 0 ∧ ItmAt w2 (w.heap.size + 1) 0 noneF false nx 0 ∧ Below w.heap.size w w2 ∧ w.heap.size + 2 ≤ w2.heap.size:=by
 have h1:=itm_new w 0 noneF false 0 0
 have h2:=itm_new (w.alloc (.cells (itmC 0 noneF false 0 0) 145)) 0 noneF false 0 0
 rw [sizeA'] at h2
 refine ⟨_,rfl,(h1.alloc _).row_far (by omega) _,h2.put _ _ _ _ _,below_put ((((Below.refl _ _).alloc (nlr _) _)).alloc (by simp) _) (by omega) _,?_⟩
 rw [size_setRow,sizeA',sizeA'];exact nlr _
theorem refIs_at (nm : List UInt8) (k : Nat) (w : World) :
    Calls Tryz.prog 134 #[.string ⟨nm.toArray⟩,.int .u8 (k : Int)] w fun e w' => e = .returned (.tuple #[.bool (clsF nm k),.bool (known nm)]) ∧ w = w':=by
 have:=refIs_any ⟨nm.toArray⟩ (k : Int) w
 rw [ba_toList,cls_some nm (k : Int) 0] at this
 exact this
def RelC (W : World) (F : Nat → Bool) (kn : Bool) (nx : Int) (v : Value) (wr : World) : Prop :=
 ∃ m : Nat,m ≤ 256 ∧ (m = 0 ∨ kn = true) ∧ v = .int .i64 (m : Int) ∧ ItmAt wr W.heap.size 0 noneF false 0 0 ∧ ItmAt wr (W.heap.size + 1) 0 (upto F m) true nx 0 ∧ Below W.heap.size W wr
theorem RelC.mk {W : World} {F : Nat → Bool} {kn : Bool} {nx : Int} {v : Value} {wr : World} (h : ∃ m : Nat,m ≤ 256 ∧ (m = 0 ∨ kn = true) ∧ v = .int .i64 (m : Int) ∧ ItmAt wr W.heap.size 0 noneF false 0 0 ∧ ItmAt wr (W.heap.size + 1) 0 (upto F m) true nx 0 ∧ Below W.heap.size W wr) : RelC W F kn nx v wr:=h
theorem loneP_eq (sg : UInt8) (l : List UInt8) (k : Nat) : loneP sg (l.drop k) = match betw sg (l.drop (k + 2)) with | none => .bad 11 | some i => if i = 1 then .one ((l.drop (k + 2)).headD 0) 5 else .bad 12:=by
 unfold loneP;rw [List.drop_drop];rfl
theorem addS (a : Addr) (i : Nat) : a.add (i + 1) = ⟨a.block,a.off + (i + 1),none⟩:=by unfold Addr.add;split <;> simp_all
theorem headD_at {l : List UInt8} {k : Nat} (h : k < l.length) : (l.drop k).headD 0 = l[k]'h:=by rw [List.drop_eq_getElem_cons h];rfl
theorem read_lone (sg : UInt8) (q : Int) (hq : (sg.toNat : Int) = q) (hsg : q = 46 ∨ q = 61) (A : Option Addr) (n c : Nat) (l : List UInt8) (B : Nat) (w : World) (hn : n = l.length) (hB : B ≤ w.heap.size) (hbt : Byt w B A l) (k : Nat) (hk : k < l.length) (hs : l.length ≤ 1000000)
    (hx : ((l[k]'hk).toNat : Int) = 91) (hy : atV l (k + 1) = q) :
    Calls Tryz.prog 121 #[.slice A n c,.int .i64 (k : Int)] w fun e w' => e = .returned (.agg (pcC (loneP sg (l.drop k)) k)) ∧ Below w.heap.size w w':=by
 have hk1 : k + 1 < l.length:=by
  by_cases h : k + 1 < l.length
  · exact h
  · rw [atV_out (by omega)] at hy;omega
 have hz:=zero_itm
 have hb1:=build_E 11
 have hb2:=build_E 12
 have hb3:=fun j => build_N j
 have hP':=lhi (loneP_eq sg l k)
 replace hbt:=(hbt.more hB).below ((Below.refl _ _).alloc (nlr _) (.cells (itmC 0 noneF false 0 0) 145))
 have hat:=at_any A n c l w.heap.size _ hn hbt
 have hat1:=hat (k + 1) (by omega)
 rw [hy] at hat1
 replace hat1:=lhi hat1
 replace hat:=lhi hat
 have hbt':=lhi hbt
 obtain ⟨ad,rfl,hadB,hd⟩:=hbt.at_ hk
 rw [hx] at hd
 have hn':=lhi hn
 have hs':=lhi hs
 have hkn : k < n:=by omega
 have hkn1 : k + 1 < n:=by omega
 have hns : n ≤ 1000000:=by omega
 have hk':=lhi hk
 have hk1':=lhi hk1
 have c58 : (q != 58) = true:=by rw [bne_iff_ne];omega
 have hcs : ((q != 46) = false) ∨ ((q != 46) = true ∧ (q != 61) = false):=by
  rcases hsg with rfl | rfl
  · exact Or.inl rfl
  · exact Or.inr ⟨rfl,rfl⟩
 have hq':=lhi hq
 clear hn hbt hs hB hx hy hk hk1 hq hsg
 rcases hcs with c46 | ⟨c46,c61⟩
 all_goals
  go_enter Tryz.func121,Tryz.ntmps121
  go_wp2_with (first
   | (go_at_call 120;refine (hat1.out).mono ?_;rintro e w' ⟨rfl,rfl⟩))
  go_loop [6] (RelB sg l k) (fun v => n - (intOf v).toNat)
  case atStart => exact RelB.mk ⟨k + 2,nlr _,hk1'.out,by go_num,by simp⟩
  case round =>
   clear hd
   obtain ⟨j,hj,hjl,rfl,hr⟩:=hrel
   by_cases hlt : j < n
   · have hjn : j < l.length:=by have:=hn'.out;omega
     obtain ⟨ad2,hA2,_,hd2⟩:=hbt'.out.at_ hjn
     obtain rfl:=Option.some.inj hA2
     have hX : (l[j]'hjn).toNat < 256:=UInt8.toNat_lt _
     have hbg:=bg_at sg 93 hjn
     rw [hq'.out] at hbg
     have hatj:=hat.out (j + 1) (by omega)
     generalize (l[j]'hjn).toNat = X at *
     generalize atV l (j + 1) = z at *
     replace hatj:=lhi hatj
     clear hA2
     by_cases hf : (X : Int) = q
     · have gX : ((X : Int) == q) = true:=by simpa using hf
       by_cases h93 : z = 93
       · subst h93
         have hfd:=betw_found hjn hr (by rw [hbg];simp [hf])
         have hfin:=loneP_eq sg l k
         rw [hfd] at hfin
         simp only at hfin
         obtain ⟨w2,hw2,hR,hI,hB2,hsz⟩:=two_blocks w ((j : Int) + 2)
         clear hr hbg hf hfd
         have hN2:=itm_new (w.alloc (.cells (itmC 0 noneF false 0 0) 145)) 0 noneF false 0 0
         rw [sizeA'] at hN2
         by_cases h3 : j = k + 3
         · have hk2n : k + 2 < l.length:=by omega
           rw [if_pos (by omega),headD_at hk2n] at hfin
           have hbt2 : Byt w2 w.heap.size (some ad) l:=hbt'.out.keep fun p hp => (hB2.cell hp).trans ((((Below.refl w.heap.size w).alloc (nlr _) _).cell hp).symm)
           obtain ⟨ad3,hA3,_,hd3⟩:=hbt2.at_ hk2n
           obtain rfl:=Option.some.inj hA3
           have hY : (l[k + 2]'hk2n).toNat < 256:=UInt8.toNat_lt _
           have hfin':=lhi (congrArg (fun p => pcC p k) hfin)
           simp only [pcC] at hfin'
           generalize (l[k + 2]'hk2n).toNat = Y at *
           rw [show k + 2 = k + 1 + 1 by rfl,addS] at hd3
           clear hfin hA3 hbt2
           have hI0:=hI.c0
           have hI0f:=hI.thawed 0
           have hI3:=lhi (hI.set0 (Y : Int))
           have hR3:=lhi (hR.set_other (a:=⟨w.heap.size + 1,0,none⟩) (v:=.int .i64 (Y : Int)) (by show w.heap.size ≠ w.heap.size + 1;omega))
           have hB3:=lhi (hB2.setCell (p:=⟨w.heap.size + 1,0,none⟩) (by show w.heap.size ≤ w.heap.size + 1;omega) (.int .i64 (Y : Int)))
           have g3 : ((j : Int) != (k : Int) + 3) = false:=by simp;omega
           have hj3:=lhi h3
           have hw2':=lhi hw2
           clear hR hI hB2 h3 hw2
           go_wp2_with (first
            | (go_at_call 120;refine (hatj.out).mono ?_;rintro e w' ⟨rfl,rfl⟩)
            | (refine wpList_store_row rfl 145 (.tmp 7) (.tmp 89) rfl (w.heap.size + 1) (itmC 0 noneF false ((j : Int) + 2) 0) rfl rfl 145 _ hN2 (itm_sz _ _ _ _ _) (itm_hold _ _ _ _ _ _ _ _ _ _) (itm_cells _ _ _ _ _) ?_;rw [hw2'.out])
            | (refine wpList_load_row rfl 145 (.tmp 7) rfl (w.heap.size + 1) rfl 145 _ (0,0) _ hI3.out Tryz.underlying145 rfl (itm_sz _ _ _ _ _) ?_)
            | (refine wpList_store_row rfl 145 (.tmp 4) (.tmp 104) rfl w.heap.size (itmC (Y : Int) noneF false ((j : Int) + 2) 0) rfl rfl 145 _ hR3.out (itm_sz _ _ _ _ _) (itm_hold _ _ _ _ _ _ _ _ _ _) (itm_cells _ _ _ _ _) ?_))
           exact bodyPost_ret (v:=.agg (itmC (Y : Int) noneF false ((j : Int) + 2) 0)) (results_cell_row Tryz.results121 _ _ w.heap.size 145 (itmC (Y : Int) noneF false ((j : Int) + 2) 0) (0,0) _ rfl (hR3.out.put _ _ _ _ _) Tryz.underlying145 rfl (itm_sz _ _ _ _ _)) rfl
            ⟨by unfold pcC;rw [hfin'.out,hj3.out];rfl,below_put hB3.out (nlr _) _⟩
         · rw [if_neg (by omega)] at hfin
           have hfin':=lhi (congrArg (fun p => pcC p k) hfin)
           simp only [pcC] at hfin'
           have g3 : ((j : Int) != (k : Int) + 3) = true:=by simp;omega
           have hw2':=lhi hw2
           have hR':=lhi hR
           have hB':=lhi hB2
           clear hfin hR hI hB2 h3 hw2
           go_wp2_with (first
            | (go_at_call 120;refine (hatj.out).mono ?_;rintro e w' ⟨rfl,rfl⟩)
            | (refine wpList_store_row rfl 145 (.tmp 7) (.tmp 89) rfl (w.heap.size + 1) (itmC 0 noneF false ((j : Int) + 2) 0) rfl rfl 145 _ hN2 (itm_sz _ _ _ _ _) (itm_hold _ _ _ _ _ _ _ _ _ _) (itm_cells _ _ _ _ _) ?_;rw [hw2'.out])
            | (refine wpList_store_row rfl 145 (.tmp 4) (.tmp 96) rfl w.heap.size (itmC 0 noneF false 0 12) rfl rfl 145 _ hR'.out (itm_sz _ _ _ _ _) (itm_hold _ _ _ _ _ _ _ _ _ _) (itm_cells _ _ _ _ _) ?_))
           exact bodyPost_ret (v:=.agg (itmC 0 noneF false 0 12)) (results_cell_row Tryz.results121 _ _ w.heap.size 145 (itmC 0 noneF false 0 12) (0,0) _ rfl (hR'.out.put _ _ _ _ _) Tryz.underlying145 rfl (itm_sz _ _ _ _ _)) rfl
            ⟨by unfold pcC;rw [hfin'.out];rfl,below_put hB'.out (nlr _) _⟩
       · have gz : (z == 93) = false:=by simpa using h93
         have hnx:=lhi (betw_next hj hjn hr (by rw [hbg];simp only [Bool.and_eq_false_iff,decide_eq_false_iff_not];exact Or.inr h93))
         clear hr hbg hf h93
         go_wp2_with (go_at_call 120;refine (hatj.out).mono ?_;rintro e w' ⟨rfl,rfl⟩)
         go_round
         case rel => exact RelB.mk ⟨j + 1,by omega,by omega,by go_num,hnx.out⟩
         case measure => simp [intOf];omega
     · have gX : ((X : Int) == q) = false:=by simpa using hf
       have hnx:=lhi (betw_next hj hjn hr (by rw [hbg];simp only [Bool.and_eq_false_iff,decide_eq_false_iff_not];exact Or.inl hf))
       clear hr hbg hf
       go_wp2_with (go_at_call 120;refine (hatj.out).mono ?_;rintro e w' ⟨rfl,rfl⟩)
       go_round
       case rel => exact RelB.mk ⟨j + 1,by omega,by omega,by go_num,hnx.out⟩
       case measure => simp [intOf];omega
   · have hfd:=betw_gone (by have:=hn'.out;omega) hr
     have hfin:=loneP_eq sg l k
     rw [hfd] at hfin
     have hfin':=lhi (congrArg (fun p => pcC p k) hfin)
     simp only [pcC] at hfin'
     clear hr hfd hfin
     go_wp2_with (first
      | (refine wpList_store_row rfl 145 (.tmp 4) (.tmp 86) rfl w.heap.size (itmC 0 noneF false 0 11) rfl rfl 145 _ (itm_new w 0 noneF false 0 0) (itm_sz _ _ _ _ _) (itm_hold _ _ _ _ _ _ _ _ _ _) (itm_cells _ _ _ _ _) ?_))
     exact bodyPost_ret (v:=.agg (itmC 0 noneF false 0 11)) (results_cell_row Tryz.results121 _ _ w.heap.size 145 (itmC 0 noneF false 0 11) (0,0) _ rfl ((itm_new w 0 noneF false 0 0).put _ _ _ _ _) Tryz.underlying145 rfl (itm_sz _ _ _ _ _)) rfl
      ⟨by unfold pcC;rw [hfin'.out];rfl,below_put ((Below.refl _ _).alloc (nlr _) _) (nlr _) _⟩
theorem clsP_eq (l : List UInt8) (k : Nat) : clsP (l.drop k) = match betw 58 (l.drop (k + 2)) with | none => .bad 11 | some i => if known ((l.drop (k + 2)).take i) then .cls ((l.drop (k + 2)).take i) (i + 4) else .bad 12:=by
 unfold clsP;rw [List.drop_drop];rfl
theorem read_cls (A : Option Addr) (n c : Nat) (l : List UInt8) (B : Nat) (w : World) (hn : n = l.length) (hnc : n ≤ c) (hB : B ≤ w.heap.size) (hbt : Byt w B A l) (k : Nat) (hk : k < l.length) (hs : l.length ≤ 1000000)
    (hx : ((l[k]'hk).toNat : Int) = 91) (hy : atV l (k + 1) = 58) :
    Calls Tryz.prog 121 #[.slice A n c,.int .i64 (k : Int)] w fun e w' => e = .returned (.agg (pcC (clsP (l.drop k)) k)) ∧ Below w.heap.size w w':=by
 have hk1 : k + 1 < l.length:=by
  by_cases h : k + 1 < l.length
  · exact h
  · rw [atV_out (by omega)] at hy;omega
 have hz:=zero_itm
 have hb1:=build_E 11
 have hb2:=build_E 12
 have hb3:=fun j => build_N j
 replace hbt:=(hbt.more hB).below ((Below.refl _ _).alloc (nlr _) (.cells (itmC 0 noneF false 0 0) 145))
 have hat:=at_any A n c l w.heap.size _ hn hbt
 have hat1:=hat (k + 1) (by omega)
 rw [hy] at hat1
 replace hat1:=lhi hat1
 replace hat:=lhi hat
 have hbt':=lhi hbt
 obtain ⟨ad,rfl,hadB,hd⟩:=hbt.at_ hk
 rw [hx] at hd
 have hn':=lhi hn
 have hs':=lhi hs
 have hkn : k < n:=by omega
 have hkn1 : k + 1 < n:=by omega
 have hns : n ≤ 1000000:=by omega
 have hk1':=lhi hk1
 clear hn hbt hs hB hx hy hk hk1
 go_enter Tryz.func121,Tryz.ntmps121
 go_wp2_with (first
  | (go_at_call 120;refine (hat1.out).mono ?_;rintro e w' ⟨rfl,rfl⟩))
 go_loop [6] (RelB 58 l k) (fun v => n - (intOf v).toNat)
 case atStart => exact RelB.mk ⟨k + 2,nlr _,hk1'.out,by go_num,by simp⟩
 case round =>
  clear hd
  obtain ⟨j,hj,hjl,rfl,hr⟩:=hrel
  by_cases hlt : j < n
  · have hjn : j < l.length:=by have:=hn'.out;omega
    obtain ⟨ad2,hA2,_,hd2⟩:=hbt'.out.at_ hjn
    obtain rfl:=Option.some.inj hA2
    have hX : (l[j]'hjn).toNat < 256:=UInt8.toNat_lt _
    have hbg:=bg_at 58 93 hjn
    have hatj:=hat.out (j + 1) (by omega)
    generalize (l[j]'hjn).toNat = X at *
    generalize atV l (j + 1) = z at *
    replace hatj:=lhi hatj
    clear hA2
    by_cases hf : (X : Int) = 58
    · obtain rfl : X = 58:=by omega
      by_cases h93 : z = 93
      · subst h93
        have hfd:=betw_found hjn hr (by rw [hbg];simp)
        have hfin:=clsP_eq l k
        rw [hfd] at hfin
        simp only at hfin
        obtain ⟨w2,hw2,hR,hI,hB2,hsz⟩:=two_blocks w ((j : Int) + 2)
        have hN2:=itm_new (w.alloc (.cells (itmC 0 noneF false 0 0) 145)) 0 noneF false 0 0
        rw [sizeA'] at hN2
        clear hr hbg hf hfd
        have hbt2 : Byt w w.heap.size (some ad) l:=hbt'.out.keep fun p hp => ((((Below.refl w.heap.size w).alloc (nlr _) _).cell hp).symm)
        have hbc:=hbt2.cut (i:=k + 2) (j:=j) (cap:=c) (by omega) (by have:=hn'.out;omega)
        rw [if_neg (by omega),Option.map_some,show k + 2 = k + 1 + 1 by rfl,addS,List.drop_take,show j - (k + 1 + 1) = j - (k + 2) by omega] at hbc
        have hnl : ((l.drop (k + 1 + 1)).take (j - (k + 2))).length = j - (k + 2):=by rw [List.length_take,List.length_drop];omega
        rw [show k + 2 = k + 1 + 1 by rfl] at hfin
        generalize hnm : (l.drop (k + 1 + 1)).take (j - (k + 1 + 1)) = nm at *
        have hnl':=lhi hnl
        have hbc':=lhi hbc
        have hR2:=lhi hR
        have hI2:=hI.c2
        have hI2f:=hI.thawed 257
        have hIs:=lhi (hI.set2 true)
        have hRs:=lhi (hR.set_other (a:=⟨w.heap.size + 1,257,none⟩) (v:=.bool true) (by show w.heap.size ≠ w.heap.size + 1;omega))
        have hBs:=lhi (hB2.setCell (p:=⟨w.heap.size + 1,257,none⟩) (by show w.heap.size ≤ w.heap.size + 1;omega) (.bool true))
        have hw2':=lhi hw2
        have hfin':=lhi (congrArg (fun p => pcC p k) hfin)
        have hbt2':=lhi hbt2
        clear hR hI hB2 hw2 hnm hnl hbc hfin hbt2
        go_wp2_with (first
         | (go_at_call 120;refine (hatj.out).mono ?_;rintro e w' ⟨rfl,rfl⟩)
         | (refine wpList_store_row rfl 145 (.tmp 7) (.tmp 89) rfl (w.heap.size + 1) (itmC 0 noneF false ((j : Int) + 2) 0) rfl rfl 145 _ hN2 (itm_sz _ _ _ _ _) (itm_hold _ _ _ _ _ _ _ _ _ _) (itm_cells _ _ _ _ _) ?_;rw [hw2'.out]))
        go_loopw [8] (RelC w (clsF nm) (known nm) ((j : Int) + 2)) (fun v _ => 256 - (intOf v).toNat)
        case atStart => exact RelC.mk ⟨0,by omega,Or.inl rfl,rfl,hRs.out,by rw [upto_zero];exact hIs.out,hBs.out⟩
        case round =>
         rename World => w3
         obtain ⟨m,hm,hmk,rfl,hRr,hIr,hBr⟩:=hrel
         clear hI2 hI2f hIs hRs hBs hN2 hw2' hR2
         by_cases hm2 : m < 256
         · have k3 : IntKind.u8.wrap (m : Int) = (m : Int):=IntWalk.u8_in _ (by omega)
           have k4 : (m : Int) % 256 = (m : Int):=by omega
           have hIsm:=lhi (fun w => refIs_at nm m w)
           have hcv:=conv_any (c:=c - (k + 1 + 1)) (hbc'.out.below hBr) hnl'.out.symm
           cases hkn : known nm with
           | false =>
            have hm0 : m = 0:=by
             rcases hmk with h | h
             · exact h
             · rw [hkn] at h;cases h
            subst hm0
            rw [hkn] at hIsm
            have hR4:=lhi hRr
            have hB4:=lhi hBr
            have hkn':=lhi hkn
            clear hIr hRr hBr hkn
            go_wp2_with (first
             | (go_at_call 134;refine (hIsm.out _).mono ?_;rintro e w' ⟨rfl,rfl⟩)
             | (refine wpList_store_row rfl 145 (.tmp 4) (.tmp 124) rfl w.heap.size (itmC 0 noneF false 0 12) rfl rfl 145 _ hR4.out (itm_sz _ _ _ _ _) (itm_hold _ _ _ _ _ _ _ _ _ _) (itm_cells _ _ _ _ _) ?_))
            exact bodyPost_ret (v:=.agg (itmC 0 noneF false 0 12)) (results_cell_row Tryz.results121 _ _ w.heap.size 145 (itmC 0 noneF false 0 12) (0,0) _ rfl (hR4.out.put _ _ _ _ _) Tryz.underlying145 rfl (itm_sz _ _ _ _ _)) rfl
             ⟨by rw [hfin'.out,hkn'.out];rfl,below_put hB4.out (nlr _) _⟩
           | true =>
            rw [hkn] at hIsm
            have hc:=hIr.cin hm2
            have hcf:=hIr.thawed (1 + m)
            have hI4:=hIr.setIn hm2 (clsF nm m)
            rw [upto_next] at hI4
            have hI4':=lhi hI4
            have hR4:=lhi (hRr.set_other (a:=⟨w.heap.size + 1,1 + m,none⟩) (v:=.bool (clsF nm m)) (by show w.heap.size ≠ w.heap.size + 1;omega))
            have hB4:=lhi (hBr.setCell (p:=⟨w.heap.size + 1,1 + m,none⟩) (by show w.heap.size ≤ w.heap.size + 1;omega) (.bool (clsF nm m)))
            clear hI4 hIr hRr hBr
            generalize clsF nm m = fv at *
            go_wp2_with (first
             | (go_at_call 134;refine (hIsm.out _).mono ?_;rintro e w' ⟨rfl,rfl⟩))
            clear k4
            go_roundw
            case rel => exact RelC.mk ⟨m + 1,by omega,Or.inr rfl,by go_num,hR4.out,hI4'.out,hB4.out⟩
            case measure => simp [intOf];omega
         · obtain rfl : m = 256:=by omega
           have hkn : known nm = true:=hmk.resolve_left (by decide)
           have hI4:=lhi (hIr.alike (upto_end (clsF nm)))
           have hR4:=lhi hRr
           have hB4:=lhi hBr
           have hkn':=lhi hkn
           clear hIr hRr hBr hkn hmk
           generalize hF : clsF nm = F at *
           replace hF:=lhi hF
           go_wp2_with (first
            | (refine wpList_load_row rfl 145 (.tmp 7) rfl (w.heap.size + 1) rfl 145 _ (0,0) _ hI4.out Tryz.underlying145 rfl (itm_sz _ _ _ _ _) ?_)
            | (refine wpList_store_row rfl 145 (.tmp 4) (.tmp 129) rfl w.heap.size (itmC 0 F true ((j : Int) + 2) 0) rfl rfl 145 _ hR4.out (itm_sz _ _ _ _ _) (itm_hold _ _ _ _ _ _ _ _ _ _) (itm_cells _ _ _ _ _) ?_))
           refine bodyPost_ret (v:=.agg (itmC 0 F true ((j : Int) + 2) 0)) (results_cell_row Tryz.results121 _ _ w.heap.size 145 (itmC 0 F true ((j : Int) + 2) 0) (0,0) _ rfl (hR4.out.put _ _ _ _ _) Tryz.underlying145 rfl (itm_sz _ _ _ _ _)) rfl
            ⟨?_,below_put hB4.out (nlr _) _⟩
           rw [hfin'.out,hkn'.out,if_pos rfl]
           show _ = Ending.returned (.agg (itmC 0 (clsF nm) true ((k + (j - (k + 2) + 4) : Nat) : Int) 0))
           rw [hF.out,show ((k + (j - (k + 2) + 4) : Nat) : Int) = (j : Int) + 2 by omega]
      · have gz : (z == 93) = false:=by simpa using h93
        have hnx:=lhi (betw_next hj hjn hr (by rw [hbg];simp only [Bool.and_eq_false_iff,decide_eq_false_iff_not];exact Or.inr h93))
        clear hr hbg hf h93
        go_wp2_with (go_at_call 120;refine (hatj.out).mono ?_;rintro e w' ⟨rfl,rfl⟩)
        go_round
        case rel => exact RelB.mk ⟨j + 1,by omega,by omega,by go_num,hnx.out⟩
        case measure => simp [intOf];omega
    · have gX : ((X : Int) == 58) = false:=by simpa using hf
      have hnx:=lhi (betw_next hj hjn hr (by rw [hbg];simp only [Bool.and_eq_false_iff,decide_eq_false_iff_not];exact Or.inl hf))
      clear hr hbg hf
      go_wp2_with (go_at_call 120;refine (hatj.out).mono ?_;rintro e w' ⟨rfl,rfl⟩)
      go_round
      case rel => exact RelB.mk ⟨j + 1,by omega,by omega,by go_num,hnx.out⟩
      case measure => simp [intOf];omega
  · have hfd:=betw_gone (by have:=hn'.out;omega) hr
    have hfin:=clsP_eq l k
    rw [hfd] at hfin
    have hfin':=lhi (congrArg (fun p => pcC p k) hfin)
    simp only [pcC] at hfin'
    clear hr hfd hfin
    go_wp2_with (first
     | (refine wpList_store_row rfl 145 (.tmp 4) (.tmp 86) rfl w.heap.size (itmC 0 noneF false 0 11) rfl rfl 145 _ (itm_new w 0 noneF false 0 0) (itm_sz _ _ _ _ _) (itm_hold _ _ _ _ _ _ _ _ _ _) (itm_cells _ _ _ _ _) ?_))
    exact bodyPost_ret (v:=.agg (itmC 0 noneF false 0 11)) (results_cell_row Tryz.results121 _ _ w.heap.size 145 (itmC 0 noneF false 0 11) (0,0) _ rfl ((itm_new w 0 noneF false 0 0).put _ _ _ _ _) Tryz.underlying145 rfl (itm_sz _ _ _ _ _)) rfl
     ⟨by unfold pcC;rw [hfin'.out];rfl,below_put ((Below.refl _ _).alloc (nlr _) _) (nlr _) _⟩
theorem read_any (A : Option Addr) (n c : Nat) (l : List UInt8) (B : Nat) (w : World) (hn : n = l.length) (hnc : n ≤ c) (hB : B ≤ w.heap.size) (hbt : Byt w B A l) (k : Nat) (hs : l.length ≤ 1000000) :
    Calls Tryz.prog 121 #[.slice A n c,.int .i64 (k : Int)] w fun e w' => e = .returned (.agg (pcC (piece (l.drop k)) k)) ∧ Below w.heap.size w w':=by
 by_cases hk : k < l.length
 · by_cases hx : ((l[k]'hk).toNat : Int) = 91
   · have hp:=piece_open hk hx
     by_cases h1 : atV l (k + 1) = 58
     · rw [hp.1 h1];exact read_cls A n c l B w hn hnc hB hbt k hk hs hx h1
     · by_cases h2 : atV l (k + 1) = 46
       · rw [hp.2.1 h2];exact read_lone 46 46 rfl (Or.inl rfl) A n c l B w hn hB hbt k hk hs hx h2
       · by_cases h3 : atV l (k + 1) = 61
         · rw [hp.2.2 h3];exact read_lone 61 61 rfl (Or.inr rfl) A n c l B w hn hB hbt k hk hs hx h3
         · exact read_one A n c l B w hn hB hbt k hk hs (fun _ => ⟨h1,h2,h3⟩) (fun e => by omega)
   · by_cases h2 : ((l[k]'hk).toNat : Int) = 92 ∧ atV l (k + 1) = 110
     · exact read_nl A n c l B w hn hB hbt k hk hs h2.1 h2.2
     · exact read_one A n c l B w hn hB hbt k hk hs (fun e => absurd e hx) h2
 · exact read_out A n c l w hn k (by omega)
def mixB (k : Nat) (f g : Nat → Bool) : Nat → Bool:=fun x => if x < k then f x else g x
theorem mix_zero (f g : Nat → Bool) : mixB 0 f g = g:=by funext x;simp [mixB]
theorem mix_end (f g : Nat → Bool) : alike (mixB 256 f g) f:=fun c hc => by simp [mixB,hc]
theorem mix_at (k : Nat) (f g : Nat → Bool) : mixB k f g k = g k:=by simp [mixB]
theorem mix_next (k : Nat) (f g : Nat → Bool) : putB (mixB k f g) k (f k) = mixB (k + 1) f g:=by
 funext x
 unfold putB mixB
 by_cases hx : x = k
 · subst hx;simp
 · have : (x < k + 1) = (x < k):=by apply propext;omega
   simp [hx,this]
def fillB (acc : Nat → Bool) (a j : Nat) : Nat → Bool:=fun x => acc x || (decide (a ≤ x) && decide (x < j))
theorem fill_zero (acc : Nat → Bool) (a : Nat) : fillB acc a a = acc:=by
 funext x
 unfold fillB
 by_cases h : a ≤ x
 · have : ¬ x < a:=by omega
   simp [this]
 · simp [h]
theorem fill_next (acc : Nat → Bool) (a j : Nat) (h : a ≤ j) : putB (fillB acc a j) j true = fillB acc a (j + 1):=by
 funext x
 unfold putB fillB
 by_cases hx : x = j
 · subst hx;simp [h]
 · have : (x < j + 1) = (x < j):=by apply propext;omega
   simp [hx,this]
theorem fill_end (acc : Nat → Bool) (x y : UInt8) : fillB acc x.toNat (y.toNat + 1) = orF acc (rngF x y):=by
 funext c
 unfold fillB orF rngF
 have : (c < y.toNat + 1) = (c ≤ y.toNat):=by apply propext;omega
 simp only [this]
section
variable {w w' : World} {g : Nat} {f : Nat → Bool}
theorem BoolsAt.keep {B : Nat} (h : BoolsAt w g f) (hb : Below B w w') (hg : g < B) : BoolsAt w' g f:=h.below hb hg
end
theorem at_bg (l : List UInt8) (i : Nat) (x : UInt8) (q : Int) (hq : (x.toNat : Int) = q) : bg [x] (l.drop i) = decide (atV l i = q):=by
 rw [Bool.eq_iff_iff,decide_eq_true_eq,← hq,atV_is]
theorem joins_at (l : List UInt8) (i : Nat) : joins (l.drop i) = (decide (atV l i = 45) && !decide (atV l (i + 1) = 93)):=by
 unfold joins
 rw [bg_two,at_bg l i 45 45 rfl,at_bg l (i + 1) 93 93 rfl]
 cases decide (atV l i = 45) <;> simp
def RelP (W : World) (l : List UInt8) (R : Except Nat ((Nat → Bool) × Nat)) (vi vn : Value) (wr : World) : Prop :=
 ∃ (i nn : Nat) (acc : Nat → Bool),vi = .int .i64 (i : Int) ∧ vn = .int .i64 (nn : Int) ∧ i ≤ l.length ∧ nn ≤ i ∧ items (decide (nn = 0)) (l.drop i) i acc = R ∧ SetAt wr W.heap.size noneF ∧ BoolsAt wr (W.heap.size + 1) acc ∧ Below W.heap.size W wr
theorem RelP.mk {W : World} {l : List UInt8} {R : Except Nat ((Nat → Bool) × Nat)} {vi vn : Value} {wr : World} (h : ∃ (i nn : Nat) (acc : Nat → Bool),vi = .int .i64 (i : Int) ∧ vn = .int .i64 (nn : Int) ∧ i ≤ l.length ∧ nn ≤ i ∧ items (decide (nn = 0)) (l.drop i) i acc = R ∧ SetAt wr W.heap.size noneF ∧ BoolsAt wr (W.heap.size + 1) acc ∧ Below W.heap.size W wr) : RelP W l R vi vn wr:=h
def RelM (W : World) (it : World → Prop) (f g : Nat → Bool) (v : Value) (wr : World) : Prop :=
 ∃ m : Nat,m ≤ 256 ∧ v = .int .i64 (m : Int) ∧ SetAt wr W.heap.size noneF ∧ BoolsAt wr (W.heap.size + 1) (mixB m f g) ∧ it wr ∧ Below W.heap.size W wr
theorem RelM.mk {W : World} {it : World → Prop} {f g : Nat → Bool} {v : Value} {wr : World} (h : ∃ m : Nat,m ≤ 256 ∧ v = .int .i64 (m : Int) ∧ SetAt wr W.heap.size noneF ∧ BoolsAt wr (W.heap.size + 1) (mixB m f g) ∧ it wr ∧ Below W.heap.size W wr) : RelM W it f g v wr:=h
def RelF (W : World) (it : World → Prop) (acc : Nat → Bool) (a b : Nat) (v : Value) (wr : World) : Prop :=
 ∃ m : Nat,a ≤ m ∧ m ≤ b + 1 ∧ v = .int .i64 (m : Int) ∧ SetAt wr W.heap.size noneF ∧ BoolsAt wr (W.heap.size + 1) (fillB acc a m) ∧ it wr ∧ Below W.heap.size W wr
theorem RelF.mk {W : World} {it : World → Prop} {acc : Nat → Bool} {a b : Nat} {v : Value} {wr : World} (h : ∃ m : Nat,a ≤ m ∧ m ≤ b + 1 ∧ v = .int .i64 (m : Int) ∧ SetAt wr W.heap.size noneF ∧ BoolsAt wr (W.heap.size + 1) (fillB acc a m) ∧ it wr ∧ Below W.heap.size W wr) : RelF W it acc a b v wr:=h
theorem piece_bad_ne {l : List UInt8} {e : Nat} (h : piece l = .bad e) : ((e : Int) != 0) = true:=by
 have:=piece_err h
 simp;omega
theorem item_bad' {l : List UInt8} {e : Nat} (hp : piece l = .bad e) : item l = .error e:=by unfold item;rw [hp]
theorem item_alone' {l : List UInt8} {c : UInt8} {n : Nat} (hp : piece l = .one c n) (hj : joins (l.drop n) = false) : item l = .ok (oneF c,n):=by unfold item;rw [hp];simp [hj]
theorem set_zeroed {w : World} {g : Nat} {f : Nat → Bool} (h : SetAt w g f) : SetAt ((((w.drew.setCell ⟨g,0,none⟩ (.int .u64 0)).setCell ⟨g,1,none⟩ (.int .u64 0)).setCell ⟨g,2,none⟩ (.int .u64 0)).setCell ⟨g,3,none⟩ (.int .u64 0)) g noneF:=by
 have:=SetAt.four (w:=w.drew) h noneF
 have e : ∀ k,((wd noneF k : Nat) : Int) = 0:=fun k => by rw [show wd noneF k = 0 from wd_none k];rfl
 rw [e,e,e,e] at this
 exact this
theorem refOf_at (f : Nat → Bool) (w : World) :
    Calls Tryz.prog 122 #[.agg (boolsC f)] w fun e w' => e = .returned (.agg (setC f)) ∧ Below w.heap.size w w':=refOf_any f w
end Go.Proofs.YtonjnagcdnmcpaaGreatDoor
