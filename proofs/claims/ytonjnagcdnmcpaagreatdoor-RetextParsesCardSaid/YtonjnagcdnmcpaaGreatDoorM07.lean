/- Contracts and plain facts: M07. -/
import Derived.Test.YtonjnagcdnmcpaaGreatDoorM06
set_option linter.unusedVariables false
set_option linter.unusedSimpArgs false
set_option maxRecDepth 100000
set_option maxHeartbeats 32000000
namespace Go.Proofs.YtonjnagcdnmcpaaGreatDoor
open Go.RowKit
def setsL (ss : List (Nat → Bool)) : List Value:=ss.flatMap fun f => (setC f).toList
theorem setsL_len (ss : List (Nat → Bool)) : (setsL ss).length = ss.length * 4:=by
 induction ss with
 | nil => rfl
 | cons n ns ih => simp only [setsL,List.flatMap_cons,lla,List.length_cons] at ih ⊢;rw [ih];simp [setC];omega
theorem setsL_append (ns ms : List (Nat → Bool)) : setsL (ns ++ ms) = setsL ns ++ setsL ms:=by simp [setsL]
theorem setsL_at (ss : List (Nat → Bool)) (k j : Nat) (hk : k < ss.length) (hj : j < 4) : (setsL ss)[k * 4 + j]? = some (.int .u64 ((wd (ss[k]'hk) j : Nat) : Int)):=by
 induction ss generalizing k with
 | nil => simp at hk
 | cons n ns ih =>
  have e : setsL (n :: ns) = (setC n).toList ++ setsL ns:=by simp [setsL]
  have hl : (setC n).toList.length = 4:=by simp [setC]
  rw [e]
  cases k with
  | zero =>
   rw [List.getElem?_append_left (by rw [hl];omega)]
   have : j = 0 ∨ j = 1 ∨ j = 2 ∨ j = 3:=by omega
   rcases this with rfl | rfl | rfl | rfl <;> rfl
  | succ k =>
   rw [List.getElem?_append_right (by rw [hl];omega),hl,show (k + 1) * 4 + j - 4 = k * 4 + j by omega]
   exact ih k (by simpa using hk)
theorem own_sets {w : World} {ss : List (Nat → Bool)} {base : Nat} {v : Value} {n : Nat} (h : w.ownsRow base 41 4 v n (setsL ss)) :
    ∃ A cap,v = .slice A n cap ∧ n = ss.length ∧ n ≤ cap ∧ cap ≤ maxLen ∧ Sets w w.heap.size A ss:=by
 have hl:=h.1
 rw [setsL_len] at hl
 obtain ⟨-,⟨rfl,rfl⟩ | ⟨g,cap,cur,rfl,_,hh,hnc,hcm,hsz,htake⟩⟩:=id h
 · have : ss = []:=by cases ss with | nil => rfl | cons _ _ => simp at hl
   subst this
   exact ⟨none,0,rfl,rfl,nlr _,by simp [maxLen],Sets.none_ _ _ _⟩
 · refine ⟨some ⟨g,0,none⟩,cap,rfl,by omega,hnc,hcm,fun k hk => ⟨_,rfl,(h.lt g rfl).2,fun j hj => ?_⟩⟩
   rw [add_zero_off,h.cellAt (k * 4 + j) (by omega),setsL_at ss k j hk hj]
theorem anyS_snoc (ss : List (Nat → Bool)) (f : Nat → Bool) : anyS (ss ++ [f]) = orF (anyS ss) f:=by
 funext x
 simp [anyS,orF]
theorem anyS_nil : anyS [] = noneF:=by funext x;simp [anyS,noneF]
theorem setInfo : (Tryz.prog.info? 41).map (fun i => (i.zero,i.size,i.bytes)) = some (some (.agg (setC noneF)),4,32):=by rw [setC_noneF];kernel_rfl
def RelI (W : World) (l : List UInt8) (k : Nat) (vi v : Value) (wr : World) : Prop :=
 ∃ (i : Nat) (ss : List (Nat → Bool)),vi = .int .i64 (i : Int) ∧ k ≤ i ∧ i ≤ l.length ∧ ss.length ≤ i - k ∧ items ss.isEmpty (l.drop i) i (anyS ss) = items true (l.drop k) k noneF ∧ wr.ownsRow W.heap.size 41 4 v ss.length (setsL ss) ∧ Below W.heap.size W wr
theorem RelI.mk {W : World} {l : List UInt8} {k : Nat} {vi v : Value} {wr : World} (h : ∃ (i : Nat) (ss : List (Nat → Bool)),vi = .int .i64 (i : Int) ∧ k ≤ i ∧ i ≤ l.length ∧ ss.length ≤ i - k ∧ items ss.isEmpty (l.drop i) i (anyS ss) = items true (l.drop k) k noneF ∧ wr.ownsRow W.heap.size 41 4 v ss.length (setsL ss) ∧ Below W.heap.size W wr) : RelI W l k vi v wr:=h
def ItemsPost (W : World) (r : Except Nat ((Nat → Bool) × Nat)) (e : Ending) (w' : World) : Prop :=
 match r with
 | .error e' => e = .returned (.tuple #[.slice none 0 0,.int .i64 0,.int .i64 (e' : Int)]) ∧ Below W.heap.size W w'
 | .ok (f,j) => ∃ v ss,e = .returned (.tuple #[v,.int .i64 (j : Int),.int .i64 0]) ∧ anyS ss = f ∧ w'.ownsRow W.heap.size 41 4 v ss.length (setsL ss) ∧ Below W.heap.size W w'
theorem base_le {W w : World} (h : Below W.heap.size W w) (o o' : Obj) : W.heap.size ≤ ((w.alloc o).alloc o').heap.size:=by
 rw [sizeA',sizeA'];have:=h.size;omega
theorem item_ne {l : List UInt8} {e : Nat} (h : item l = .error e) : ((e : Int) != 0) = true:=by
 have:=item_err h
 simp;omega
theorem src_new' (w : World) (F : Nat → Bool) : Src ((w.alloc (.cells (setC F) 41)).alloc (.cells (setC F) 41)) (some ⟨w.heap.size + 1,0,none⟩) (setC F).toList:=by
 have:=src_new (w.alloc (.cells (setC F) 41)) (setC F).toList 41
 rw [sizeA'] at this
 exact this
theorem set_ones (F : Nat → Bool) : ∀ u ∈ (setC F).toList,u.oneCell' = true:=by
 intro u hu
 simp [setC] at hu
 rcases hu with rfl | rfl | rfl | rfl <;> rfl
theorem not_empty_of {ss : List (Nat → Bool)} (h : ss ≠ []) : ss.isEmpty = false ∧ (((ss.length : Nat) : Int) == 0) = false:=by
 cases ss with
 | nil => exact absurd rfl h
 | cons _ _ => exact ⟨rfl,by simp;omega⟩
theorem items_any {A : Option Addr} {n c : Nat} {l : List UInt8} {w : World} (h : Inp w A n c l) (k : Nat) (hk : k ≤ n) :
    Calls Tryz.prog 147 #[.slice A n c,.int .i64 (k : Int)] w (ItemsPost w (items true (l.drop k) k noneF)):=by
 have h':=lhi h
 have hn':=lhi h.len
 have hns : n ≤ 1000000:=h.2.2.2.1
 have hnc:=h.2.1
 have hcm:=h.2.2.1
 unfold maxLen at hcm
 obtain ⟨i0,hi,hz0,hi1,hi2⟩ : ∃ i0,Tryz.prog.info? 41 = some i0 ∧ i0.zero = some (.agg (setC noneF)) ∧ i0.size = 4 ∧ i0.bytes = 32:=by
  obtain ⟨i0,h1,h2⟩:=Option.map_eq_some_iff.1 setInfo
  simp at h2
  exact ⟨i0,h1,h2.1,h2.2.1,h2.2.2⟩
 have hI1:=lhi hi1
 have hI2:=lhi hi2
 have hk':=lhi hk
 clear hi1 hi2 h hk
 go_enter Tryz.func147,Tryz.ntmps147
 go_wp2
 go_loopw [1,4] (RelI w l k) (fun v _ _ => n - (intOf v).toNat)
 case atStart => exact RelI.mk ⟨k,[],rfl,nlr _,by have:=hk'.out;have:=hn'.out;omega,by simp,by rw [anyS_nil];rfl,World.ownsRow_nil _ _ _ _,Below.refl _ _⟩
 case round =>
  obtain ⟨i,ss,rfl,hki,hil,hsl,hr,hown,hb⟩:=hrel
  have hin : i ≤ n:=by have:=hn'.out;omega
  have hr':=lhi hr
  have hb':=lhi hb
  obtain ⟨As,cs,rfl,-,hcs,hcsm,-⟩:=own_sets hown
  have hd:=lhi ((h'.out.grow hb).drop hin)
  have hit:=fun w1 (hb1 : Below wr.heap.size wr w1) => item_any (hd.out.grow hb1)
  by_cases hex : ss ≠ [] ∧ bg [93] (l.drop i) = true
  · obtain ⟨hse,hsp⟩:=not_empty_of hex.1
    have hil2 : i < n:=by
     by_cases e : i < n
     · exact e
     · have:=hex.2
       rw [List.drop_of_length_le (by have:=hn'.out;omega)] at this
       cases this
    have hci : ¬ c = i:=by omega
    rw [if_neg hci] at hd
    have hbg:=lhi hex.2
    have hfin:=hr.symm
    rw [hse,items_end i (anyS ss) hbg.out] at hfin
    replace hfin:=lhi hfin
    clear hr hb hit hex
    go_wp2_with (go_at_call 146;with_reducible refine (begins_is hd.out ⟨#[93]⟩ true hbg.out).mono ?_;rintro e w1 ⟨rfl,hb1⟩)
    go_ret3
    exact (show ItemsPost w _ _ _ by rw [hfin.out];exact ⟨_,ss,rfl,rfl,own_below hown hb1,hb'.out.trans (hb1.mono hb'.out.size)⟩)
  cases hx : item (l.drop i) with
  | error e =>
   by_cases hci : c = i
   · obtain rfl : n = i:=by omega
     obtain rfl : c = n:=hci
     rw [if_pos rfl,Nat.sub_self] at hd hit
     by_cases hss : ss = []
     · subst hss
       have hcond:=lhi (show (!([] : List (Nat → Bool)).isEmpty && bg [93] (l.drop c)) = false from rfl)
       have hne:=item_ne hx
       rw [hx] at hit
       replace hit:=lhi (show ∀ w1,Below wr.heap.size wr w1 → Calls Tryz.prog 159 #[.slice A 0 0] w1 fun e' w' => e' = .returned (.tuple #[.agg (setC noneF),.int .i64 0,.int .i64 (e : Int)]) ∧ Below w1.heap.size w1 w' from hit)
       have hfin:=lhi (hr.symm.trans (items_err c (anyS ([] : List (Nat → Bool))) hcond.out hx))
       replace hx:=lhi hx
       clear hr hb
       go_wp2_with (first
        | (go_at_call 159;with_reducible refine (hit.out _ (Below.refl _ _)).mono ?_;rintro e w2 ⟨rfl,hb2⟩;have hB2:=lhi (hb'.out.trans ((hb2).mono hb'.out.size)))
        | (refine wpList_store_row rfl 41 (.tmp 7) (.tmp 25) rfl w2.heap.size (setC noneF) rfl rfl 41 _ (set_zero w2) (set_size _) (set_hold (fun _ => false) noneF |> fun h => by rw [← h,setC_none]) (set_cells _) ?_;rw [World.setRow_alloc_new];have hB3:=lhi (hB2.out.alloc hB2.out.size (.cells (setC noneF) 41));have hR3:=lhi (set_new w2 noneF)))
       go_ret3
       exact (show ItemsPost w _ _ _ by rw [hfin.out];exact ⟨rfl,hB3.out⟩)
     · obtain ⟨hse,hsp⟩:=not_empty_of hss
       have hbg : Hid (bg [93] (l.drop c) = false):=lhi (by cases hb0 : bg [93] (l.drop c) with | false => rfl | true => exact absurd ⟨hss,hb0⟩ hex)
       have hcond : Hid ((!ss.isEmpty && bg [93] (l.drop c)) = false):=lhi (by rw [hbg.out,Bool.and_false])
       have hne:=item_ne hx
       rw [hx] at hit
       replace hit:=lhi (show ∀ w1,Below wr.heap.size wr w1 → Calls Tryz.prog 159 #[.slice A 0 0] w1 fun e' w' => e' = .returned (.tuple #[.agg (setC noneF),.int .i64 0,.int .i64 (e : Int)]) ∧ Below w1.heap.size w1 w' from hit)
       have hfin:=lhi (hr.symm.trans (items_err c (anyS ss) hcond.out hx))
       replace hx:=lhi hx
       clear hr hb
       go_wp2_with (first
        | (go_at_call 146;with_reducible refine (begins_is hd.out ⟨#[93]⟩ false hbg.out).mono ?_;rintro e w1 ⟨rfl,hb1⟩)
        | (go_at_call 159;with_reducible refine (hit.out _ hb1).mono ?_;rintro e w2 ⟨rfl,hb2⟩;have hB2:=lhi (hb'.out.trans ((hb1.trans (hb2.mono hb1.size)).mono hb'.out.size)))
        | (refine wpList_store_row rfl 41 (.tmp 7) (.tmp 25) rfl w2.heap.size (setC noneF) rfl rfl 41 _ (set_zero w2) (set_size _) (set_hold (fun _ => false) noneF |> fun h => by rw [← h,setC_none]) (set_cells _) ?_;rw [World.setRow_alloc_new];have hB3:=lhi (hB2.out.alloc hB2.out.size (.cells (setC noneF) 41));have hR3:=lhi (set_new w2 noneF)))
       go_ret3
       exact (show ItemsPost w _ _ _ by rw [hfin.out];exact ⟨rfl,hB3.out⟩)
   · rw [if_neg hci] at hd hit
     by_cases hss : ss = []
     · subst hss
       have hcond:=lhi (show (!([] : List (Nat → Bool)).isEmpty && bg [93] (l.drop i)) = false from rfl)
       have hne:=item_ne hx
       rw [hx] at hit
       replace hit:=lhi (show ∀ w1,Below wr.heap.size wr w1 → Calls Tryz.prog 159 #[.slice (Option.map (fun x => x.add i) A) (n - i) (c - i)] w1 fun e' w' => e' = .returned (.tuple #[.agg (setC noneF),.int .i64 0,.int .i64 (e : Int)]) ∧ Below w1.heap.size w1 w' from hit)
       have hfin:=lhi (hr.symm.trans (items_err i (anyS ([] : List (Nat → Bool))) hcond.out hx))
       replace hx:=lhi hx
       clear hr hb
       go_wp2_with (first
        | (go_at_call 159;with_reducible refine (hit.out _ (Below.refl _ _)).mono ?_;rintro e w2 ⟨rfl,hb2⟩;have hB2:=lhi (hb'.out.trans ((hb2).mono hb'.out.size)))
        | (refine wpList_store_row rfl 41 (.tmp 7) (.tmp 25) rfl w2.heap.size (setC noneF) rfl rfl 41 _ (set_zero w2) (set_size _) (set_hold (fun _ => false) noneF |> fun h => by rw [← h,setC_none]) (set_cells _) ?_;rw [World.setRow_alloc_new];have hB3:=lhi (hB2.out.alloc hB2.out.size (.cells (setC noneF) 41));have hR3:=lhi (set_new w2 noneF)))
       go_ret3
       exact (show ItemsPost w _ _ _ by rw [hfin.out];exact ⟨rfl,hB3.out⟩)
     · obtain ⟨hse,hsp⟩:=not_empty_of hss
       have hbg : Hid (bg [93] (l.drop i) = false):=lhi (by cases hb0 : bg [93] (l.drop i) with | false => rfl | true => exact absurd ⟨hss,hb0⟩ hex)
       have hcond : Hid ((!ss.isEmpty && bg [93] (l.drop i)) = false):=lhi (by rw [hbg.out,Bool.and_false])
       have hne:=item_ne hx
       rw [hx] at hit
       replace hit:=lhi (show ∀ w1,Below wr.heap.size wr w1 → Calls Tryz.prog 159 #[.slice (Option.map (fun x => x.add i) A) (n - i) (c - i)] w1 fun e' w' => e' = .returned (.tuple #[.agg (setC noneF),.int .i64 0,.int .i64 (e : Int)]) ∧ Below w1.heap.size w1 w' from hit)
       have hfin:=lhi (hr.symm.trans (items_err i (anyS ss) hcond.out hx))
       replace hx:=lhi hx
       clear hr hb
       go_wp2_with (first
        | (go_at_call 146;with_reducible refine (begins_is hd.out ⟨#[93]⟩ false hbg.out).mono ?_;rintro e w1 ⟨rfl,hb1⟩)
        | (go_at_call 159;with_reducible refine (hit.out _ hb1).mono ?_;rintro e w2 ⟨rfl,hb2⟩;have hB2:=lhi (hb'.out.trans ((hb1.trans (hb2.mono hb1.size)).mono hb'.out.size)))
        | (refine wpList_store_row rfl 41 (.tmp 7) (.tmp 25) rfl w2.heap.size (setC noneF) rfl rfl 41 _ (set_zero w2) (set_size _) (set_hold (fun _ => false) noneF |> fun h => by rw [← h,setC_none]) (set_cells _) ?_;rw [World.setRow_alloc_new];have hB3:=lhi (hB2.out.alloc hB2.out.size (.cells (setC noneF) 41));have hR3:=lhi (set_new w2 noneF)))
       go_ret3
       exact (show ItemsPost w _ _ _ by rw [hfin.out];exact ⟨rfl,hB3.out⟩)
  | ok p =>
   obtain ⟨F,m⟩:=p
   have hm:=item_size hx
   rw [List.length_drop] at hm
   have hil2 : i < n:=by have:=hn'.out;omega
   have hmn : i + m ≤ n:=by have:=hn'.out;omega
   have hci : ¬ c = i:=by omega
   rw [if_neg hci] at hd hit
   rw [hx] at hit
   replace hit:=lhi (show ∀ w1,Below wr.heap.size wr w1 → Calls Tryz.prog 159 #[.slice (Option.map (fun x => x.add i) A) (n - i) (c - i)] w1 fun e' w' => e' = .returned (.tuple #[.agg (setC F),.int .i64 (m : Int),.int .i64 0]) ∧ Below w1.heap.size w1 w' from hit)
   have hml : i + m ≤ l.length:=by have:=hn'.out;omega
   have hm1:=hm.1
   have hsz : (setC F).size = 4:=rfl
   clear hm
   by_cases hss : ss = []
   · subst hss
     have hcond:=lhi (show (!([] : List (Nat → Bool)).isEmpty && bg [93] (l.drop i)) = false from rfl)
     have hnx:=(items_ok i (anyS ([] : List (Nat → Bool))) hcond.out hx).symm.trans hr
     rw [← anyS_snoc,show false = (([] : List (Nat → Bool)) ++ [F]).isEmpty from rfl,List.drop_drop] at hnx
     replace hnx:=lhi hnx
     replace hx:=lhi hx
     clear hr hb hex
     go_wp2_with (first
      | (go_at_call 159;with_reducible refine (hit.out _ (Below.refl _ _)).mono ?_;rintro e w2 ⟨rfl,hb2⟩;have hT2:=lhi (hb2);have hB2:=lhi (hb'.out.trans (hT2.out.mono hb'.out.size));have hown2:=lhi (own_below hown hT2.out))
      | (refine wpList_store_row rfl 41 (.tmp 7) (.tmp 25) rfl w2.heap.size (setC F) rfl rfl 41 _ (set_zero w2) (set_size _) (set_hold (fun _ => false) F |> fun h => by rw [← h,setC_none]) (set_cells _) ?_;rw [World.setRow_alloc_new];have hB3:=lhi (hB2.out.alloc hB2.out.size (.cells (setC F) 41));have hR3:=lhi (set_new w2 F))
      | (refine wpList_load_row rfl 41 (.tmp 7) rfl w2.heap.size rfl 41 _ (0,0) _ hR3.out Tryz.underlying41 rfl (set_size _) ?_)
      | (at_builtin;refine wpList_append_at rfl _ _ 169 rfl w.heap.size 41 i0 (.agg (setC noneF)) 4 32 Tryz.underlying169 hi hz0 hI1.out hI2.out rfl (by decide) (.slice As 0 cs) 0 (setsL []) rfl ((hown2.out.alloc _).alloc _) (some ⟨w2.heap.size + 1,0,none⟩) 1 1 (setC F).toList rfl rfl (src_new' w2 F) (set_ones F) (by unfold maxLen;omega) (by omega) (base_le hB2.out _ _) ?_;intro v3 w3 hown3 hg3 _;have hb3:=below_append (hB3.out.alloc hB3.out.size _) ((hown2.out.alloc _).alloc _) (base_le hB2.out _ _) hg3))
     go_roundw
     case rel => exact RelI.mk ⟨i + m,[] ++ [F],by go_num,by omega,by omega,by simp;omega,hnx.out,by rw [lla,setsL_append];exact hown3,hb3⟩
     case measure => simp [intOf];omega
   · obtain ⟨hse,hsp⟩:=not_empty_of hss
     have hbg : Hid (bg [93] (l.drop i) = false):=lhi (by cases hb0 : bg [93] (l.drop i) with | false => rfl | true => exact absurd ⟨hss,hb0⟩ hex)
     have hcond : Hid ((!ss.isEmpty && bg [93] (l.drop i)) = false):=lhi (by rw [hbg.out,Bool.and_false])
     have hnx:=(items_ok i (anyS ss) hcond.out hx).symm.trans hr
     rw [← anyS_snoc,show false = (ss ++ [F]).isEmpty by cases ss <;> rfl,List.drop_drop] at hnx
     replace hnx:=lhi hnx
     replace hx:=lhi hx
     clear hr hb hex
     go_wp2_with (first
      | (go_at_call 146;with_reducible refine (begins_is hd.out ⟨#[93]⟩ false hbg.out).mono ?_;rintro e w1 ⟨rfl,hb1⟩)
      | (go_at_call 159;with_reducible refine (hit.out _ hb1).mono ?_;rintro e w2 ⟨rfl,hb2⟩;have hT2:=lhi (hb1.trans (hb2.mono hb1.size));have hB2:=lhi (hb'.out.trans (hT2.out.mono hb'.out.size));have hown2:=lhi (own_below hown hT2.out))
      | (refine wpList_store_row rfl 41 (.tmp 7) (.tmp 25) rfl w2.heap.size (setC F) rfl rfl 41 _ (set_zero w2) (set_size _) (set_hold (fun _ => false) F |> fun h => by rw [← h,setC_none]) (set_cells _) ?_;rw [World.setRow_alloc_new];have hB3:=lhi (hB2.out.alloc hB2.out.size (.cells (setC F) 41));have hR3:=lhi (set_new w2 F))
      | (refine wpList_load_row rfl 41 (.tmp 7) rfl w2.heap.size rfl 41 _ (0,0) _ hR3.out Tryz.underlying41 rfl (set_size _) ?_)
      | (at_builtin;refine wpList_append_at rfl _ _ 169 rfl w.heap.size 41 i0 (.agg (setC noneF)) 4 32 Tryz.underlying169 hi hz0 hI1.out hI2.out rfl (by decide) (.slice As ss.length cs) ss.length (setsL ss) rfl ((hown2.out.alloc _).alloc _) (some ⟨w2.heap.size + 1,0,none⟩) 1 1 (setC F).toList rfl rfl (src_new' w2 F) (set_ones F) (by unfold maxLen;omega) (by omega) (base_le hB2.out _ _) ?_;intro v3 w3 hown3 hg3 _;have hb3:=below_append (hB3.out.alloc hB3.out.size _) ((hown2.out.alloc _).alloc _) (base_le hB2.out _ _) hg3))
     go_roundw
     case rel => exact RelI.mk ⟨i + m,ss ++ [F],by go_num,by omega,by omega,by simp;omega,hnx.out,by rw [lla,setsL_append];exact hown3,hb3⟩
     case measure => simp [intOf];omega
theorem not_at (f : Nat → Bool) (w : World) :
    Calls Tryz.prog 81 #[.agg (setC f)] w fun e w' => e = .returned (.agg (setC (negF f))) ∧ Below w.heap.size w w':=not_any f w
theorem items_bad {A : Option Addr} {n c : Nat} {l : List UInt8} {w : World} (h : Inp w A n c l) (k : Nat) (hk : k ≤ n) {e : Nat} (hr : items true (l.drop k) k noneF = .error e) :
    Calls Tryz.prog 147 #[.slice A n c,.int .i64 (k : Int)] w fun e' w' => e' = .returned (.tuple #[.slice none 0 0,.int .i64 0,.int .i64 (e : Int)]) ∧ Below w.heap.size w w':=by
 have:=items_any h k hk
 rw [hr] at this
 exact this
theorem items_good {A : Option Addr} {n c : Nat} {l : List UInt8} {w : World} (h : Inp w A n c l) (k : Nat) (hk : k ≤ n) {f : Nat → Bool} {j : Nat} (hr : items true (l.drop k) k noneF = .ok (f,j)) :
    Calls Tryz.prog 147 #[.slice A n c,.int .i64 (k : Int)] w fun e' w' => ∃ v ss,e' = .returned (.tuple #[v,.int .i64 (j : Int),.int .i64 0]) ∧ anyS ss = f ∧ w'.ownsRow w.heap.size 41 4 v ss.length (setsL ss) ∧ Below w.heap.size w w':=by
 have:=items_any h k hk
 rw [hr] at this
 exact this
theorem parse_plain {A : Option Addr} {n c : Nat} {l : List UInt8} {w : World} (h : Inp w A n c l) (k : Nat) (hk : k ≤ n) (hx : bg [94] (l.drop k) = false) :
    Calls Tryz.prog 129 #[.slice A n c,.int .i64 (k : Int)] w fun e w' => e = .returned (.tuple #[.agg (setC (told (readB l k)).1),.int .i64 ((told (readB l k)).2.1 : Int),.int .i64 ((told (readB l k)).2.2 : Int)]) ∧ Below w.heap.size w w':=by
 have hrd:=readB_plain hx
 have h':=lhi h
 have hz:=build_set
 have hW0:=lhi (show Below w.heap.size w (w.alloc (.cells #[.int .u64 0,.int .u64 0,.int .u64 0,.int .u64 0] 41)) from (Below.refl _ _).alloc (nlr _) _)
 have hS0:=lhi (set_zero' w)
 have hns : n ≤ 1000000:=h.2.2.2.1
 have hnc:=h.2.1
 have hcm:=h.2.2.1
 unfold maxLen at hcm
 have hd:=lhi (h.drop hk)
 have hbg:=lhi hx
 cases hr : items true (l.drop k) k noneF with
 | error e =>
  have hne : ((e : Int) != 0) = true:=by have:=items_wrong _ _ _ _ _ hr;simp;omega
  have hfin:=lhi (hrd.trans hr)
  have hIt:=lhi (fun w1 (h : Inp w1 A n c l) => items_bad h k hk hr)
  clear h hx hrd hr
  by_cases hck : c = k
  · obtain rfl : n = k:=by omega
    obtain rfl : c = n:=hck
    rw [if_pos rfl,Nat.sub_self] at hd
    go_enter Tryz.func129,Tryz.ntmps129
    go_wp2_with (first
     | (go_at_call 146;with_reducible refine (begins_is (hd.out.grow hW0.out) ⟨#[94]⟩ false hbg.out).mono ?_;rintro e w1 ⟨rfl,hb1⟩;have hW1:=lhi (hW0.out.trans (hb1.mono hW0.out.size));have hS1:=lhi (hS0.out.below hb1 hS0.out.lt))
     | (go_at_call 147;with_reducible refine (hIt.out _ (h'.out.grow hW1.out)).mono ?_;rintro e w2 ⟨rfl,hb2⟩;have hW2:=lhi (hW1.out.trans (hb2.mono hW1.out.size));have hS2:=lhi (hS1.out.below hb2 hS1.out.lt))
     | (refine wpList_store_row rfl 41 (.tmp 4) (.tmp 37) rfl w.heap.size (setC noneF) rfl (by rw [setC_noneF];rfl) 41 _ hS2.out (set_size _) (set_hold _ _) (set_cells _) ?_))
    exact bodyPost_ret (v:=.tuple #[.agg (setC noneF),.int .i64 0,.int .i64 (e : Int)]) (results_cell_three Tryz.results129 _ _ w.heap.size 41 (setC noneF) (0,0) _ rfl rfl rfl (hS2.out.put _) Tryz.underlying41 rfl (set_size _)) rfl ⟨by rw [hfin.out];rfl,below_put hW2.out (nlr _) _⟩
  · rw [if_neg hck] at hd
    go_enter Tryz.func129,Tryz.ntmps129
    go_wp2_with (first
     | (go_at_call 146;with_reducible refine (begins_is (hd.out.grow hW0.out) ⟨#[94]⟩ false hbg.out).mono ?_;rintro e w1 ⟨rfl,hb1⟩;have hW1:=lhi (hW0.out.trans (hb1.mono hW0.out.size));have hS1:=lhi (hS0.out.below hb1 hS0.out.lt))
     | (go_at_call 147;with_reducible refine (hIt.out _ (h'.out.grow hW1.out)).mono ?_;rintro e w2 ⟨rfl,hb2⟩;have hW2:=lhi (hW1.out.trans (hb2.mono hW1.out.size));have hS2:=lhi (hS1.out.below hb2 hS1.out.lt))
     | (refine wpList_store_row rfl 41 (.tmp 4) (.tmp 37) rfl w.heap.size (setC noneF) rfl (by rw [setC_noneF];rfl) 41 _ hS2.out (set_size _) (set_hold _ _) (set_cells _) ?_))
    exact bodyPost_ret (v:=.tuple #[.agg (setC noneF),.int .i64 0,.int .i64 (e : Int)]) (results_cell_three Tryz.results129 _ _ w.heap.size 41 (setC noneF) (0,0) _ rfl rfl rfl (hS2.out.put _) Tryz.underlying41 rfl (set_size _)) rfl ⟨by rw [hfin.out];rfl,below_put hW2.out (nlr _) _⟩
 | ok p =>
  obtain ⟨F,j⟩:=p
  have hj:=items_size _ _ _ _ _ _ hr
  have hck : ¬ c = k:=by rw [List.length_drop] at hj;have:=h.len;omega
  rw [if_neg hck] at hd
  have hfin:=lhi (hrd.trans hr)
  have hIt:=lhi (fun w1 (h : Inp w1 A n c l) => items_good h k hk hr)
  clear h hx hrd hr hj
  go_enter Tryz.func129,Tryz.ntmps129
  go_wp2_with (first
   | (go_at_call 146;with_reducible refine (begins_is (hd.out.grow hW0.out) ⟨#[94]⟩ false hbg.out).mono ?_;rintro e w1 ⟨rfl,hb1⟩;have hW1:=lhi (hW0.out.trans (hb1.mono hW0.out.size));have hS1:=lhi (hS0.out.below hb1 hS0.out.lt))
   | (go_at_call 147;with_reducible refine (hIt.out _ (h'.out.grow hW1.out)).mono ?_;rintro e w2 ⟨v,ss,rfl,hu,hown,hb2⟩;replace hu:=lhi hu;obtain ⟨As,cs,rfl,-,hcs,hcsm,hsets⟩:=own_sets hown;replace hsets:=lhi hsets;replace hown:=lhi hown;have hW2:=lhi (hW1.out.trans (hb2.mono hW1.out.size));have hS2:=lhi (hS1.out.below hb2 hS1.out.lt))
   | (go_at_call 148;refine (union_any As ss.length cs ss w2.heap.size w2 rfl hcs hcsm (nlr _) hsets.out).mono ?_;rintro e w3 ⟨rfl,hb3⟩;rw [hu.out];have hW3:=lhi (hW2.out.trans (hb3.mono hW2.out.size));have hS3:=lhi (hS2.out.below hb3 hS2.out.lt))
   | (refine wpList_store_row rfl 41 (.tmp 11) (.tmp 40) rfl w3.heap.size (setC F) rfl rfl 41 _ (set_zero w3) (set_size _) (set_hold (fun _ => false) F |> fun h => by rw [← h,setC_none]) (set_cells _) ?_;rw [World.setRow_alloc_new];have hW4:=lhi (hW3.out.alloc hW3.out.size (.cells (setC F) 41));have hS4:=lhi (hS3.out.alloc (.cells (setC F) 41));have hR4:=lhi (set_new w3 F))
   | (refine wpList_load_row rfl 41 (.tmp 11) rfl w3.heap.size rfl 41 _ (0,0) _ hR4.out Tryz.underlying41 rfl (set_size _) ?_)
   | (refine wpList_store_row rfl 41 (.tmp 4) (.tmp 44) rfl w.heap.size (setC F) rfl rfl 41 _ hS4.out (set_size _) (set_hold _ _) (set_cells _) ?_))
  exact bodyPost_ret (v:=.tuple #[.agg (setC F),.int .i64 (j : Int),.int .i64 0]) (results_cell_three Tryz.results129 _ _ w.heap.size 41 (setC F) (0,0) _ rfl rfl rfl (hS4.out.put _) Tryz.underlying41 rfl (set_size _)) rfl ⟨by rw [hfin.out];rfl,below_put hW4.out (nlr _) _⟩
theorem parse_not {A : Option Addr} {n c : Nat} {l : List UInt8} {w : World} (h : Inp w A n c l) (k : Nat) (hk : k ≤ n) (hx : bg [94] (l.drop k) = true) :
    Calls Tryz.prog 129 #[.slice A n c,.int .i64 (k : Int)] w fun e w' => e = .returned (.tuple #[.agg (setC (told (readB l k)).1),.int .i64 ((told (readB l k)).2.1 : Int),.int .i64 ((told (readB l k)).2.2 : Int)]) ∧ Below w.heap.size w w':=by
 have hrd:=readB_not hx
 have h':=lhi h
 have hz:=build_set
 have hW0:=lhi (show Below w.heap.size w (w.alloc (.cells #[.int .u64 0,.int .u64 0,.int .u64 0,.int .u64 0] 41)) from (Below.refl _ _).alloc (nlr _) _)
 have hS0:=lhi (set_zero' w)
 have hns : n ≤ 1000000:=h.2.2.2.1
 have hnc:=h.2.1
 have hcm:=h.2.2.1
 unfold maxLen at hcm
 have hk1 : k + 1 ≤ n:=by
  have h1:=bg_len hx
  rw [List.length_drop,lls] at h1
  have:=h.len
  omega
 have hd:=lhi (h.drop hk)
 have hck : ¬ c = k:=by omega
 rw [if_neg hck] at hd
 have hbg:=lhi hx
 cases hr : items true (l.drop (k + 1)) (k + 1) noneF with
 | error e =>
  have hne : ((e : Int) != 0) = true:=by have:=items_wrong _ _ _ _ _ hr;simp;omega
  rw [hr] at hrd
  have hfin:=lhi hrd
  have hIt:=lhi (fun w1 (h : Inp w1 A n c l) => items_bad h (k + 1) hk1 hr)
  rw [show (((k + 1 : Nat)) : Int) = (k : Int) + 1 by omega] at hIt
  clear h hx hrd hr
  go_enter Tryz.func129,Tryz.ntmps129
  go_wp2_with (first
   | (go_at_call 146;with_reducible refine (begins_is (hd.out.grow hW0.out) ⟨#[94]⟩ true hbg.out).mono ?_;rintro e w1 ⟨rfl,hb1⟩;have hW1:=lhi (hW0.out.trans (hb1.mono hW0.out.size));have hS1:=lhi (hS0.out.below hb1 hS0.out.lt))
   | (go_at_call 147;with_reducible refine (hIt.out _ (h'.out.grow hW1.out)).mono ?_;rintro e w2 ⟨rfl,hb2⟩;have hW2:=lhi (hW1.out.trans (hb2.mono hW1.out.size));have hS2:=lhi (hS1.out.below hb2 hS1.out.lt))
   | (refine wpList_store_row rfl 41 (.tmp 4) (.tmp 37) rfl w.heap.size (setC noneF) rfl (by rw [setC_noneF];rfl) 41 _ hS2.out (set_size _) (set_hold _ _) (set_cells _) ?_))
  exact bodyPost_ret (v:=.tuple #[.agg (setC noneF),.int .i64 0,.int .i64 (e : Int)]) (results_cell_three Tryz.results129 _ _ w.heap.size 41 (setC noneF) (0,0) _ rfl rfl rfl (hS2.out.put _) Tryz.underlying41 rfl (set_size _)) rfl ⟨by rw [hfin.out];rfl,below_put hW2.out (nlr _) _⟩
 | ok p =>
  obtain ⟨F,j⟩:=p
  rw [hr] at hrd
  have hfin:=lhi hrd
  have hIt:=lhi (fun w1 (h : Inp w1 A n c l) => items_good h (k + 1) hk1 hr)
  rw [show (((k + 1 : Nat)) : Int) = (k : Int) + 1 by omega] at hIt
  clear h hx hrd hr
  go_enter Tryz.func129,Tryz.ntmps129
  go_wp2_with (first
   | (go_at_call 146;with_reducible refine (begins_is (hd.out.grow hW0.out) ⟨#[94]⟩ true hbg.out).mono ?_;rintro e w1 ⟨rfl,hb1⟩;have hW1:=lhi (hW0.out.trans (hb1.mono hW0.out.size));have hS1:=lhi (hS0.out.below hb1 hS0.out.lt))
   | (go_at_call 147;with_reducible refine (hIt.out _ (h'.out.grow hW1.out)).mono ?_;rintro e w2 ⟨v,ss,rfl,hu,hown,hb2⟩;replace hu:=lhi hu;obtain ⟨As,cs,rfl,-,hcs,hcsm,hsets⟩:=own_sets hown;replace hsets:=lhi hsets;replace hown:=lhi hown;have hW2:=lhi (hW1.out.trans (hb2.mono hW1.out.size));have hS2:=lhi (hS1.out.below hb2 hS1.out.lt))
   | (go_at_call 148;refine (union_any As ss.length cs ss w2.heap.size w2 rfl hcs hcsm (nlr _) hsets.out).mono ?_;rintro e w3 ⟨rfl,hb3⟩;rw [hu.out];have hW3:=lhi (hW2.out.trans (hb3.mono hW2.out.size));have hS3:=lhi (hS2.out.below hb3 hS2.out.lt))
   | (refine wpList_store_row rfl 41 (.tmp 11) (.tmp 40) rfl w3.heap.size (setC F) rfl rfl 41 _ (set_zero w3) (set_size _) (set_hold (fun _ => false) F |> fun h => by rw [← h,setC_none]) (set_cells _) ?_;rw [World.setRow_alloc_new];have hW4:=lhi (hW3.out.alloc hW3.out.size (.cells (setC F) 41));have hS4:=lhi (hS3.out.alloc (.cells (setC F) 41));have hR4:=lhi (set_new w3 F))
   | (refine wpList_load_row rfl 41 (.tmp 11) rfl w3.heap.size rfl 41 _ (0,0) _ hR4.out Tryz.underlying41 rfl (set_size _) ?_)
   | (go_at_call 81;refine (not_at F _).mono ?_;rintro e w5 ⟨rfl,hb5⟩;have hW5:=lhi (hW4.out.trans (hb5.mono hW4.out.size));have hS5:=lhi (hS4.out.below hb5 hS4.out.lt);have hR5:=lhi (hR4.out.below hb5 hR4.out.lt))
   | (refine wpList_store_row rfl 41 (.tmp 11) (.tmp 43) rfl w3.heap.size (setC (negF F)) rfl rfl 41 _ hR5.out (set_size _) (set_hold _ _) (set_cells _) ?_;have hR6:=lhi (hR5.out.put (negF F));have hS6:=lhi (hS5.out.put_other (Nat.ne_of_lt hS3.out.lt) (setC (negF F)));have hW6:=lhi (below_put hW5.out (g:=w3.heap.size) (Nat.le_of_lt hS3.out.lt) (setC (negF F))))
   | (refine wpList_load_row rfl 41 (.tmp 11) rfl w3.heap.size rfl 41 _ (0,0) _ hR6.out Tryz.underlying41 rfl (set_size _) ?_)
   | (refine wpList_store_row rfl 41 (.tmp 4) (.tmp 44) rfl w.heap.size (setC (negF F)) rfl rfl 41 _ hS6.out (set_size _) (set_hold _ _) (set_cells _) ?_))
  exact bodyPost_ret (v:=.tuple #[.agg (setC (negF F)),.int .i64 (j : Int),.int .i64 0]) (results_cell_three Tryz.results129 _ _ w.heap.size 41 (setC (negF F)) (0,0) _ rfl rfl rfl (hS6.out.put _) Tryz.underlying41 rfl (set_size _)) rfl ⟨by rw [hfin.out];rfl,below_put hW6.out (nlr _) _⟩
theorem parse_any {A : Option Addr} {n c : Nat} {l : List UInt8} {w : World} (h : Inp w A n c l) (k : Nat) (hk : k ≤ n) :
    Calls Tryz.prog 129 #[.slice A n c,.int .i64 (k : Int)] w fun e w' => e = .returned (.tuple #[.agg (setC (told (readB l k)).1),.int .i64 ((told (readB l k)).2.1 : Int),.int .i64 ((told (readB l k)).2.2 : Int)]) ∧ Below w.heap.size w w':=by
 cases hx : bg [94] (l.drop k) with
 | true => exact parse_not h k hk hx
 | false => exact parse_plain h k hk hx
end Go.Proofs.YtonjnagcdnmcpaaGreatDoor
