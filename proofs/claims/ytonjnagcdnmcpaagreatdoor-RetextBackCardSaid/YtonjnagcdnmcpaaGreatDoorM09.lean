/- Contracts and plain facts: M09. -/
import Derived.Test.YtonjnagcdnmcpaaGreatDoorM08
import Derived.Lib.ItoaLen
set_option linter.unusedVariables false
set_option linter.unusedSimpArgs false
set_option maxRecDepth 100000
set_option maxHeartbeats 32000000
namespace Go.Proofs.YtonjnagcdnmcpaaGreatDoor
open Go.RowKit
theorem itoa_digit (n : Nat) (h : n < 10) : Lib.itoa n = [UInt8.ofNat (48 + n)]:=by
 unfold Lib.itoa;rw [if_neg (by omega),Int.toNat_natCast,Lib.decDigits,dif_pos h]
theorem itoa_more (n : Nat) (h : 10 ≤ n) : Lib.itoa n = Lib.itoa ((n / 10 : Nat) : Int) ++ [UInt8.ofNat (48 + n % 10)]:=by
 unfold Lib.itoa;rw [if_neg (by omega),if_neg (by omega),Int.toNat_natCast,Int.toNat_natCast,Lib.decDigits,dif_neg (by omega)]
theorem digit_byte (k : Nat) (h : k < 10) : cDigit ((UInt8.ofNat (48 + k)).toNat : Int) = true ∧ ((UInt8.ofNat (48 + k)).toNat : Int) = 48 + k:=by
 have e : (UInt8.ofNat (48 + k)).toNat = 48 + k:=by rw [UInt8.toNat_ofNat'];exact Nat.mod_eq_of_lt (by omega)
 rw [e]
 exact ⟨isW_in (by omega) (by omega),by omega⟩
theorem numF_app : ∀ (a b : List UInt8) (n : Int),numF (a ++ b) n = numF b (numF a n)
 | [],_,_ => rfl
 | x :: r,b,n => by rw [List.cons_append,numF,numF,numF_app r b]
theorem itoa_facts (k : Nat) : ∀ n : Nat,n ≤ k → (∀ c ∈ Lib.itoa n,cDigit c.toNat = true) ∧ numF (Lib.itoa n) 0 = n ∧ Lib.itoa n ≠ []:=by
 have small : ∀ n : Nat,n < 10 → (∀ c ∈ Lib.itoa n,cDigit c.toNat = true) ∧ numF (Lib.itoa n) 0 = n ∧ Lib.itoa n ≠ []:=by
  intro n h
  have hd:=digit_byte n h
  rw [itoa_digit n h]
  refine ⟨fun c hc => ?_,?_,by simp⟩
  · obtain rfl:=List.mem_singleton.1 hc
    exact hd.1
  · rw [numF,numF,hd.2];omega
 induction k with
 | zero => exact fun n h => small n (by omega)
 | succ k ih =>
  intro n hk
  by_cases h : n < 10
  · exact small n h
  · obtain ⟨i1,i2,i3⟩:=ih (n / 10) (by omega)
    have hd:=digit_byte (n % 10) (by omega)
    rw [itoa_more n (by omega)]
    refine ⟨fun c hc => ?_,?_,by simp⟩
    · rcases List.mem_append.1 hc with h1 | h1
      · exact i1 c h1
      · obtain rfl:=List.mem_singleton.1 h1
        exact hd.1
    · rw [numF_app,i2,numF,numF,hd.2];omega
theorem dEnd_mid (f d r : List UInt8) (hd : ∀ c ∈ d,cDigit c.toNat = true) (hr : ∀ c ∈ r.head?,cDigit c.toNat = false) : dEnd (f ++ (d ++ r)) f.length = f.length + d.length:=by
 unfold dEnd
 rw [List.drop_left]
 have : (d ++ r).takeWhile (fun c : UInt8 => cDigit c.toNat) = d:=by
  induction d with
  | nil =>
   cases r with
   | nil => rfl
   | cons x r => rw [List.nil_append,List.takeWhile_cons_of_neg (by rw [hr x (by simp)];decide)]
  | cons x d ih => rw [List.cons_append,List.takeWhile_cons_of_pos (by rw [hd x (by simp)]),ih (fun c hc => hd c (List.mem_cons_of_mem _ hc))]
 rw [this]
theorem numS_mid (f r : List UInt8) (n : Nat) (most : Int) (hr : ∀ c ∈ r.head?,cDigit c.toNat = false) :
    numS (f ++ (Lib.itoa n ++ r)) f.length most = if (n : Int) ≤ most then ((n : Int),((f.length + (Lib.itoa n).length : Nat) : Int),0) else (0,0,3):=by
 obtain ⟨h1,h2,h3⟩:=itoa_facts n n (nlr _)
 have he:=dEnd_mid f (Lib.itoa n) r h1 hr
 have hpos : 0 < (Lib.itoa n).length:=List.length_pos_iff.2 h3
 unfold numS
 rw [if_neg (by rw [lla];omega),Int.toNat_natCast,he,if_neg (by omega)]
 have hc : ((f ++ (Lib.itoa n ++ r)).take (f.length + (Lib.itoa n).length)).drop f.length = Lib.itoa n:=by
  rw [List.take_length_add_append,List.drop_left,List.take_left]
 rw [hc,valS_eq most _ 0 (Int.le_refl _) h1 (.inr h3),h2]
 by_cases hm : (n : Int) ≤ most
 · rw [if_pos hm,if_pos hm]
 · rw [if_neg hm,if_neg hm]
def Tab (w : World) : Prop := Lib.TabIs Tryz.prog w "internal/strconv.uint64pow10" .u64 Lib.pow10Tab
theorem dtext_any (n : Int) (w : World) (h0 : -9223372036854775808 ≤ n) (h1 : n ≤ 9223372036854775807) (ht : Tab w) :
    Calls Tryz.prog 62 #[.int .i64 n] w fun e w' => e = .returned (.string ⟨(Lib.itoa n).toArray⟩) ∧ Below w.heap.size w w':=by
 have H:=lhi (Tryz.strconv_Itoa n h0 h1 w ht)
 clear h0 h1 ht
 go_enter Tryz.func62,Tryz.ntmps62
 go_wp2_with (go_at_call 87;refine (H.out).mono ?_;rintro e w' ⟨rfl,k,os,rfl⟩)
 go_ret
 exact ⟨rfl,below_grow _ _ _ _ (nlr _)⟩
theorem gPow : Tryz.prog.globalNamed "internal/strconv.uint64pow10" = some 1 := by kernel_rfl
theorem Tab.below {w w' : World} {B : Nat} (h : Tab w) (hb : Below B w w') (hB : 1 < B) : Tab w':=var?_below hb gPow hB h
theorem string_info : (Tryz.prog.info? 9).map (fun i => (i.zero,i.size,i.bytes)) = some (some (.string ByteArray.empty),1,16):=by kernel_rfl
def tv (z : Int) : Value:=.string ⟨(Lib.itoa z).toArray⟩
theorem take_tv (zs : List Int) (k : Nat) (h : k < zs.length) : (zs.take (k + 1)).map tv = (zs.take k).map tv ++ [tv (zs[k]'h)]:=by
 rw [List.take_succ_eq_append_getElem h,List.map_append];rfl
theorem join_len : ∀ (xs : List (List UInt8)) (sep : List UInt8),(∀ x ∈ xs,x.length ≤ 21) → sep.length ≤ 1000 → (Lib.join xs sep).length ≤ xs.length * 1021
 | [],_,_,_ => by simp [Lib.join_nil]
 | [x],sep,h,_ => by have:=h x (by simp);rw [Lib.join_one];simp;omega
 | x :: y :: r,sep,h,hs => by
  have h1:=h x (by simp)
  have h2:=join_len (y :: r) sep (fun z hz => h z (List.mem_cons_of_mem _ hz)) hs
  have : Lib.join (x :: y :: r) sep = x ++ (sep ++ Lib.join (y :: r) sep):=by simp [Lib.join,List.intercalate]
  rw [this,lla,lla]
  simp only [List.length_cons] at h2 ⊢
  omega
theorem one_tv (z : Int) : ∀ u ∈ [tv z],u.oneCell' = true:=by
 intro u h
 simp at h
 subst h
 rfl
theorem djoin_any (A : Option Addr) (cap n : Nat) (zs : List Int) (sep : ByteArray) (B : Nat) (w : World) (hn : n = zs.length) (hr : Vals w B A (zs.map (Value.int .i64))) (hB : B ≤ w.heap.size)
    (hz : ∀ z ∈ zs,-9223372036854775808 ≤ z ∧ z ≤ 9223372036854775807) (hl : n ≤ 1000000) (hs : sep.size ≤ 1000) (ht : Tab w) (hg : 1 < w.heap.size) :
    Calls Tryz.prog 86 #[.string sep,.slice A n cap] w fun e w' => e = .returned (.string ⟨(Lib.join (zs.map Lib.itoa) sep.data.toList).toArray⟩) ∧ Below w.heap.size w w':=by
 obtain ⟨i0,hi,hz0,hz1,hz2⟩:=info_parts string_info
 have hN:=lhi hn
 have hZ:=lhi hz
 have hR:=lhi hr
 have hT:=lhi ht
 have hI2:=lhi hz2
 clear hn hz hr ht
 go_enter Tryz.func86,Tryz.ntmps86
 go_wp2_with (at_make;refine wpList_make_own _ rfl _ _ 75 rfl w.heap.size 9 i0 _ 1 Tryz.underlying75 hi hz0 hz1 _ _ _ n rfl rfl rfl (by rw [hI2.out];omega) (by unfold maxLen;omega) (nlr _) ?_;intro w1 hown1 hg1)
 have hb1 : Below w.heap.size w w1:=(Below.refl _ _).grown hg1 (nlr _) (by simp)
 go_loopw [5,13] (fun v i wr => ∃ k : Nat,k ≤ n ∧ i = .int .i64 k ∧ v = .slice (some ⟨w.heap.size,0,none⟩) k n ∧ wr.ownsRow w.heap.size 9 1 (.slice (some ⟨w.heap.size,0,none⟩) k n) k ((zs.take k).map tv) ∧ Below w.heap.size w wr) (fun _ i _ => n - (intOf i).toNat)
 case atStart => exact ⟨0,by omega,rfl,rfl,hown1,hb1⟩
 case round =>
  obtain ⟨k,hk,rfl,rfl,hown,hbr⟩:=hrel
  clear hown1 hb1
  by_cases hlt : k < n
  · have hlk : k < zs.length:=by rw [← hN.out];exact hlt
    obtain ⟨ad,hA,hb,hc⟩:=(hR.out.below (hbr.mono hB)).at_ (k:=k) (by rw [List.length_map];exact hlk)
    subst hA
    rw [List.getElem_map] at hc
    have hzk:=hZ.out _ (List.getElem_mem hlk)
    have hst:=lhi (take_tv zs k hlk)
    generalize zs[k]'hlk = z at *
    have HX:=lhi (dtext_any z wr hzk.1 hzk.2 (hT.out.below hbr hg))
    go_wp2_with (first
     | (go_at_call 62;refine (HX.out).mono ?_;rintro e w2 ⟨rfl,hb2⟩)
     | (at_builtin;refine wpList_append_fits _ rfl _ _ 75 rfl w.heap.size 9 i0 1 Tryz.underlying75 hi hz1 w.heap.size k n ((zs.take k).map tv) rfl ((own_below hown hb2).alloc _) ⟨w2.heap.size,0,none⟩ 1 1 [tv z] rfl rfl (new_one _ _ _) (one_tv z) (by omega) ?_;intro w3 hown3 hg3))
    go_roundw
    case rel => exact ⟨k + 1,by omega,by go_num,rfl,by rw [hst.out];exact hown3,((hbr.trans (hb2.mono hbr.size)).alloc (Nat.le_trans hbr.size hb2.size) _).grown hg3 (by simp;have:=hbr.size;have:=hb2.size;omega) (by intro k hk;cases hk;exact nlr _)⟩
    case measure => simp [intOf];omega
  · obtain rfl : k = n:=by omega
    have hlen:=join_len (zs.map Lib.itoa) sep.data.toList (by
     intro x hx
     obtain ⟨z,hz,rfl⟩:=List.mem_map.1 hx
     exact Lib.itoa_length_le z (hZ.out z hz).1 (hZ.out z hz).2) (by rw [len_toList];omega)
    rw [List.length_map,← hN.out] at hlen
    have hmap : (zs.map fun z => (⟨(Lib.itoa z).toArray⟩ : ByteArray)).map (·.data.toList) = zs.map Lib.itoa:=by rw [List.map_map];rfl
    have hl2 : (zs.map fun z => (⟨(Lib.itoa z).toArray⟩ : ByteArray)).length = k:=by rw [List.length_map];exact hN.out.symm
    have HJ:=Tryz.strings_Join w.heap.size 0 k (zs.map fun z => (⟨(Lib.itoa z).toArray⟩ : ByteArray)) sep wr (by
     intro j x hx
     rw [List.getElem?_map] at hx
     obtain ⟨z,hz,rfl⟩:=Option.map_eq_some_iff.1 hx
     have hjk:=(List.getElem?_eq_some_iff.1 hz).1
     rw [Nat.zero_add,hown.cellAt j (by rw [hN.out];omega),List.getElem?_map,List.getElem?_take_of_lt (by rw [hN.out];exact hjk),hz];rfl)
     (hown.lt w.heap.size rfl).2 (by rw [hl2];omega) (by rw [hl2];exact nlr _) (by rw [hmap];omega)
    rw [hmap,hl2] at HJ
    have HJ:=lhi HJ
    clear hlen hmap hl2
    go_wp2_with (go_at_call 85;refine (HJ.out).mono ?_;rintro e w2 ⟨rfl,hb2⟩)
    go_ret
    exact ⟨rfl,hbr.trans (hb2.mono hbr.size)⟩
structure Nod where
 kind : Int
 a : Int
 b : Int
 lo : Int
 hi : Int
 grp : Int
 set : Nat → Bool
def zset : Nat → Bool:=fun _ => false
def nodL (n : Nod) : List Value:=[.int .i64 n.kind,.int .i64 n.a,.int .i64 n.b,.int .i64 n.lo,.int .i64 n.hi,.int .i64 n.grp,.int .u64 (wd n.set 0 : Nat),.int .u64 (wd n.set 1 : Nat),.int .u64 (wd n.set 2 : Nat),.int .u64 (wd n.set 3 : Nat)]
def nodC (n : Nod) : Array Value:=(nodL n).toArray
def nodV (n : Nod) : Value:=.agg (nodC n)
theorem nodL_len (n : Nod) : (nodL n).length = 10:=rfl
theorem nod_one (n : Nod) : ∀ v ∈ nodL n,v.oneCell' = true:=by simp [nodL,Value.oneCell']
theorem nod_cells (n : Nod) : (nodC n).all (·.oneCell') = true:=all_oneCell_toArray (nod_one n)
noncomputable def sameN (n m : Nod) : Bool:=@decide (nodL n = nodL m) (Classical.propDecidable _)
theorem sameN_iff (n m : Nod) : sameN n m = true ↔ nodL n = nodL m:=by unfold sameN;exact @decide_eq_true_iff _ (Classical.propDecidable _)
theorem sameN_self (n : Nod) : sameN n n = true:=(sameN_iff n n).2 rfl
theorem nodL_iff (n m : Nod) : nodL n = nodL m ↔ n.kind = m.kind ∧ n.a = m.a ∧ n.b = m.b ∧ n.lo = m.lo ∧ n.hi = m.hi ∧ n.grp = m.grp ∧ sameS n.set m.set = true:=by
 have hb : ∀ k,(((wd n.set k : Nat) : Int) = ((wd m.set k : Nat) : Int)) ↔ wd n.set k = wd m.set k:=fun k => by omega
 simp only [nodL,List.cons.injEq,Value.int.injEq,true_and,and_true,hb]
 unfold sameS
 rw [decide_eq_true_eq]
theorem sameN_and (n m : Nod) : sameN n m = (decide (n.kind = m.kind) && (decide (n.a = m.a) && (decide (n.b = m.b) && (decide (n.lo = m.lo) && (decide (n.hi = m.hi) && (decide (n.grp = m.grp) && sameS n.set m.set)))))):=by
 rw [Bool.eq_iff_iff,sameN_iff,nodL_iff]
 simp only [Bool.and_eq_true,decide_eq_true_eq]
theorem size_nod : (Tryz.prog.info? 43).map (·.size) = some 10:=by kernel_rfl
theorem nod_size (n : Nod) : (Tryz.prog.info? 43).map (·.size) = some (nodC n).size:=size_nod
theorem guard_nod : Tryz.prog.eqGuardType Tryz.prog.depth 43 = false:=by kernel_rfl
theorem part_int (w : World) (n : Nod) (k : Nat) (x : Int) (h : (nodC n)[k]? = some (.int .i64 x)) : (part 3 (nodC n) k).run Tryz.prog w = .ok (.int .i64 x) w:=by
 unfold part
 have e : (isAgg 3).run Tryz.prog w = .ok false w:=by
  unfold isAgg
  rw [Sem.run_bind,run_underlying Tryz.underlying3]
  rfl
 rw [Sem.run_bind,e]
 simp [h]
theorem part_set (w : World) (n : Nod) : (part 41 (nodC n) 6).run Tryz.prog w = .ok (setV n.set) w:=by
 unfold part
 have e : (isAgg 41).run Tryz.prog w = .ok true w:=by
  unfold isAgg
  rw [Sem.run_bind,run_underlying Tryz.underlying41]
  rfl
 have hs : (sizeOf 41).run Tryz.prog w = .ok 4 w:=by
  obtain ⟨i,hi,hs⟩:=Option.map_eq_some_iff.1 (set_size n.set)
  simp [sizeOf,typeInfo,hi,hs,setC]
 rw [Sem.run_bind,e]
 simp only [Result.andThen_ok,if_true,Sem.run_bind,hs]
 simp [nodC,nodL,setV,setC]
def fldK (f : Field) : Bool × TypeId × Nat := (f.name != "_", f.type, f.offset)
theorem eqFields_cons (P : Program) (d : Nat) (xs ys : Array Value) (f : Field) (fs : List Field) (t : TypeId) (o : Nat) (h : fldK f = (true,t,o)) (a b : Value) (r : Bool) (w : World) (ha : (part t xs o).run P w = .ok a w) (hb : (part t ys o).run P w = .ok b w)
    (hr : (Op.equalIn d t a b).run P w = .ok r w) : (Op.eqFields d xs ys (f :: fs)).run P w = if r then (Op.eqFields d xs ys fs).run P w else .ok false w:=by
 simp only [fldK,Prod.mk.injEq,bne_iff_ne] at h
 obtain ⟨h1,h2,h3⟩:=h
 subst h2
 subst h3
 simp only [Op.eqFields,if_pos h1,Sem.run_bind,ha,hb,hr,Result.andThen_ok]
 cases r <;> simp
theorem flds_nod : (Tryz.prog.fieldsOf 43).toList.map fldK = [(true,3,0),(true,3,1),(true,3,2),(true,3,3),(true,3,4),(true,3,5),(true,41,6)]:=by kernel_rfl
theorem under_nod : Tryz.prog.underlying 43 = some (.struct (Tryz.prog.fieldsOf 43)):=by kernel_rfl
theorem stood_nod : Tryz.prog.stoodInHeld 43 = false:=by kernel_rfl
theorem int_beq (a b : Int) : (a == b) = decide (a = b):=by rw [Bool.eq_iff_iff,beq_iff_eq,decide_eq_true_eq]
theorem run_equalIn_nod (w : World) (n m : Nod) : (Op.equalIn 10000 43 (nodV n) (nodV m)).run Tryz.prog w = .ok (sameN n m) w:=by
 unfold nodV
 rw [run_equalIn_struct w 9999 _ _ _ under_nod stood_nod,sameN_and]
 have hf:=flds_nod
 generalize (Tryz.prog.fieldsOf 43).toList = L at hf
 match L,(show L.length = 7 by have:=congrArg List.length hf;simpa using this),hf with
 | [f0,f1,f2,f3,f4,f5,f6],_,hf =>
  simp only [List.map_cons,List.map_nil,List.cons.injEq,and_true] at hf
  obtain ⟨h0,h1,h2,h3,h4,h5,h6⟩:=hf
  have hi : ∀ a b : Int,(Op.equalIn 9999 3 (.int .i64 a) (.int .i64 b)).run Tryz.prog w = .ok (decide (a = b)) w:=fun a b => by
   rw [← int_beq];exact run_equalIn_int w 9998 _ .i64 .i64 a b Tryz.underlying3
  rw [eqFields_cons Tryz.prog 9999 _ _ f0 _ _ _ h0 _ _ _ w (part_int w n 0 n.kind rfl) (part_int w m 0 m.kind rfl) (hi _ _)]
  rw [eqFields_cons Tryz.prog 9999 _ _ f1 _ _ _ h1 _ _ _ w (part_int w n 1 n.a rfl) (part_int w m 1 m.a rfl) (hi _ _)]
  rw [eqFields_cons Tryz.prog 9999 _ _ f2 _ _ _ h2 _ _ _ w (part_int w n 2 n.b rfl) (part_int w m 2 m.b rfl) (hi _ _)]
  rw [eqFields_cons Tryz.prog 9999 _ _ f3 _ _ _ h3 _ _ _ w (part_int w n 3 n.lo rfl) (part_int w m 3 m.lo rfl) (hi _ _)]
  rw [eqFields_cons Tryz.prog 9999 _ _ f4 _ _ _ h4 _ _ _ w (part_int w n 4 n.hi rfl) (part_int w m 4 m.hi rfl) (hi _ _)]
  rw [eqFields_cons Tryz.prog 9999 _ _ f5 _ _ _ h5 _ _ _ w (part_int w n 5 n.grp rfl) (part_int w m 5 m.grp rfl) (hi _ _)]
  rw [eqFields_cons Tryz.prog 9999 _ _ f6 _ _ _ h6 _ _ _ w (part_set w n) (part_set w m) (run_equalIn_set' 9998 (fun a b w => run_equalIn_int w 9997 _ .u64 .u64 a b Tryz.underlying39) w n.set m.set)]
  simp only [Op.eqFields,Sem.run_pure]
  cases decide (n.kind = m.kind) <;> cases decide (n.a = m.a) <;> cases decide (n.b = m.b) <;> cases decide (n.lo = m.lo) <;> cases decide (n.hi = m.hi) <;> cases decide (n.grp = m.grp) <;> cases sameS n.set m.set <;> rfl
theorem nod_eql (w : World) (n m : Nod) : (binOp .eql 43 (nodV n) (nodV m)).run Tryz.prog w = .ok (.bool (sameN n m)) w :=
 (run_eql_struct w _ _ _).trans (by have:=run_equalIn_nod w n m;unfold nodV at this;rw [this];rfl)
theorem nod_neq (w : World) (n m : Nod) : (binOp .neq 43 (nodV n) (nodV m)).run Tryz.prog w = .ok (.bool (!sameN n m)) w :=
 (run_neq_struct w _ _ _).trans (by have:=run_equalIn_nod w n m;unfold nodV at this;rw [this];rfl)
theorem nod_guard (w : World) (op : BinOp) (x y : Operand) (n m : Nod) : (eqGuard op 43 x y (nodV n) (nodV m)).run Tryz.prog w = .ok () w:=run_eqGuard_agg w op _ x y _ _ guard_nod
def Nods (w : World) (B : Nat) (A : Option Addr) (ns : List Nod) : Prop :=
 ∀ (k : Nat) (h : k < ns.length),∃ ad,A = some ad ∧ ad.block < B ∧ ∀ j u,(nodL (ns[k]'h))[j]? = some u → w.cell? (ad.add (k * 10 + j)) = some u
section
variable {w w' : World} {B B' : Nat} {A : Option Addr} {ns : List Nod}
theorem spot_none {a : Addr} {v : Value} (h : w.cell? a = some v) : a.spot = none:=by
 unfold World.cell? at h
 split at h
 · split at h
   · cases h
   · simpa using ‹¬ a.spot.isSome = true›
 · cases h
theorem Nods.at_ (h : Nods w B A ns) {k : Nat} (hk : k < ns.length) : ∃ ad b o,A = some ad ∧ ad.add (k * 10) = ⟨b,o,none⟩ ∧ b < B ∧ w.rangeAt b o (nodL (ns[k]'hk)):=by
 obtain ⟨ad,h1,h2,h3⟩:=h k hk
 have h0:=spot_none (h3 0 _ rfl)
 rw [Nat.add_zero] at h0
 have e : ad.add (k * 10) = ⟨(ad.add (k * 10)).block,(ad.add (k * 10)).off,none⟩:=by rw [← h0]
 refine ⟨ad,_,_,h1,e,by rw [block_add];exact h2,fun j u hj => ?_⟩
 rw [← Addr.add_mid,← e,add_two]
 exact h3 j u hj
theorem Nods.keep (h : Nods w B A ns) (hk : ∀ p : Addr,p.block < B → w'.cell? p = w.cell? p) : Nods w' B A ns:=by
 intro k hlt
 obtain ⟨ad,hA,hb,hc⟩:=h k hlt
 exact ⟨ad,hA,hb,fun j u hj => (hk _ (by rw [block_add];exact hb)).trans (hc j u hj)⟩
theorem Nods.below (h : Nods w B A ns) (hb : Below B w w') : Nods w' B A ns:=h.keep fun _ hp => hb.cell hp
theorem Nods.more (h : Nods w B A ns) (hB : B ≤ B') : Nods w B' A ns:=fun k hk =>
 let ⟨ad,hA,hb,hc⟩:=h k hk;⟨ad,hA,nll hb hB,hc⟩
theorem Nods.none_ (w : World) (B : Nat) (A : Option Addr) : Nods w B A []:=fun _ h => absurd h (by simp)
theorem Nods.take (h : Nods w B A ns) (m : Nat) : Nods w B A (ns.take m):=fun k hk => by
 rw [List.length_take] at hk
 obtain ⟨ad,hA,hb,hc⟩:=h k (by omega)
 exact ⟨ad,hA,hb,fun j u hj => hc j u (by rw [List.getElem_take] at hj;exact hj)⟩
def nodsL (ns : List Nod) : List Value:=ns.flatMap nodL
theorem nodsL_len (ns : List Nod) : (nodsL ns).length = ns.length * 10:=by
 induction ns with
 | nil => rfl
 | cons n ns ih => simp only [nodsL,List.flatMap_cons,lla,List.length_cons] at ih ⊢;rw [ih,nodL_len];omega
theorem nodsL_append (ns ms : List Nod) : nodsL (ns ++ ms) = nodsL ns ++ nodsL ms:=by simp [nodsL]
theorem nodsL_one (ns : List Nod) : ∀ u ∈ nodsL ns,u.oneCell' = true:=by
 intro u hu
 obtain ⟨n,_,h⟩:=List.mem_flatMap.1 hu
 exact nod_one n u h
theorem nodsL_at (ns : List Nod) (k j : Nat) (hk : k < ns.length) (hj : j < 10) : (nodsL ns)[k * 10 + j]? = (nodL (ns[k]'hk))[j]?:=by
 induction ns generalizing k with
 | nil => simp at hk
 | cons n ns ih =>
  cases k with
  | zero => simp only [nodsL,List.flatMap_cons,Nat.zero_mul,Nat.zero_add,List.getElem_cons_zero];rw [List.getElem?_append_left (by rw [nodL_len];exact hj)]
  | succ k =>
   have hk' : k < ns.length:=by simpa using hk
   have e : nodsL (n :: ns) = nodL n ++ nodsL ns:=by simp [nodsL]
   rw [e,List.getElem?_append_right (by rw [nodL_len];omega),nodL_len,show (k + 1) * 10 + j - 10 = k * 10 + j by omega,ih k hk']
   rfl
theorem own_nods {base : Nat} {v : Value} {n : Nat} (h : w.ownsRow base 43 10 v n (nodsL ns)) :
    ∃ A cap,v = .slice A n cap ∧ n = ns.length ∧ n ≤ cap ∧ cap ≤ maxLen ∧ Nods w w.heap.size A ns:=by
 have hl:=h.1
 rw [nodsL_len] at hl
 obtain ⟨-,⟨rfl,rfl⟩ | ⟨g,cap,cur,rfl,_,hh,hnc,hcm,hsz,htake⟩⟩:=id h
 · have : ns = []:=by cases ns with | nil => rfl | cons _ _ => simp at hl
   subst this
   exact ⟨none,0,rfl,rfl,nlr _,by simp [maxLen],Nods.none_ _ _ _⟩
 · refine ⟨some ⟨g,0,none⟩,cap,rfl,by omega,hnc,hcm,fun k hk => ⟨_,rfl,(h.lt g rfl).2,fun j u hj => ?_⟩⟩
   have hj10 : j < 10:=by have:=(List.getElem?_eq_some_iff.1 hj).1;rwa [nodL_len] at this
   rw [add_zero_off,h.cellAt (k * 10 + j) (by omega),nodsL_at ns k j hk hj10,hj]
end
noncomputable def sameNs (l m : List Nod) : Bool:=@decide (l.map nodL = m.map nodL) (Classical.propDecidable _)
theorem sameNs_iff (l m : List Nod) : sameNs l m = true ↔ l.map nodL = m.map nodL:=by unfold sameNs;exact @decide_eq_true_iff _ (Classical.propDecidable _)
theorem sameNs_not {l m : List Nod} (h : ¬ l.map nodL = m.map nodL) : sameNs l m = false:=by
 cases hs : sameNs l m
 · rfl
 · exact absurd ((sameNs_iff l m).1 hs) h
theorem sameNs_len {l m : List Nod} (h : l.length ≠ m.length) : sameNs l m = false:=sameNs_not fun e => h (by simpa using congrArg List.length e)
theorem sameNs_at {l m : List Nod} {k : Nat} (h1 : k < l.length) (h2 : k < m.length) (h : sameN (l[k]'h1) (m[k]'h2) = false) : sameNs l m = false:=sameNs_not fun e => by
 have h3 : (l.map nodL)[k]? = (m.map nodL)[k]?:=by rw [e]
 rw [List.getElem?_map,List.getElem?_map,List.getElem?_eq_getElem h1,List.getElem?_eq_getElem h2] at h3
 have h4 : nodL (l[k]'h1) = nodL (m[k]'h2):=by simpa using h3
 rw [(sameN_iff _ _).2 h4] at h
 cases h
theorem sameNs_all {l m : List Nod} (hl : l.length = m.length) (h : ∀ j (h1 : j < l.length) (h2 : j < m.length),sameN (l[j]'h1) (m[j]'h2) = true) : sameNs l m = true:=by
 rw [sameNs_iff]
 apply List.ext_getElem?
 intro j
 rw [List.getElem?_map,List.getElem?_map]
 by_cases hj : j < l.length
 · rw [List.getElem?_eq_getElem hj,List.getElem?_eq_getElem (by omega)]
   simp only [Option.map_some,(sameN_iff _ _).1 (h j hj (by omega))]
 · rw [List.getElem?_eq_none (by omega),List.getElem?_eq_none (by omega)]
theorem quiet_load_mid {P : Program} {C : World → Prop} {op : Oper} {a : Act} {K : Act → Prop} (ty : TypeId) (x : Operand) (ho : op.op = .load ty x)
    (b o : Nat) (hx : a.eval x = .pointer (some ⟨b,o,none⟩)) (cs : List Value) (d : TypeDesc) (hc : ∀ w,C w → w.rangeAt b o cs)
    (hu : P.underlying ty = some d) (hd : d.isRow = true) (hi : (P.info? ty).map (·.size) = some cs.length)
    (h : K (a.put op.dst (.agg cs.toArray))) : op.quiet P a C K :=
 ⟨_,fun w hw => by
  unfold Oper.quietAt execOp
  simp only [ho,hx,Instr.loadAt,Instr.sureAddr,Sem.run_bind,Sem.run_pure,Result.andThen_ok,run_loadVar_mid w b o ty cs d (hc w hw) hu hd hi]
  exact ⟨rfl,rfl⟩,h⟩
theorem nod_info (n : Nod) : (Tryz.prog.info? 43).map (·.size) = some (nodL n).length:=size_nod
theorem quiet_load_nod {C : World → Prop} {op : Oper} {a : Act} {K : Act → Prop} (n : Nod) (b o : Nat) (x : Operand) (ho : op.op = .load 43 x) (hx : a.eval x = .pointer (some ⟨b,o,none⟩)) (hc : ∀ w,C w → w.rangeAt b o (nodL n))
    (h : K (a.put op.dst (nodV n))) : op.quiet Tryz.prog a C K :=
 quiet_load_mid 43 x ho b o hx (nodL n) _ hc under_nod rfl (nod_info n) h
theorem equalNs_any (A1 A2 : Option Addr) (n1 c1 n2 c2 : Nat) (l1 l2 : List Nod) (B : Nat) (w : World) (hn1 : n1 = l1.length) (hn2 : n2 = l2.length) (hc1 : n1 ≤ c1) (hc2 : n2 ≤ c2) (hm1 : c1 ≤ maxLen) (h1 : Nods w B A1 l1) (h2 : Nods w B A2 l2) :
    Calls Tryz.prog 38 #[.slice A1 n1 c1,.slice A2 n2 c2] w fun e w' => e = .returned (.bool (sameNs l1 l2)) ∧ ∃ q,w' = w.drewN q:=by
 unfold maxLen at hm1
 by_cases hlen : n1 = n2
 · subst hlen
   have hH1:=lhi hn1
   have hH2:=lhi hn2
   clear hn1 hn2
   go_enter Tryz.func38,Tryz.ntmps38
   go_wp2
   go_loopw [5,13] (fun _ i wr => ∃ k q : Nat,k ≤ n1 ∧ i = .int .i64 ((k : Nat) : Int) ∧ Hid (∀ j (h1 : j < l1.length) (h2 : j < l2.length),j < k → sameN (l1[j]'h1) (l2[j]'h2) = true) ∧ wr = w.drewN q) (fun _ i _ => n1 - (intOf i).toNat)
   case atStart => exact ⟨0,0,by omega,rfl,lhi fun j _ _ h => absurd h (by omega),rfl⟩
   case round =>
    obtain ⟨k,q,hk,rfl,hr,rfl⟩:=hrel
    by_cases hlt : k < n1
    · have hk1 : k < l1.length:=by have:=hH1.out;omega
      have hk2 : k < l2.length:=by have:=hH2.out;omega
      obtain ⟨ad1,b1,o1,hA1,hp1,-,hd1⟩:=h1.at_ hk1
      obtain ⟨ad2,b2,o2,hA2,hp2,-,hd2⟩:=h2.at_ hk2
      subst hA1
      subst hA2
      have hE:=nod_neq
      have hG:=nod_guard
      replace hd1:=lhi hd1
      replace hd2:=lhi hd2
      go_wp2
      refine wp_region_quiet_lit (by kernel_rfl) (by kernel_rfl) ?_
      repeat (go_big_quiet_step (fail))
      go_big_quiet_want
      refine quiet_load_nod (l1[k]'hk1) b1 o1 _ rfl rfl (fun w' hw' => ?_) ?_
      · obtain ⟨m,rfl⟩:=hw'
        exact hd1.out
      go_big_quiet_on
      simp only [Act.put,List.setIfInBounds_toArray,List.set_cons_zero,List.set_cons_succ]
      repeat (go_big_quiet_step (fail))
      go_big_quiet_want
      refine quiet_load_nod (l2[k]'hk2) b2 o2 _ rfl rfl (fun w' hw' => ?_) ?_
      · obtain ⟨m,rfl⟩:=hw'
        exact hd2.out
      go_big_quiet_on
      simp only [Act.put,List.setIfInBounds_toArray,List.set_cons_zero,List.set_cons_succ]
      repeat (go_big_quiet_step (fail))
      refine wpQuiet_nil ?_
      intro _ hw'
      obtain ⟨nq,hw''⟩:=hw'
      subst hw''
      have hAt:=lhi (fun h => sameNs_at (l:=l1) (m:=l2) hk1 hk2 h)
      have hNx:=lhi (fun (he : sameN (l1[k]'hk1) (l2[k]'hk2) = true) j (h1 : j < l1.length) (h2 : j < l2.length) (hj : j < k + 1) => show sameN (l1[j]'h1) (l2[j]'h2) = true by
       rcases Nat.lt_or_ge j k with h | h
       · exact hr.out j h1 h2 h
       · obtain rfl : j = k:=by omega
         exact he)
      generalize sameN (l1[k]'hk1) (l2[k]'hk2) = s at *
      cases s
      · go_wp2
        go_ret
        exact ⟨ret_bool (by first | exact (hAt.out rfl).symm | exact (hAt.out trivial).symm),_,by first | rfl | exact World.drewN_drewN _ _ _⟩
      · go_wp2
        go_roundw
        case rel => exact ⟨k + 1,_,by omega,by go_num,lhi (by first | exact hNx.out rfl | exact hNx.out trivial),by first | rfl | exact World.drewN_drewN _ _ _⟩
        case measure => simp [intOf];omega
    · go_wp2
      go_ret
      exact ⟨ret_bool (sameNs_all (by rw [← hH1.out,← hH2.out]) fun j h1 h2 => hr.out j h1 h2 (by have:=hH1.out;omega)).symm,_,rfl⟩
 · rw [sameNs_len (by omega)]
   clear hn1 hn2
   go_enter Tryz.func38,Tryz.ntmps38
   go_wp2
   go_ret
   exact ⟨rfl,0,rfl⟩
theorem treeSame_any (A1 A2 : Option Addr) (n1 c1 n2 c2 : Nat) (g1 g2 : Int) (l1 l2 : List Nod) (B : Nat) (w : World) (hn1 : n1 = l1.length) (hn2 : n2 = l2.length) (hc1 : n1 ≤ c1) (hc2 : n2 ≤ c2) (hm1 : c1 ≤ maxLen) (hB : B ≤ w.heap.size) (h1 : Nods w B A1 l1) (h2 : Nods w B A2 l2) :
    Calls Tryz.prog 22 #[.agg #[.slice A1 n1 c1,.int .i64 g1],.agg #[.slice A2 n2 c2,.int .i64 g2]] w fun e w' => e = .returned (.bool (decide (g1 = g2) && sameNs l1 l2)) ∧ Below w.heap.size w w':=by
 have hb : ∀ o1 o2,Below w.heap.size w ((w.alloc o1).alloc o2):=fun o1 o2 => ((Below.refl _ _).alloc (nlr _) _).alloc (by simp) _
 have hE:=lhi (fun w' (hb' : Below w.heap.size w w') => equalNs_any A1 A2 n1 c1 n2 c2 l1 l2 B w' hn1 hn2 hc1 hc2 hm1 (h1.below (hb'.mono hB)) (h2.below (hb'.mono hB)))
 clear hn1 hn2 h1 h2 hc1 hc2 hm1
 by_cases hg : g1 = g2
 · subst hg
   rw [show (decide (g1 = g1) && sameNs l1 l2) = sameNs l1 l2 by simp]
   have hb':=lhi hb
   clear hb
   go_enter Tryz.func22,Tryz.ntmps22
   go_wp2_with (go_at_call 38;refine (hE.out _ (hb'.out _ _)).mono ?_;rintro e w' ⟨rfl,q,rfl⟩)
   go_ret
   exact ⟨rfl,below_drewN (hb'.out _ _) q⟩
 · have hq : (g1 == g2) = false:=by rw [bef];exact hg
   rw [show (decide (g1 = g2) && sameNs l1 l2) = false by simp [hg]]
   have hb':=lhi hb
   clear hb hg
   go_enter Tryz.func22,Tryz.ntmps22
   go_wp2
   go_ret
   exact ⟨rfl,hb'.out _ _⟩
theorem refSame_any (A1 A2 : Option Addr) (n1 c1 n2 c2 : Nat) (g1 g2 : Int) (l1 l2 : List Nod) (B : Nat) (w : World) (hn1 : n1 = l1.length) (hn2 : n2 = l2.length) (hc1 : n1 ≤ c1) (hc2 : n2 ≤ c2) (hm1 : c1 ≤ maxLen) (hB : B ≤ w.heap.size) (h1 : Nods w B A1 l1) (h2 : Nods w B A2 l2) :
    Calls Tryz.prog 10 #[.agg #[.slice A1 n1 c1,.int .i64 g1],.agg #[.slice A2 n2 c2,.int .i64 g2]] w fun e w' => e = .returned (.bool (decide (g1 = g2) && sameNs l1 l2)) ∧ Below w.heap.size w w':=by
 unfold maxLen at hm1
 have hb : ∀ o1 o2,Below w.heap.size w ((w.alloc o1).alloc o2):=fun o1 o2 => ((Below.refl _ _).alloc (nlr _) _).alloc (by simp) _
 by_cases hg : g1 = g2
 · subst hg
   rw [show (decide (g1 = g1) && sameNs l1 l2) = sameNs l1 l2 by simp]
   by_cases hlen : n1 = n2
   · subst hlen
     have hH1:=lhi hn1
     have hH2:=lhi hn2
     clear hn1 hn2
     have hb':=lhi hb
     have hk1:=lhi (fun o1 o2 => (h1.below ((hb o1 o2).mono hB)).more (show B ≤ w.heap.size from hB))
     have hk2:=lhi (fun o1 o2 => (h2.below ((hb o1 o2).mono hB)).more (show B ≤ w.heap.size from hB))
     clear hb h1 h2
     go_enter Tryz.func10,Tryz.ntmps10
     go_wp2
     have hbW:=hb'.out (.cells #[.slice A1 n1 c1,.int .i64 g1] 26) (.cells #[.slice A2 n1 c2,.int .i64 g1] 26)
     have hN1:=hk1.out (.cells #[.slice A1 n1 c1,.int .i64 g1] 26) (.cells #[.slice A2 n1 c2,.int .i64 g1] 26)
     have hN2:=hk2.out (.cells #[.slice A1 n1 c1,.int .i64 g1] 26) (.cells #[.slice A2 n1 c2,.int .i64 g1] 26)
     have hX1:=((held_new w 26 #[.slice A1 n1 c1,.int .i64 g1]).alloc (.cells #[.slice A2 n1 c2,.int .i64 g1] 26)).at_ (i:=0) rfl
     have hX2:=(held_new2 w (.cells #[.slice A1 n1 c1,.int .i64 g1] 26) 26 #[.slice A2 n1 c2,.int .i64 g1]).at_ (i:=0) rfl
     generalize (w.alloc (.cells #[.slice A1 n1 c1,.int .i64 g1] 26)).alloc (.cells #[.slice A2 n1 c2,.int .i64 g1] 26) = w2 at *
     clear hk1 hk2 hb'
     replace hbW:=lhi hbW
     go_loopw [5] (fun i wr => ∃ k q : Nat,k ≤ n1 ∧ i = .int .i64 ((k : Nat) : Int) ∧ Hid (∀ j (h1 : j < l1.length) (h2 : j < l2.length),j < k → sameN (l1[j]'h1) (l2[j]'h2) = true) ∧ wr = w2.drewN q) (fun i _ => n1 - (intOf i).toNat)
     case atStart => exact ⟨0,0,by omega,rfl,lhi fun j _ _ h => absurd h (by omega),rfl⟩
     case round =>
      obtain ⟨k,q,hk,rfl,hr,rfl⟩:=hrel
      by_cases hlt : k < n1
      · have hk1 : k < l1.length:=by have:=hH1.out;omega
        have hk2 : k < l2.length:=by have:=hH2.out;omega
        obtain ⟨ad1,b1,o1,hA1,hp1,-,hd1⟩:=hN1.at_ hk1
        obtain ⟨ad2,b2,o2,hA2,hp2,-,hd2⟩:=hN2.at_ hk2
        subst hA1
        subst hA2
        have hE:=nod_neq
        have hG:=nod_guard
        replace hd1:=lhi hd1
        replace hd2:=lhi hd2
        go_wp2
        refine wp_region_quiet_lit (by kernel_rfl) (by kernel_rfl) ?_
        repeat (go_big_quiet_step (fail))
        go_big_quiet_want
        refine quiet_load_nod (l1[k]'hk1) b1 o1 _ rfl rfl (fun w' hw' => ?_) ?_
        · obtain ⟨m,rfl⟩:=hw'
          exact hd1.out
        go_big_quiet_on
        simp only [Act.put,List.setIfInBounds_toArray,List.set_cons_zero,List.set_cons_succ]
        repeat (go_big_quiet_step (fail))
        go_big_quiet_want
        refine quiet_load_nod (l2[k]'hk2) b2 o2 _ rfl rfl (fun w' hw' => ?_) ?_
        · obtain ⟨m,rfl⟩:=hw'
          exact hd2.out
        go_big_quiet_on
        simp only [Act.put,List.setIfInBounds_toArray,List.set_cons_zero,List.set_cons_succ]
        repeat (go_big_quiet_step (fail))
        refine wpQuiet_nil ?_
        intro _ hw'
        obtain ⟨nq,hw''⟩:=hw'
        subst hw''
        have hAt:=lhi (fun h => sameNs_at (l:=l1) (m:=l2) hk1 hk2 h)
        have hNx:=lhi (fun (he : sameN (l1[k]'hk1) (l2[k]'hk2) = true) j (h1 : j < l1.length) (h2 : j < l2.length) (hj : j < k + 1) => show sameN (l1[j]'h1) (l2[j]'h2) = true by
         rcases Nat.lt_or_ge j k with h | h
         · exact hr.out j h1 h2 h
         · obtain rfl : j = k:=by omega
           exact he)
        generalize sameN (l1[k]'hk1) (l2[k]'hk2) = s at *
        cases s
        · go_wp2
          go_ret
          exact ⟨ret_bool (by first | exact (hAt.out rfl).symm | exact (hAt.out trivial).symm),below_drewN hbW.out _⟩
        · go_wp2
          go_roundw
          case rel => exact ⟨k + 1,_,by omega,by go_num,lhi (by first | exact hNx.out rfl | exact hNx.out trivial),by first | rfl | exact World.drewN_drewN _ _ _⟩
          case measure => simp [intOf];omega
      · go_wp2
        go_ret
        exact ⟨ret_bool (sameNs_all (by rw [← hH1.out,← hH2.out]) fun j h1 h2 => hr.out j h1 h2 (by have:=hH1.out;omega)).symm,below_drewN hbW.out _⟩
   · rw [sameNs_len (by omega)]
     have hq3 : ((n1 : Int) != (n2 : Int)) = true:=by rw [bne_iff_ne];omega
     have hb':=lhi hb
     clear hb hn1 hn2 h1 h2
     go_enter Tryz.func10,Tryz.ntmps10
     go_wp2
     go_ret
     exact ⟨rfl,hb'.out _ _⟩
 · have hq : (g1 == g2) = false:=by rw [bef];exact hg
   have hq2 : (g1 != g2) = true:=by rw [bne_iff_ne];exact hg
   rw [show (decide (g1 = g2) && sameNs l1 l2) = false by simp [hg]]
   have hb':=lhi hb
   clear hb hg hn1 hn2 h1 h2
   go_enter Tryz.func10,Tryz.ntmps10
   go_wp2
   go_ret
   exact ⟨rfl,hb'.out _ _⟩
def partsN (n : Nod) : List Int:=if n.kind = 2 ∨ n.kind = 3 then [n.a,n.b] else if n.kind = 4 ∨ n.kind = 5 then [n.a] else []
def timesN (lo hi : Int) : Bool:=decide (0 ≤ lo) && (decide (lo ≤ 255) && (decide (hi = -1) || (decide (lo ≤ hi) && decide (hi ≤ 255))))
def wantedN (n : Nod) : Nod :=
 if n.kind = 1 then { kind:=n.kind,a:=0,b:=0,lo:=0,hi:=0,grp:=0,set:=n.set } else
 if n.kind = 2 ∨ n.kind = 3 then { kind:=n.kind,a:=n.a,b:=n.b,lo:=0,hi:=0,grp:=0,set:=zset } else
 if n.kind = 4 then { kind:=n.kind,a:=n.a,b:=0,lo:=n.lo,hi:=n.hi,grp:=0,set:=zset } else
 if n.kind = 5 then { kind:=n.kind,a:=n.a,b:=0,lo:=0,hi:=0,grp:=n.grp,set:=zset } else
 if n.kind = 6 then { kind:=n.kind,a:=0,b:=0,lo:=0,hi:=0,grp:=n.grp,set:=zset } else
 { kind:=n.kind,a:=0,b:=0,lo:=0,hi:=0,grp:=0,set:=zset }
theorem nodV_lit (k a b lo hi g : Int) (s : Nat → Bool) : nodV ⟨k,a,b,lo,hi,g,s⟩ = .agg #[.int .i64 k,.int .i64 a,.int .i64 b,.int .i64 lo,.int .i64 hi,.int .i64 g,.int .u64 (wd s 0 : Nat),.int .u64 (wd s 1 : Nat),.int .u64 (wd s 2 : Nat),.int .u64 (wd s 3 : Nat)]:=rfl
theorem partsN_2 {n : Nod} (h : n.kind = 2) : partsN n = [n.a,n.b]:=by simp [partsN,h]
theorem partsN_3 {n : Nod} (h : n.kind = 3) : partsN n = [n.a,n.b]:=by simp [partsN,h]
theorem partsN_4 {n : Nod} (h : n.kind = 4) : partsN n = [n.a]:=by simp [partsN,h]
theorem partsN_5 {n : Nod} (h : n.kind = 5) : partsN n = [n.a]:=by simp [partsN,h]
theorem partsN_else {n : Nod} (h2 : n.kind ≠ 2) (h3 : n.kind ≠ 3) (h4 : n.kind ≠ 4) (h5 : n.kind ≠ 5) : partsN n = []:=by simp [partsN,h2,h3,h4,h5]
theorem beq_no {a b : Int} (h : a ≠ b) : (a == b) = false:=by rw [bef];exact h
def PartsRet (w : World) (l : List Int) (e : Ending) (w' : World) : Prop :=
 ∃ A n c,e = .returned (.slice A n c) ∧ n = l.length ∧ n ≤ c ∧ c ≤ 2 ∧ Vals w' w'.heap.size A (l.map (Value.int .i64)) ∧ (∀ ad,A = some ad → w.heap.size ≤ ad.block) ∧ Below w.heap.size w w'
theorem alloc2_below (w : World) (o1 o2 : Obj) : Below w.heap.size w ((w.alloc o1).alloc o2):=((Below.refl _ _).alloc (nlr _) _).alloc (by simp) _
theorem parts_any (n : Nod) (w : World) : Calls Tryz.prog 35 #[nodV n] w (PartsRet w (partsN n)):=by
 have two : ∀ a b : Int,PartsRet w [a,b] (.returned (.slice (some ⟨w.heap.size + 1,0,none⟩) 2 2)) ((w.alloc (.cells (nodC n) 43)).alloc (.cells #[.int .i64 a,.int .i64 b] 3)):=fun a b =>
  ⟨_,2,2,rfl,rfl,nlr _,nlr _,by
   have:=vals_new (w.alloc (.cells (nodC n) 43)) [.int .i64 a,.int .i64 b] 3 (0,0)
   rw [sizeA'] at this
   rw [sizeA',sizeA'];exact this,(fun ad e => by cases e;show w.heap.size ≤ w.heap.size + 1;omega),alloc2_below _ _ _⟩
 have one : ∀ a : Int,PartsRet w [a] (.returned (.slice (some ⟨w.heap.size + 1,0,none⟩) 1 1)) ((w.alloc (.cells (nodC n) 43)).alloc (.cells #[.int .i64 a] 3)):=fun a =>
  ⟨_,1,1,rfl,rfl,nlr _,by omega,by
   have:=vals_new (w.alloc (.cells (nodC n) 43)) [.int .i64 a] 3 (0,0)
   rw [sizeA'] at this
   rw [sizeA',sizeA'];exact this,(fun ad e => by cases e;show w.heap.size ≤ w.heap.size + 1;omega),alloc2_below _ _ _⟩
 have none_ : PartsRet w [] (.returned (.slice none 0 0)) (w.alloc (.cells (nodC n) 43)) :=
  ⟨_,0,0,rfl,rfl,nlr _,by omega,Vals.none_ _ _ _,(fun ad e => by cases e),(Below.refl _ _).alloc (nlr _) _⟩
 replace two:=lhi two
 replace one:=lhi one
 replace none_:=lhi none_
 by_cases h2 : n.kind = 2
 · rw [partsN_2 h2]
   obtain ⟨k,a,b,lo,hi,g,s⟩:=n
   simp only at h2
   subst h2
   rw [nodV_lit]
   go_enter Tryz.func35,Tryz.ntmps35
   go_wp2
   go_ret
   exact two.out a b
 by_cases h3 : n.kind = 3
 · rw [partsN_3 h3]
   obtain ⟨k,a,b,lo,hi,g,s⟩:=n
   simp only at h3
   subst h3
   rw [nodV_lit]
   clear h2
   go_enter Tryz.func35,Tryz.ntmps35
   go_wp2
   go_ret
   exact two.out a b
 by_cases h4 : n.kind = 4
 · rw [partsN_4 h4]
   obtain ⟨k,a,b,lo,hi,g,s⟩:=n
   simp only at h4
   subst h4
   rw [nodV_lit]
   clear h2 h3
   go_enter Tryz.func35,Tryz.ntmps35
   go_wp2
   go_ret
   exact one.out a
 by_cases h5 : n.kind = 5
 · rw [partsN_5 h5]
   obtain ⟨k,a,b,lo,hi,g,s⟩:=n
   simp only at h5
   subst h5
   rw [nodV_lit]
   clear h2 h3 h4
   go_enter Tryz.func35,Tryz.ntmps35
   go_wp2
   go_ret
   exact one.out a
 · rw [partsN_else h2 h3 h4 h5]
   obtain ⟨k,a,b,lo,hi,g,s⟩:=n
   replace h2:=beq_no h2
   replace h3:=beq_no h3
   replace h4:=beq_no h4
   replace h5:=beq_no h5
   simp only at h2 h3 h4 h5
   rw [nodV_lit]
   go_enter Tryz.func35,Tryz.ntmps35
   go_wp2
   go_ret
   exact none_.out
theorem areTimes_any (lo hi : Int) (w : World) : Calls Tryz.prog 55 #[.int .i64 lo,.int .i64 hi] w fun e w' => e = .returned (.bool (timesN lo hi)) ∧ w = w':=by
 have hT : ∀ b,timesN lo hi = b → Ending.returned (.bool b) = .returned (.bool (timesN lo hi)):=fun b h => by rw [h]
 by_cases h1 : lo < 0
 · rw [show timesN lo hi = false by have : ¬ 0 ≤ lo:=by omega
                                    simp [timesN,this]]
   clear hT
   go_enter Tryz.func55,Tryz.ntmps55
   go_wp2
   go_ret
   exact ⟨rfl,rfl⟩
 by_cases h2 : 255 < lo
 · rw [show timesN lo hi = false by have : ¬ lo ≤ 255:=by omega
                                    simp [timesN,this]]
   clear hT
   go_enter Tryz.func55,Tryz.ntmps55
   go_wp2
   go_ret
   exact ⟨rfl,rfl⟩
 have h1' : 0 ≤ lo:=by omega
 have h2' : lo ≤ 255:=by omega
 by_cases h3 : hi = -1
 · subst h3
   rw [show timesN lo (-1) = true by simp [timesN,h1',h2']]
   clear hT
   go_enter Tryz.func55,Tryz.ntmps55
   go_wp2
   go_ret
   exact ⟨rfl,rfl⟩
 have h3':=beq_no h3
 by_cases h4 : lo ≤ hi
 · rw [show timesN lo hi = decide (hi ≤ 255) by simp [timesN,h1',h2',h3,h4]]
   clear hT h3
   go_enter Tryz.func55,Tryz.ntmps55
   go_wp2
   go_ret
   exact ⟨rfl,rfl⟩
 · rw [show timesN lo hi = false by simp [timesN,h1',h2',h3,h4]]
   clear hT h3
   go_enter Tryz.func55,Tryz.ntmps55
   go_wp2
   go_ret
   exact ⟨rfl,rfl⟩
theorem zset_wd (k : Nat) : wd zset k = 0:=wd_none k
theorem nodC_z (k a b lo hi g : Int) : nodC ⟨k,a,b,lo,hi,g,zset⟩ = #[.int .i64 k,.int .i64 a,.int .i64 b,.int .i64 lo,.int .i64 hi,.int .i64 g,.int .u64 0,.int .u64 0,.int .u64 0,.int .u64 0]:=by
 unfold nodC nodL;rw [zset_wd,zset_wd,zset_wd,zset_wd];rfl
theorem Held.z {w : World} {q : Nat} {t : TypeId} {k a b lo hi g : Int} (h : Held w q t #[.int .i64 k,.int .i64 a,.int .i64 b,.int .i64 lo,.int .i64 hi,.int .i64 g,.int .u64 0,.int .u64 0,.int .u64 0,.int .u64 0]) :
    Held w q t (nodC ⟨k,a,b,lo,hi,g,zset⟩):=by rw [nodC_z];exact h
theorem wanted_any (n : Nod) (w : World) : Calls Tryz.prog 56 #[nodV n] w fun e w' => e = .returned (nodV (wantedN n)) ∧ Below w.heap.size w w':=by
 have hb:=lhi (alloc2_below w)
 by_cases h1 : n.kind = 1
 · obtain ⟨k,a,b,lo,hi,g,s⟩:=n
   simp only at h1
   subst h1
   rw [show wantedN ⟨1,a,b,lo,hi,g,s⟩ = ⟨1,0,0,0,0,0,s⟩ by rfl,nodV_lit 1 a b lo hi g s]
   go_enter Tryz.func56,Tryz.ntmps56
   go_wp2
   exact bodyPost_ret (v:=.agg (nodC (⟨1,0,0,0,0,0,s⟩))) (results_cell_row Tryz.results56 _ _ (w.heap.size + 1) 43 (nodC (⟨1,0,0,0,0,0,s⟩)) (0,0) _ rfl (held_new2 _ _ _ _) under_nod rfl (nod_size _)) rfl ⟨rfl,hb.out _ _⟩
 by_cases h2 : n.kind = 2
 · obtain ⟨k,a,b,lo,hi,g,s⟩:=n
   simp only at h2
   subst h2
   clear h1
   rw [show wantedN ⟨2,a,b,lo,hi,g,s⟩ = ⟨2,a,b,0,0,0,zset⟩ by rfl,nodV_lit 2 a b lo hi g s]
   go_enter Tryz.func56,Tryz.ntmps56
   go_wp2
   exact bodyPost_ret (v:=.agg (nodC (⟨2,a,b,0,0,0,zset⟩))) (results_cell_row Tryz.results56 _ _ (w.heap.size + 1) 43 (nodC (⟨2,a,b,0,0,0,zset⟩)) (0,0) _ rfl (Held.z (held_new2 _ _ _ _)) under_nod rfl (nod_size _)) rfl ⟨rfl,hb.out _ _⟩
 by_cases h3 : n.kind = 3
 · obtain ⟨k,a,b,lo,hi,g,s⟩:=n
   simp only at h3
   subst h3
   clear h1 h2
   rw [show wantedN ⟨3,a,b,lo,hi,g,s⟩ = ⟨3,a,b,0,0,0,zset⟩ by rfl,nodV_lit 3 a b lo hi g s]
   go_enter Tryz.func56,Tryz.ntmps56
   go_wp2
   exact bodyPost_ret (v:=.agg (nodC (⟨3,a,b,0,0,0,zset⟩))) (results_cell_row Tryz.results56 _ _ (w.heap.size + 1) 43 (nodC (⟨3,a,b,0,0,0,zset⟩)) (0,0) _ rfl (Held.z (held_new2 _ _ _ _)) under_nod rfl (nod_size _)) rfl ⟨rfl,hb.out _ _⟩
 by_cases h4 : n.kind = 4
 · obtain ⟨k,a,b,lo,hi,g,s⟩:=n
   simp only at h4
   subst h4
   clear h1 h2 h3
   rw [show wantedN ⟨4,a,b,lo,hi,g,s⟩ = ⟨4,a,0,lo,hi,0,zset⟩ by rfl,nodV_lit 4 a b lo hi g s]
   go_enter Tryz.func56,Tryz.ntmps56
   go_wp2
   exact bodyPost_ret (v:=.agg (nodC (⟨4,a,0,lo,hi,0,zset⟩))) (results_cell_row Tryz.results56 _ _ (w.heap.size + 1) 43 (nodC (⟨4,a,0,lo,hi,0,zset⟩)) (0,0) _ rfl (Held.z (held_new2 _ _ _ _)) under_nod rfl (nod_size _)) rfl ⟨rfl,hb.out _ _⟩
 by_cases h5 : n.kind = 5
 · obtain ⟨k,a,b,lo,hi,g,s⟩:=n
   simp only at h5
   subst h5
   clear h1 h2 h3 h4
   rw [show wantedN ⟨5,a,b,lo,hi,g,s⟩ = ⟨5,a,0,0,0,g,zset⟩ by rfl,nodV_lit 5 a b lo hi g s]
   go_enter Tryz.func56,Tryz.ntmps56
   go_wp2
   exact bodyPost_ret (v:=.agg (nodC (⟨5,a,0,0,0,g,zset⟩))) (results_cell_row Tryz.results56 _ _ (w.heap.size + 1) 43 (nodC (⟨5,a,0,0,0,g,zset⟩)) (0,0) _ rfl (Held.z (held_new2 _ _ _ _)) under_nod rfl (nod_size _)) rfl ⟨rfl,hb.out _ _⟩
 by_cases h6 : n.kind = 6
 · obtain ⟨k,a,b,lo,hi,g,s⟩:=n
   simp only at h6
   subst h6
   clear h1 h2 h3 h4 h5
   rw [show wantedN ⟨6,a,b,lo,hi,g,s⟩ = ⟨6,0,0,0,0,g,zset⟩ by rfl,nodV_lit 6 a b lo hi g s]
   go_enter Tryz.func56,Tryz.ntmps56
   go_wp2
   exact bodyPost_ret (v:=.agg (nodC (⟨6,0,0,0,0,g,zset⟩))) (results_cell_row Tryz.results56 _ _ (w.heap.size + 1) 43 (nodC (⟨6,0,0,0,0,g,zset⟩)) (0,0) _ rfl (Held.z (held_new2 _ _ _ _)) under_nod rfl (nod_size _)) rfl ⟨rfl,hb.out _ _⟩
 · obtain ⟨k,a,b,lo,hi,g,s⟩:=n
   rw [show wantedN ⟨k,a,b,lo,hi,g,s⟩ = ⟨k,0,0,0,0,0,zset⟩ by simp only at h1 h2 h3 h4 h5 h6;simp [wantedN,h1,h2,h3,h4,h5,h6],nodV_lit k a b lo hi g s]
   replace h1:=beq_no h1
   replace h2:=beq_no h2
   replace h3:=beq_no h3
   replace h4:=beq_no h4
   replace h5:=beq_no h5
   replace h6:=beq_no h6
   simp only at h1 h2 h3 h4 h5 h6
   go_enter Tryz.func56,Tryz.ntmps56
   go_wp2
   exact bodyPost_ret (v:=.agg (nodC (⟨k,0,0,0,0,0,zset⟩))) (results_cell_row Tryz.results56 _ _ (w.heap.size + 1) 43 (nodC (⟨k,0,0,0,0,0,zset⟩)) (0,0) _ rfl (Held.z (held_new2 _ _ _ _)) under_nod rfl (nod_size _)) rfl ⟨rfl,hb.out _ _⟩
end Go.Proofs.YtonjnagcdnmcpaaGreatDoor
