/- Contracts and plain facts: M08. -/
import Derived.Test.YtonjnagcdnmcpaaGreatDoorM07
set_option linter.unusedVariables false
set_option linter.unusedSimpArgs false
set_option maxRecDepth 100000
set_option maxHeartbeats 32000000
namespace Go.Proofs.YtonjnagcdnmcpaaGreatDoor
open Go.RowKit
theorem join_none (l : List (List UInt8)) : Lib.join l [] = l.flatten:=by
 have h : ∀ r : List (List UInt8),Lib.joinTail [] r = r.flatten:=fun r => by
  induction r with
  | nil => rfl
  | cons x r ih =>
   have e : Lib.joinTail [] (x :: r) = [] ++ x ++ Lib.joinTail [] r:=by simp [Lib.joinTail]
   rw [e,ih];simp
 cases l with
 | nil => rfl
 | cons x r => rw [Lib.join_cons,h];rfl
theorem rowsL_len (f : Nat → Bool) (k : Nat) : ∀ c,256 - c = k → (rowsL f c).flatten.length ≤ 11 * k:=by
 induction k using Nat.strongRecOn with
 | ind k ih =>
  intro c hc
  by_cases h : c < 256
  · cases hf : f c with
    | false =>
     rw [rowsL_out h hf]
     have:=ih (256 - (c + 1)) (by omega) _ rfl
     omega
    | true =>
     have hr:=(runE_spec f (255 - c) c (by omega) hf).1
     rw [rowsL_in h hf,List.flatten_cons,lla]
     have:=ih (256 - (runE f c + 1)) (by omega) _ rfl
     have h1:=endT_len (UInt8.ofNat c)
     have h2:=endT_len (UInt8.ofNat (runE f c))
     have : (rowT (UInt8.ofNat c) (UInt8.ofNat (runE f c))).length ≤ 11:=by
      unfold rowT
      split
      · omega
      · rw [lla,List.length_cons];omega
     omega
  · rw [rowsL_end (by omega)];simp
theorem textR_len (b : Bool) (f : Nat → Bool) : 2 ≤ (textR b f).length ∧ (textR b f).length ≤ 3000:=by
 have h1:=rowsL_len f 256 0 rfl
 have h2:=rowsL_len (negF f) 256 0 rfl
 unfold textR
 split
 · simp only [List.length_cons,lla,List.length_nil];omega
 · simp only [List.length_cons,lla,List.length_nil];omega
def TextAt (w : World) (v : Value) (l : List UInt8) : Prop:=∃ A c,v = .slice (some A) l.length c ∧ l.length ≤ c ∧ c ≤ maxLen ∧ Byt w w.heap.size (some A) l
theorem conv_text (w : World) (l : List UInt8) (hl : l.length ≤ 1000000) : ∃ v w1,(convert 9 22 (.string ⟨l.toArray⟩)).run Tryz.prog w = .ok v w1 ∧ TextAt w1 v l ∧ Below w.heap.size w w1:=by
 have hsz : (⟨l.toArray⟩ : ByteArray).size = l.length:=by simp [ByteArray.size]
 obtain ⟨cp,w1,h1,h2,h3,-⟩:=conv_bytes w ⟨l.toArray⟩
 have hcap:=Lib.run_convert_string_bytes (P:=Tryz.prog) w 9 22 5 ⟨l.toArray⟩ Tryz.underlying9 Tryz.underlying22 Tryz.underlying5
 rw [hcap] at h1
 simp only [Result.ok.injEq,Value.slice.injEq,true_and] at h1
 obtain ⟨-,rfl⟩:=h1
 refine ⟨_,_,hcap,⟨⟨w.heap.size,0,none⟩,_,by rw [hsz],grownCap_ge _ _ _ _,grownCap_le_maxLen _ _ _ _ (by unfold maxLen;omega),by simpa using h2⟩,h3⟩
theorem join_any {w : World} {base : Nat} {v : Value} {ss : List ByteArray} {f : Nat → Bool} (h : w.ownsRow base 9 1 v ss.length (ss.map Value.string)) (hs : ss.map (·.data.toList) = rowsL f 0) (hl : ss.length ≤ 256) :
    Calls Tryz.prog 85 #[v,.string ⟨#[]⟩] w fun e w' => e = .returned (.string ⟨(rowsL f 0).flatten.toArray⟩) ∧ Below w.heap.size w w':=by
 obtain ⟨A,c,rfl,-,hc,hcm,hv⟩:=own_vals h
 have hlen:=rowsL_len f 256 0 rfl
 match ss,h,hs,hl,hv with
 | [],_,hs,_,_ =>
  rw [← hs]
  exact (Tryz.strings_Join_none A c ⟨#[]⟩ w).mono fun e w' ⟨he,hw⟩ => ⟨he,hw ▸ Below.refl _ _⟩
 | s :: r,_,hs,hl,hv =>
  obtain ⟨ad,rfl,hb,hc0⟩:=hv.at_ (k:=0) (by simp)
  have hsp : ad.spot = none:=World.cell?_spot (show w.cell? ad = some _ from hc0)
  obtain ⟨b,o,sp⟩:=ad
  obtain rfl : sp = none:=hsp
  have:=Tryz.strings_Join b o c (s :: r) ⟨#[]⟩ w (fun j x hx => by
   obtain ⟨hj,rfl⟩:=List.getElem?_eq_some_iff.1 hx
   obtain ⟨ad',he,_,hc'⟩:=hv.at_ (k:=j) (by rw [List.length_map];exact hj)
   obtain rfl:=Option.some.inj he
   rw [show (Addr.add ⟨b,o,none⟩ j) = ⟨b,o + j,none⟩ by unfold Addr.add;split <;> simp_all] at hc'
   rw [hc',List.getElem_map]) hb (by omega) hc (by rw [hs];show (Lib.join (rowsL f 0) []).length ≤ _;rw [join_none];omega)
  rw [hs] at this
  rw [show (rowsL f 0).flatten = Lib.join (rowsL f 0) (⟨#[]⟩ : ByteArray).data.toList from (join_none _).symm]
  exact this
theorem closed_any {w : World} {base : Nat} {v : Value} {ss : List ByteArray} {f : Nat → Bool} (h : w.ownsRow base 9 1 v ss.length (ss.map Value.string)) (hs : ss.map (·.data.toList) = rowsL f 0) (hl : ss.length ≤ 256) (a : List UInt8) (ha : a.length ≤ 2) :
    Calls Tryz.prog 103 #[.string ⟨a.toArray⟩,v] w fun e w' => ∃ u,e = .returned u ∧ TextAt w' u (a ++ ((rowsL f 0).flatten ++ [93])) ∧ Below w.heap.size w w':=by
 have hJ:=lhi (join_any h hs hl)
 have hlen:=rowsL_len f 256 0 rfl
 obtain ⟨A,c,rfl,-,-,-,-⟩:=own_vals h
 generalize (rowsL f 0).flatten = t at *
 have hcv:=fun w => conv_text w (a ++ (t ++ [93])) (by simp;omega)
 have hx : (⟨#[]⟩ : ByteArray) = ⟨#[]⟩:=rfl
 have hap : Hid ((⟨a.toArray⟩ : ByteArray) ++ ⟨t.toArray⟩ ++ ⟨#[93]⟩ = ⟨(a ++ (t ++ [93])).toArray⟩):=lhi (bytes_ext (by simp))
 clear h hs hl hx
 go_enter Tryz.func103,Tryz.ntmps103
 go_wp2_with (go_at_call 85;refine (hJ.out).mono ?_;rintro e w1 ⟨rfl,hb1⟩;obtain ⟨u,w2,hcv2,htx,hb2⟩:=hcv w1;rw [← hap.out] at hcv2)
 go_ret
 exact ⟨u,rfl,htx,hb1.trans (hb2.mono hb1.size)⟩
def voidS (f : Nat → Bool) : Bool:=sameS f (ofL [])
theorem not_set (f : Nat → Bool) (w : World) :
    Calls Tryz.prog 81 #[.agg (setC f)] w fun e w' => e = .returned (.agg (setC (negF f))) ∧ Below w.heap.size w w':=not_any f w
attribute [local go_sem] setV setC guard_set run_equalIn_lit
theorem text_any (f : Nat → Bool) (w : World) :
    Calls Tryz.prog 83 #[setV f] w fun e w' => ∃ u,e = .returned u ∧ TextAt w' u (textR (voidS f) f) ∧ Below w.heap.size w w':=by
 have hz:=set_new w f
 have hZ:=lhi hz
 have c0:=hz.cell 0 (by decide)
 have c1:=hz.cell 1 (by decide)
 have c2:=hz.cell 2 (by decide)
 have c3:=hz.cell 3 (by decide)
 clear hz
 have hW:=lhi (show Below w.heap.size w (w.alloc (.cells (setC f) 41)) from (Below.refl _ _).alloc (nlr _) _)
 cases hv : voidS f with
 | true =>
  have hs : sameS f (ofL []) = true:=hv
  clear hv
  go_enter Tryz.func83,Tryz.ntmps83
  go_wp2
  go_region_with ((go_at_call 82;refine (of_any none 0 0 [] 0 _ rfl (nlr _) (by decide) (Nat.zero_le _) (Byt.none_ _ _ _)).mono ?_;rintro e w2 ⟨rfl,hb2⟩;have z2 : SetAt w2 w.heap.size f:=(hb2.block w.heap.size hZ.out.lt).trans hZ.out;have z0c:=z2.cell 0 (by decide);have z1c:=z2.cell 1 (by decide);have z2c:=z2.cell 2 (by decide);have z3c:=z2.cell 3 (by decide);have hW2:=lhi (hW.out.drew.trans (hb2.mono hW.out.size));replace z2:=lhi z2))
  all_goals
   go_wp2_with (first
    | (refine wpList_load_row rfl 41 (.tmp 1) rfl w.heap.size rfl 41 _ (0,0) _ z2.out Tryz.underlying41 rfl (set_size _) ?_)
    | (go_at_call 81;refine (not_set f _).mono ?_;rintro e w3 ⟨rfl,hb3⟩;have hW3:=lhi (hW2.out.trans (hb3.mono hW2.out.size)))
    | (go_at_call 104;refine (rows_any (negF f) _).mono ?_;rintro e w4 ⟨v,ss,rfl,hss,hsl,hown,hb4⟩;have hW4:=lhi (hW3.out.trans (hb4.mono hW3.out.size));have hC:=lhi (closed_any hown hss hsl [91,94] (by decide)))
    | (go_at_call 103;refine (hC.out).mono ?_;rintro e w5 ⟨u,rfl,htx,hb5⟩))
   go_ret
   exact ⟨u,rfl,htx,hW4.out.trans (hb5.mono hW4.out.size)⟩
 | false =>
  have hs : sameS f (ofL []) = false:=hv
  clear hv
  go_enter Tryz.func83,Tryz.ntmps83
  go_wp2
  go_region_with ((go_at_call 82;refine (of_any none 0 0 [] 0 _ rfl (nlr _) (by decide) (Nat.zero_le _) (Byt.none_ _ _ _)).mono ?_;rintro e w2 ⟨rfl,hb2⟩;have z2 : SetAt w2 w.heap.size f:=(hb2.block w.heap.size hZ.out.lt).trans hZ.out;have z0c:=z2.cell 0 (by decide);have z1c:=z2.cell 1 (by decide);have z2c:=z2.cell 2 (by decide);have z3c:=z2.cell 3 (by decide);have hW2:=lhi (hW.out.drew.trans (hb2.mono hW.out.size));replace z2:=lhi z2))
  all_goals
   go_wp2_with (first
    | (refine wpList_load_row rfl 41 (.tmp 1) rfl w.heap.size rfl 41 _ (0,0) _ z2.out Tryz.underlying41 rfl (set_size _) ?_)
    | (go_at_call 104;refine (rows_any f _).mono ?_;rintro e w4 ⟨v,ss,rfl,hss,hsl,hown,hb4⟩;have hW4:=lhi (hW2.out.trans (hb4.mono hW2.out.size));have hC:=lhi (closed_any hown hss hsl [91] (by decide)))
    | (go_at_call 103;refine (hC.out).mono ?_;rintro e w5 ⟨u,rfl,htx,hb5⟩))
   go_ret
   exact ⟨u,rfl,htx,hW4.out.trans (hb5.mono hW4.out.size)⟩
end Go.Proofs.YtonjnagcdnmcpaaGreatDoor
namespace Go.Proofs.YtonjnagcdnmcpaaGreatDoor
open Go.RowKit
def dEnd (l : List UInt8) (k : Nat) : Nat:=k + ((l.drop k).takeWhile fun c => cDigit c.toNat).length
theorem dEnd_stop {l : List UInt8} {k : Nat} (h : l.length ≤ k) : dEnd l k = k:=by
 unfold dEnd
 rw [List.drop_eq_nil_of_le h];rfl
theorem dEnd_no {l : List UInt8} {k : Nat} (h : k < l.length) (hd : cDigit ((l[k]'h).toNat : Int) = false) : dEnd l k = k:=by
 unfold dEnd
 rw [List.drop_eq_getElem_cons h,List.takeWhile_cons_of_neg (by rw [hd];decide)];rfl
theorem dEnd_yes {l : List UInt8} {k : Nat} (h : k < l.length) (hd : cDigit ((l[k]'h).toNat : Int) = true) : dEnd l k = dEnd l (k + 1):=by
 unfold dEnd
 rw [List.drop_eq_getElem_cons h,List.takeWhile_cons_of_pos (by rw [hd]),List.length_cons];omega
theorem dEnd_le {l : List UInt8} {k : Nat} (h : k ≤ l.length) : dEnd l k ≤ l.length:=by
 have h1:=(List.takeWhile_prefix (l:=l.drop k) (fun c : UInt8 => cDigit c.toNat)).length_le
 rw [List.length_drop] at h1
 unfold dEnd;omega
theorem dEnd_ge (l : List UInt8) (k : Nat) : k ≤ dEnd l k:=by unfold dEnd;omega
theorem mem_takeWhile_p {α : Type} {p : α → Bool} {c : α} : ∀ {l : List α},c ∈ l.takeWhile p → p c = true
 | x :: r,h => by
  by_cases hx : p x = true
  · rw [List.takeWhile_cons_of_pos hx] at h
    rcases List.mem_cons.1 h with h | h
    · rw [h];exact hx
    · exact mem_takeWhile_p h
  · rw [List.takeWhile_cons_of_neg hx] at h;cases h
theorem dEnd_digits (l : List UInt8) (k : Nat) : ∀ c ∈ (l.take (dEnd l k)).drop k,cDigit c.toNat = true:=by
 intro c hc
 have h : (l.take (dEnd l k)).drop k = (l.drop k).takeWhile fun c => cDigit c.toNat:=by
  unfold dEnd
  rw [List.drop_take,Nat.add_sub_cancel_left]
  exact (List.prefix_iff_eq_take.1 (List.takeWhile_prefix _)).symm
 rw [h] at hc
 exact mem_takeWhile_p (p:=fun c : UInt8 => cDigit c.toNat) hc
theorem digitsEnd_any (A : Option Addr) (cap : Nat) (l : List UInt8) (n a : Nat) (B : Nat) (w : World) (hn : n = l.length) (hr : Byt w B A l) (ha : a ≤ n) (hl : n ≤ maxLen) :
    Calls Tryz.prog 132 #[.slice A n cap,.int .i64 (a : Int)] w fun e w' => e = .returned (.int .i64 (dEnd l a : Nat)) ∧ w = w':=by
 unfold maxLen at hl
 have hr:=lhi hr
 have hN:=lhi hn
 clear hn
 go_enter Tryz.func132,Tryz.ntmps132
 go_wp2
 go_loop [1] (fun i => ∃ k : Nat,k ≤ n ∧ i = .int .i64 (k : Int) ∧ Hid (dEnd l a = dEnd l k)) (fun i => n - (intOf i).toNat)
 case atStart => exact ⟨a,by omega,rfl,rfl⟩
 case round =>
  obtain ⟨k,hk,rfl,hq⟩:=hrel
  by_cases hlt : k < n
  · obtain ⟨ad,hA,hb,hc⟩:=hr.out.at_ (k:=k) (by rw [← hN.out];exact hlt)
    subst hA
    go_wp2_with (go_at_call 151;refine (isDigit_any _ _).mono ?_;rintro e w' ⟨rfl,rfl⟩)
    · go_round
      case rel => exact ⟨k + 1,by omega,by go_num,by rw [hq.out];exact dEnd_yes (by rw [← hN.out];exact hlt) (by assumption)⟩
      case measure => simp [intOf];omega
    · go_ret
      exact ⟨ret_int (by rw [hq.out,dEnd_no (by rw [← hN.out];exact hlt) (by assumption)]),rfl⟩
  · go_wp2
    go_ret
    exact ⟨ret_int (by rw [hq.out,dEnd_stop (by rw [← hN.out];omega)]),rfl⟩
def valS (most : Int) : List UInt8 → Int → Option Int
 | [],n => some n
 | c :: r,n => if n * 10 + ((c.toNat : Int) - 48) ≤ most then valS most r (n * 10 + ((c.toNat : Int) - 48)) else none
def valR (o : Option Int) : Ending:=.returned (.tuple #[.int .i64 (o.getD 0),.bool o.isSome])
theorem valR_none : valR none = .returned (.tuple #[.int .i64 0,.bool false]):=rfl
theorem valR_some (x : Int) : valR (some x) = .returned (.tuple #[.int .i64 x,.bool true]):=rfl
theorem cDigit_bd {c : UInt8} (h : cDigit c.toNat = true) : 48 ≤ (c.toNat : Int) ∧ (c.toNat : Int) ≤ 57:=by
 simpa [cDigit,isW] using h
theorem value_any (A : Option Addr) (cap : Nat) (l : List UInt8) (n : Nat) (most : Int) (B : Nat) (w : World) (hn : n = l.length) (hr : Byt w B A l) (hl : n ≤ maxLen) (hd : ∀ c ∈ l,cDigit c.toNat = true)
    (hm1 : -9223372036854775808 ≤ most) (hm : most ≤ 9223372036854775807) :
    Calls Tryz.prog 133 #[.slice A n cap,.int .i64 most] w fun e w' => e = valR (valS most l 0) ∧ w = w':=by
 unfold maxLen at hl
 have hr:=lhi hr
 have hN:=lhi hn
 have hD:=lhi hd
 clear hn hd
 go_enter Tryz.func133,Tryz.ntmps133
 go_wp2
 go_loop [6,12] (fun m i => ∃ (k : Nat) (x : Int),k ≤ n ∧ 0 ≤ x ∧ x ≤ 9223372036854775807 ∧ i = .int .i64 (k : Int) ∧ m = .int .i64 x ∧ Hid (valS most l 0 = valS most (l.drop k) x)) (fun _ i => n - (intOf i).toNat)
 case atStart => exact ⟨0,0,by omega,by omega,by omega,rfl,rfl,rfl⟩
 case round =>
  obtain ⟨k,x,hk,hx0,hx1,rfl,rfl,hq⟩:=hrel
  by_cases hlt : k < n
  · have hlk : k < l.length:=by rw [← hN.out];exact hlt
    obtain ⟨ad,hA,hb,hc⟩:=hr.out.at_ hlk
    subst hA
    have hst : Hid (valS most (l.drop k) x = if x * 10 + (((l[k]'hlk).toNat : Int) - 48) ≤ most then valS most (l.drop (k + 1)) (x * 10 + (((l[k]'hlk).toNat : Int) - 48)) else none):=by
     rw [List.drop_eq_getElem_cons hlk];rfl
    have hdd:=cDigit_bd (hD.out _ (List.getElem_mem hlk))
    generalize l[k]'hlk = c at *
    obtain ⟨d,hd⟩ : ∃ d : Int,(c.toNat : Int) = d:=⟨_,rfl⟩
    rw [hd] at hc hst hdd
    clear hd
    by_cases h1 : d - 48 ≤ most
    · by_cases h2 : x ≤ (most - (d - 48)) / 10
      · go_wp2
        go_round
        case rel => exact ⟨k + 1,10 * x + (d - 48),by omega,by omega,by omega,by go_num,rfl,by rw [hq.out,hst.out,if_pos (by omega)];exact congrArg _ (by omega)⟩
        case measure => simp [intOf];omega
      · go_wp2
        go_ret2
        exact ⟨by rw [hq.out,hst.out,if_neg (by omega)];rfl,rfl⟩
    · go_wp2
      go_ret2
      exact ⟨by rw [hq.out,hst.out,if_neg (by omega)];rfl,rfl⟩
  · go_wp2
    go_ret2
    exact ⟨by rw [hq.out,List.drop_eq_nil_of_le (by rw [← hN.out];omega)];rfl,rfl⟩
def numS (l : List UInt8) (a most : Int) : Int × Int × Int :=
 if a < 0 ∨ (l.length : Int) < a then (0,0,1)
 else if dEnd l a.toNat = a.toNat then (0,0,9)
 else match valS most ((l.take (dEnd l a.toNat)).drop a.toNat) 0 with
  | none => (0,0,3)
  | some v => (v,dEnd l a.toNat,0)
def three (x : Int × Int × Int) : Ending:=.returned (.tuple #[.int .i64 x.1,.int .i64 x.2.1,.int .i64 x.2.2])
theorem num_any (A : Option Addr) (cap : Nat) (l : List UInt8) (n : Nat) (a most : Int) (B : Nat) (w : World) (hn : n = l.length) (hr : Byt w B A l) (hl : n ≤ maxLen) (hcap : n ≤ cap)
    (hm1 : -9223372036854775808 ≤ most) (hm : most ≤ 9223372036854775807) :
    Calls Tryz.prog 118 #[.slice A n cap,.int .i64 a,.int .i64 most] w fun e w' => e = three (numS l a most) ∧ w = w':=by
 have hl':=hl
 unfold maxLen at hl
 by_cases h1 : 0 ≤ a
 · obtain ⟨j,rfl⟩:=Int.eq_ofNat_of_zero_le h1
   by_cases h2 : j ≤ n
   · have hle:=dEnd_le (l:=l) (k:=j) (by omega)
     have hge:=dEnd_ge l j
     have hle2 : dEnd l j ≤ n:=by omega
     have HF:=lhi (digitsEnd_any A cap l n j B w hn hr h2 hl')
     by_cases h3 : dEnd l j = j
     · have hz : numS l j most = (0,0,9):=by
         unfold numS;rw [if_neg (by omega),if_pos (by simpa using h3)]
       rw [hz]
       rw [h3] at HF
       clear hz hle hge hle2 hn h3 hr hl'
       go_enter Tryz.func118,Tryz.ntmps118
       go_wp2_with (go_at_call 132;refine (HF.out).mono ?_;rintro e w' ⟨rfl,rfl⟩)
       go_ret3
       exact ⟨rfl,rfl⟩
     · have hdig : ∀ c ∈ (l.take (dEnd l j)).drop j,cDigit c.toNat = true:=dEnd_digits l j
       have hlen : ((l.take (dEnd l j)).drop j).length = dEnd l j - j:=by rw [List.length_drop,List.length_take];omega
       have hcj : ¬ cap = j:=by omega
       obtain ⟨ad,hA,-⟩:=hr.at_ (k:=j) (by omega)
       subst hA
       have hb:=hr.cut (i:=j) hle (by omega : l.length ≤ cap)
       rw [if_neg hcj] at hb
       have HV : Hid (∀ cap' : Nat,Calls Tryz.prog 133 #[.slice (some (ad.add j)) (dEnd l j - j : Nat) cap',.int .i64 most] w fun e w' => e = valR (valS most ((l.take (dEnd l j)).drop j) 0) ∧ w = w') :=
        lhi fun cap' => value_any _ cap' ((l.take (dEnd l j)).drop j) (dEnd l j - j) most B w hlen.symm hb (by unfold maxLen;omega) hdig hm1 hm
       have hz : numS l j most = match valS most ((l.take (dEnd l j)).drop j) 0 with | none => (0,0,3) | some v => (v,(dEnd l j : Int),0):=by
        unfold numS;rw [if_neg (by omega),if_neg (by simpa using h3)];rfl
       rw [hz]
       clear hz hdig hlen hr hl' hb
       have hne : ((dEnd l j : Int) == (j : Int)) = false:=by simp;omega
       generalize valS most ((l.take (dEnd l j)).drop j) 0 = ov at *
       generalize dEnd l j = d at *
       clear hn h3
       cases ov with
       | none =>
        go_enter Tryz.func118,Tryz.ntmps118
        go_wp2_with (first
         | (go_at_call 132;refine (HF.out).mono ?_;rintro e w' ⟨rfl,rfl⟩)
         | (go_at_call 133;refine (HV.out _).mono ?_;rintro e w' ⟨he,rfl⟩;rw [valR_none] at he;subst he))
        go_ret3
        exact ⟨rfl,rfl⟩
       | some v =>
        go_enter Tryz.func118,Tryz.ntmps118
        go_wp2_with (first
         | (go_at_call 132;refine (HF.out).mono ?_;rintro e w' ⟨rfl,rfl⟩)
         | (go_at_call 133;refine (HV.out _).mono ?_;rintro e w' ⟨he,rfl⟩;rw [valR_some] at he;subst he))
        go_ret3
        exact ⟨rfl,rfl⟩
   · have hz : numS l j most = (0,0,1):=by unfold numS;rw [if_pos (by omega)]
     rw [hz]
     clear hz hn hr
     go_enter Tryz.func118,Tryz.ntmps118
     go_wp2
     go_ret3
     exact ⟨rfl,rfl⟩
 · have hz : numS l a most = (0,0,1):=by unfold numS;rw [if_pos (by omega)]
   rw [hz]
   clear hz hn hr
   go_enter Tryz.func118,Tryz.ntmps118
   go_wp2
   go_ret3
   exact ⟨rfl,rfl⟩
def numF : List UInt8 → Int → Int
 | [],n => n
 | c :: r,n => numF r (n * 10 + ((c.toNat : Int) - 48))
theorem numF_ge : ∀ (l : List UInt8) (n : Int),0 ≤ n → (∀ c ∈ l,cDigit c.toNat = true) → n ≤ numF l n
 | [],n,_,_ => Int.le_refl _
 | c :: r,n,h,hd => by
  have hc:=cDigit_bd (hd c (by simp))
  have:=numF_ge r (n * 10 + ((c.toNat : Int) - 48)) (by omega) (fun x hx => hd x (List.mem_cons_of_mem _ hx))
  rw [numF];omega
theorem valS_eq (most : Int) : ∀ (l : List UInt8) (n : Int),0 ≤ n → (∀ c ∈ l,cDigit c.toNat = true) → (n ≤ most ∨ l ≠ []) →
    valS most l n = if numF l n ≤ most then some (numF l n) else none
 | [],n,_,_,h => by
  rcases h with h | h
  · rw [numF,if_pos h];rfl
  · exact absurd rfl h
 | c :: r,n,h0,hd,_ => by
  have hc:=cDigit_bd (hd c (by simp))
  have hr : ∀ x ∈ r,cDigit x.toNat = true:=fun x hx => hd x (List.mem_cons_of_mem _ hx)
  by_cases h1 : n * 10 + ((c.toNat : Int) - 48) ≤ most
  · rw [valS,if_pos h1,numF]
    exact valS_eq most r _ (by omega) hr (.inl h1)
  · have:=numF_ge r (n * 10 + ((c.toNat : Int) - 48)) (by omega) hr
    rw [valS,if_neg h1,numF,if_neg (by omega)]
theorem numF_snoc : ∀ (l : List UInt8) (c : UInt8) (n : Int),numF (l ++ [c]) n = numF l n * 10 + ((c.toNat : Int) - 48)
 | [],_,_ => rfl
 | x :: r,c,n => by rw [List.cons_append,numF,numF,numF_snoc r c]
theorem take_drop_snoc (l : List UInt8) (a k : Nat) (h : a ≤ k) (hk : k < l.length) : (l.take (k + 1)).drop a = (l.take k).drop a ++ [l[k]'hk]:=by
 rw [List.take_succ_eq_append_getElem hk,List.drop_append_of_le_length (by rw [List.length_take];omega)]
def RefAt (v : Int) (n : Int) (over : Bool) : Prop:=0 ≤ n ∧ n ≤ 9223372036854775807 ∧ ((over = false ∧ v = n) ∨ (over = true ∧ 9223372036854775807 < v))
theorem refAt_more {v x d : Int} {o : Bool} (h : RefAt v x o) (h0 : 0 ≤ d) (h1 : x * 10 + d ≤ 9223372036854775807) : RefAt (v * 10 + d) (x * 10 + d) o:=by
 obtain ⟨a,b,c | c⟩:=h
 · exact ⟨by omega,h1,.inl ⟨c.1,by rw [c.2]⟩⟩
 · exact ⟨by omega,h1,.inr ⟨c.1,by omega⟩⟩
theorem refAt_over {v x d : Int} {o : Bool} (h : RefAt v x o) (h0 : 0 ≤ d) (h1 : 9223372036854775807 < x * 10 + d) : RefAt (v * 10 + d) x true:=by
 obtain ⟨a,b,c | c⟩:=h
 · exact ⟨a,b,.inr ⟨rfl,by omega⟩⟩
 · exact ⟨a,b,.inr ⟨rfl,by omega⟩⟩
theorem digits_end {l : List UInt8} {a : Nat} (ha : a ≤ l.length) : dEnd l a ≤ l.length ∧ a ≤ dEnd l a:=⟨dEnd_le ha,dEnd_ge l a⟩
theorem numS_end {l : List UInt8} {a j : Nat} {x most : Int} {o : Bool} (ha : a ≤ l.length) (hj : dEnd l a = j) (hx : RefAt (numF ((l.take j).drop a) 0) x o) (hm : most ≤ 9223372036854775807) :
    numS l a most = if j = a then (0,0,9) else if o = true ∨ most < x then (0,0,3) else (x,(j : Int),0):=by
 unfold numS
 rw [if_neg (by omega),Int.toNat_natCast,hj]
 by_cases h1 : j = a
 · rw [if_pos h1,if_pos h1]
 · rw [if_neg h1,if_neg h1]
   have hdig:=dEnd_digits l a
   rw [hj] at hdig
   have hb:=digits_end ha
   rw [hj] at hb
   have hne : (l.take j).drop a ≠ []:=by
    intro h
    have:=congrArg List.length h
    rw [List.length_drop,List.length_take,List.length_nil] at this
    omega
   rw [valS_eq most _ 0 (Int.le_refl _) hdig (.inr hne)]
   obtain ⟨p,q,c | c⟩:=hx
   · rw [c.2]
     by_cases h2 : x ≤ most
     · rw [if_pos h2,if_neg (by rw [c.1];simp;omega)]
     · rw [if_neg h2,if_pos (.inr (by omega))]
   · rw [if_neg (by omega),if_pos (.inl c.1)]
theorem end_a {l : List UInt8} {a j : Nat} {x most : Int} {o : Bool} (h : numS l a most = if j = a then (0,0,9) else if o = true ∨ most < x then (0,0,3) else (x,(j : Int),0)) (h1 : ((j : Int) == (a : Int)) = true) :
    Ending.returned (.tuple #[.int .i64 0,.int .i64 0,.int .i64 9]) = three (numS l a most):=by
 rw [h,if_pos (by simp at h1;omega)];rfl
theorem end_3 {l : List UInt8} {a j : Nat} {x most : Int} {o : Bool} (h : numS l a most = if j = a then (0,0,9) else if o = true ∨ most < x then (0,0,3) else (x,(j : Int),0)) (h1 : ((j : Int) == (a : Int)) = false)
    (h2 : o = true ∨ most < x) : Ending.returned (.tuple #[.int .i64 0,.int .i64 0,.int .i64 3]) = three (numS l a most):=by
 rw [h,if_neg (by simp at h1;omega),if_pos h2];rfl
theorem end_v {l : List UInt8} {a j : Nat} {x most : Int} {o : Bool} (h : numS l a most = if j = a then (0,0,9) else if o = true ∨ most < x then (0,0,3) else (x,(j : Int),0)) (h1 : ((j : Int) == (a : Int)) = false)
    (h2 : ¬ o = true) (h3 : x ≤ most) : Ending.returned (.tuple #[.int .i64 x,.int .i64 (j : Int),.int .i64 0]) = three (numS l a most):=by
 rw [h,if_neg (by simp at h1;omega),if_neg (by rintro (k | k);exact h2 k;omega)];rfl
def RefRel (l : List UInt8) (a N : Nat) (k n ov : Value) : Prop:=∃ (j : Nat) (x : Int) (o : Bool),a ≤ j ∧ j ≤ N ∧ k = .int .i64 (j : Int) ∧ n = .int .i64 x ∧ ov = .bool o ∧ Hid (dEnd l a = dEnd l j) ∧ Hid (RefAt (numF ((l.take j).drop a) 0) x o)
theorem RefRel.mk {l : List UInt8} {a N : Nat} {k n ov : Value} (h : ∃ (j : Nat) (x : Int) (o : Bool),a ≤ j ∧ j ≤ N ∧ k = .int .i64 (j : Int) ∧ n = .int .i64 x ∧ ov = .bool o ∧ Hid (dEnd l a = dEnd l j) ∧ Hid (RefAt (numF ((l.take j).drop a) 0) x o)) : RefRel l a N k n ov:=h
theorem refNum_in (A : Option Addr) (cap : Nat) (l : List UInt8) (N a : Nat) (most : Int) (B : Nat) (w : World) (hn : N = l.length) (hr : Byt w B A l) (hl : N ≤ maxLen) (ha : a ≤ N)
    (hm : most ≤ 9223372036854775807) :
    Calls Tryz.prog 99 #[.slice A N cap,.int .i64 (a : Int),.int .i64 most] w fun e w' => e = three (numS l a most) ∧ w = w':=by
 unfold maxLen at hl
 have hR:=lhi hr
 have hN:=lhi hn
 clear hr hn
 go_enter Tryz.func99,Tryz.ntmps99
 go_wp2
 go_loop [9,10,11] (fun k n ov => RefRel l a N k n ov) (fun k _ _ => N - (intOf k).toNat)
 case atStart => exact RefRel.mk (l:=l) (a:=a) (N:=N) ⟨a,0,false,nlr _,ha,rfl,rfl,rfl,rfl,lhi (by rw [List.drop_eq_nil_of_le (by rw [List.length_take];omega)];exact ⟨by omega,by omega,.inl ⟨rfl,rfl⟩⟩)⟩
 case round =>
  obtain ⟨j,x,o,hj1,hj2,rfl,rfl,rfl,hq,hx⟩:=hrel
  have hx0:=hx.out.1
  have hx1:=hx.out.2.1
  by_cases hlt : j < N
  · have hlk : j < l.length:=by rw [← hN.out];exact hlt
    obtain ⟨ad,hA,hb,hc⟩:=hR.out.at_ hlk
    subst hA
    have hsn:=lhi (take_drop_snoc l a j hj1 hlk)
    have hyes : Hid (cDigit ((l[j]'hlk).toNat : Int) = true → dEnd l j = dEnd l (j + 1)):=lhi (dEnd_yes hlk)
    have hno : Hid (cDigit ((l[j]'hlk).toNat : Int) = false → dEnd l j = j):=lhi (dEnd_no hlk)
    generalize l[j]'hlk = c at *
    have hnx : Hid (numF ((l.take (j + 1)).drop a) 0 = numF ((l.take j).drop a) 0 * 10 + ((c.toNat : Int) - 48)):=lhi (by rw [hsn.out,numF_snoc])
    obtain ⟨d,hd⟩ : ∃ d : Int,(c.toNat : Int) = d:=⟨_,rfl⟩
    rw [hd] at hc hyes hno hnx
    have hd0 : 0 ≤ d:=by omega
    have hd1 : d ≤ 255:=by have:=c.toNat_lt;omega
    clear hd hsn
    by_cases h1 : 48 ≤ d
    · by_cases h2 : d ≤ 57
      · have hy:=lhi (hyes.out (isW_in h1 h2))
        clear hyes hno
        by_cases h3 : 922337203685477580 < x
        · go_wp2
          go_round
          case rel => exact RefRel.mk (l:=l) (a:=a) (N:=N) ⟨j + 1,x,true,by omega,by omega,by go_num,rfl,rfl,by rw [hq.out];exact hy,by rw [hnx.out];exact refAt_over hx.out (by omega) (by omega)⟩
          case measure => simp [intOf];omega
        · by_cases h4 : 922337203685477580 ≤ x
          · obtain rfl : x = 922337203685477580:=by omega
            clear h3 h4
            by_cases h5 : 7 < d - 48
            · go_wp2
              go_round
              case rel => exact RefRel.mk (l:=l) (a:=a) (N:=N) ⟨j + 1,922337203685477580,true,by omega,by omega,by go_num,rfl,rfl,by rw [hq.out];exact hy,by rw [hnx.out];exact refAt_over hx.out (by omega) (by omega)⟩
              case measure => simp [intOf];omega
            · go_wp2
              go_round
              case rel => exact RefRel.mk (l:=l) (a:=a) (N:=N) ⟨j + 1,922337203685477580 * 10 + (d - 48),o,by omega,by omega,by go_num,by go_num,rfl,by rw [hq.out];exact hy,by rw [hnx.out];exact refAt_more hx.out (by omega) (by omega)⟩
              case measure => simp [intOf];omega
          · have h4' : x < 922337203685477580:=by omega
            have hne : (x == 922337203685477580) = false:=by simp;omega
            clear h4 h3
            go_wp2
            go_round
            case rel => exact ⟨_,_,_,RefRel.mk (l:=l) (a:=a) (N:=N) ⟨j + 1,x * 10 + (d - 48),o,by omega,by omega,rfl,rfl,rfl,by rw [hq.out];exact hy,by rw [hnx.out];exact refAt_more hx.out (by omega) (by omega)⟩,by go_num,rfl,rfl⟩
            case measure => simp [intOf];omega
      · have hy:=lhi (hno.out (isW_hi (by omega)))
        clear hyes hno hnx
        go_wp2
        all_goals
         go_ret3
         refine ⟨?_,rfl⟩
         have hS:=numS_end (by rw [← hN.out];exact ha) (hq.out.trans hy.out) hx.out hm
         first | exact end_a hS (by assumption) | exact end_3 hS (by assumption) (.inl (by assumption)) | exact end_3 hS (by assumption) (.inr (by assumption)) | exact end_v hS (by assumption) (by assumption) (by assumption)
    · have hy:=lhi (hno.out (isW_lo (by omega)))
      clear hyes hno hnx
      go_wp2
      all_goals
       go_ret3
       refine ⟨?_,rfl⟩
       have hS:=numS_end (by rw [← hN.out];exact ha) (hq.out.trans hy.out) hx.out hm
       first | exact end_a hS (by assumption) | exact end_3 hS (by assumption) (.inl (by assumption)) | exact end_3 hS (by assumption) (.inr (by assumption)) | exact end_v hS (by assumption) (by assumption) (by assumption)
  · have hy:=lhi (dEnd_stop (l:=l) (k:=j) (by rw [← hN.out];omega))
    go_wp2
    all_goals
     go_ret3
     refine ⟨?_,rfl⟩
     have hS:=numS_end (by rw [← hN.out];exact ha) (hq.out.trans hy.out) hx.out hm
     first | exact end_a hS (by assumption) | exact end_3 hS (by assumption) (.inl (by assumption)) | exact end_3 hS (by assumption) (.inr (by assumption)) | exact end_v hS (by assumption) (by assumption) (by assumption)
theorem refNum_any (A : Option Addr) (cap : Nat) (l : List UInt8) (N : Nat) (a most : Int) (B : Nat) (w : World) (hn : N = l.length) (hr : Byt w B A l) (hl : N ≤ maxLen) (hm : most ≤ 9223372036854775807) :
    Calls Tryz.prog 99 #[.slice A N cap,.int .i64 a,.int .i64 most] w fun e w' => e = three (numS l a most) ∧ w = w':=by
 by_cases h1 : 0 ≤ a
 · obtain ⟨j,rfl⟩:=Int.eq_ofNat_of_zero_le h1
   by_cases h2 : j ≤ N
   · exact refNum_in A cap l N j most B w hn hr hl h2 hm
   · have hz : numS l j most = (0,0,1):=by unfold numS;rw [if_pos (by omega)]
     rw [hz]
     unfold maxLen at hl
     clear hz hn hr
     go_enter Tryz.func99,Tryz.ntmps99
     go_wp2
     go_ret3
     exact ⟨rfl,rfl⟩
 · have hz : numS l a most = (0,0,1):=by unfold numS;rw [if_pos (by omega)]
   rw [hz]
   clear hz hn hr hl
   go_enter Tryz.func99,Tryz.ntmps99
   go_wp2
   go_ret3
   exact ⟨rfl,rfl⟩
end Go.Proofs.YtonjnagcdnmcpaaGreatDoor
