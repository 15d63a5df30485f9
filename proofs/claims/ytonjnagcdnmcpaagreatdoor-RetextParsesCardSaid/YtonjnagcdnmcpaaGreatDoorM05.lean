/- Contracts and plain facts: M05. -/
import Derived.Test.YtonjnagcdnmcpaaGreatDoorM04
import Derived.Lib.SlBytesConst
import Derived.Lib.ConvBytes
import Derived.Deep.WholeRow
set_option linter.unusedVariables false
set_option linter.unusedSimpArgs false
set_option maxRecDepth 100000
set_option maxHeartbeats 32000000
namespace Go.Proofs.YtonjnagcdnmcpaaGreatDoor
open Go.RowKit
def Inp (w : World) (A : Option Addr) (n c : Nat) (l : List UInt8) : Prop :=
 n = l.length ∧ n ≤ c ∧ c ≤ maxLen ∧ n ≤ 1000000 ∧ Byt w w.heap.size A l ∧ ∃ m : Int,0 < w.heap.size ∧ w.cell? ⟨0,0,none⟩ = some (.int .i64 m)
section
variable {w w' : World} {A : Option Addr} {n c : Nat} {l : List UInt8}
theorem Inp.grow (h : Inp w A n c l) (hb : Below w.heap.size w w') : Inp w' A n c l:=by
 obtain ⟨h1,h2,h3,h4,h5,m,h6,h7⟩:=h
 exact ⟨h1,h2,h3,h4,(h5.below hb).more hb.size,m,nll h6 hb.size,(hb.cell (p:=⟨0,0,none⟩) h6).trans h7⟩
theorem Inp.alloc (h : Inp w A n c l) (o : Obj) : Inp (w.alloc o) A n c l:=h.grow ((Below.refl _ _).alloc (nlr _) _)
theorem Inp.cut (h : Inp w A n c l) {i j : Nat} (hj : j ≤ n) (hi : i ≤ j) : Inp w (if c = i then A else A.map (·.add i)) (j - i) (c - i) ((l.take j).drop i):=by
 obtain ⟨h1,h2,h3,h4,h5,h6⟩:=h
 exact ⟨by rw [List.length_drop,List.length_take];omega,by omega,by omega,by omega,h5.cut (by omega) (by omega),h6⟩
theorem Inp.drop (h : Inp w A n c l) {i : Nat} (hi : i ≤ n) : Inp w (if c = i then A else A.map (·.add i)) (n - i) (c - i) (l.drop i):=by
 have:=h.cut (nlr n) hi
 rwa [List.take_of_length_le (by have:=h.1;omega)] at this
end
theorem conv_bytes (w : World) (s : ByteArray) : ∃ cp w1,(convert 9 22 (.string s)).run Tryz.prog w = .ok (.slice (some ⟨w.heap.size,0,none⟩) s.size cp) w1 ∧ Byt w1 w1.heap.size (some ⟨w.heap.size,0,none⟩) s.data.toList ∧ Below w.heap.size w w1 ∧ s.size ≤ cp:=by
 refine ⟨_,_,Lib.run_convert_string_bytes (P:=Tryz.prog) w 9 22 5 s Tryz.underlying9 Tryz.underlying22 Tryz.underlying5,fun k hk => ?_,⟨rfl,rfl,rfl,by rw [Lib.bytesWorld_size];omega,fun k hk => Lib.bytesWorld_at_old _ _ _ _ hk⟩,grownCap_ge _ _ _ _⟩
 refine ⟨_,rfl,by rw [Lib.bytesWorld_size];exact Nat.lt_succ_self _,?_⟩
 rw [add_zero_off,Lib.bytesWorld_cell _ _ _ _ (by rw [len_toList] at hk;exact hk)]
 simp [List.getD,List.getElem?_eq_getElem hk]
theorem Byt.bytesIn' {w : World} {B : Nat} {A : Option Addr} {l : List UInt8} (h : Byt w B A l) : Lib.BytesIn w A l.length (ints l):=by
 cases A with
 | none => obtain rfl:=h.none_nil;exact Lib.BytesIn.nil _ _ _
 | some a => exact Lib.BytesIn.of_cells h.cells
theorem hasPrefix_any (A A2 : Option Addr) (n c m d : Nat) (l s : List UInt8) (B B2 : Nat) (w : World) (hn : n = l.length) (hnc : n ≤ c) (hm : m = s.length) (h : Byt w B A l) (h2 : Byt w B2 A2 s) :
    Calls Tryz.prog 91 #[.slice A n c,.slice A2 m d] w fun e w' => e = .returned (.bool (bg s l)) ∧ w = w':=by
 subst hn
 subst hm
 refine (Tryz.bytes_HasPrefix_all A A2 l.length c s.length d (ints l) (ints s) w (ints_len l) (ints_len s) hnc h.bytesIn' h2.bytesIn').mono fun e w' ⟨he,hw⟩ => ⟨?_,hw.symm⟩
 rw [he,ints_bytes,ints_bytes];rfl
theorem begins_any (A : Option Addr) (n c : Nat) (l : List UInt8) (s : ByteArray) (w : World) (h : Inp w A n c l) :
    Calls Tryz.prog 146 #[.slice A n c,.string s] w fun e w' => e = .returned (.bool (bg s.data.toList l)) ∧ Below w.heap.size w w':=by
 obtain ⟨h1,h2,h3,h4,h5,h6⟩:=h
 obtain ⟨cp,w1,hcv,hs1,hb1,_⟩:=conv_bytes w s
 have hP:=lhi (hasPrefix_any A (some ⟨w.heap.size,0,none⟩) n c s.size cp l s.data.toList _ _ w1 h1 h2 (len_toList s).symm (h5.below hb1) hs1)
 have hb1':=lhi hb1
 clear h1 h2 h3 h4 h5 h6 hs1 hb1
 go_enter Tryz.func146,Tryz.ntmps146
 go_wp2_with (go_at_call 91;refine (hP.out).mono ?_;rintro e w' ⟨rfl,rfl⟩)
 go_ret
 exact ⟨rfl,hb1'.out⟩
theorem begins_is {A : Option Addr} {n c : Nat} {l : List UInt8} {w : World} (h : Inp w A n c l) (s : ByteArray) (b : Bool) (hb : bg s.data.toList l = b) :
    Calls Tryz.prog 146 #[.slice A n c,.string s] w fun e w' => e = .returned (.bool b) ∧ Below w.heap.size w w':=by
 subst hb;exact begins_any A n c l s w h
theorem joins_any {A : Option Addr} {n c : Nat} {l : List UInt8} {w : World} (h : Inp w A n c l) :
    Calls Tryz.prog 171 #[.slice A n c] w fun e w' => e = .returned (.bool (joins l)) ∧ Below w.heap.size w w':=by
 have h':=lhi h
 clear h
 unfold joins
 cases h1 : bg [45] l with
 | false =>
  replace h1:=lhi h1
  go_enter Tryz.func171,Tryz.ntmps171
  go_wp2_with (go_at_call 146;with_reducible show Calls _ _ #[_,Value.string {data:=#[45]}] _ _;refine (begins_is h'.out ⟨#[45]⟩ false h1.out).mono ?_;rintro e w1 ⟨rfl,hb1⟩)
  go_ret
  exact ⟨rfl,hb1⟩
 | true =>
  cases h2 : bg [45,93] l with
  | false =>
   replace h1:=lhi h1
   replace h2:=lhi h2
   go_enter Tryz.func171,Tryz.ntmps171
   go_wp2_with (first
    | (go_at_call 146;with_reducible show Calls _ _ #[_,Value.string {data:=#[45]}] _ _;refine (begins_is h'.out ⟨#[45]⟩ true h1.out).mono ?_;rintro e w1 ⟨rfl,hb1⟩)
    | (go_at_call 146;with_reducible show Calls _ _ #[_,Value.string {data:=#[45,93]}] _ _;refine (begins_is (h'.out.grow hb1) ⟨#[45,93]⟩ false h2.out).mono ?_;rintro e w2 ⟨rfl,hb2⟩))
   go_ret
   exact ⟨rfl,hb1.trans (hb2.mono hb1.size)⟩
  | true =>
   replace h1:=lhi h1
   replace h2:=lhi h2
   go_enter Tryz.func171,Tryz.ntmps171
   go_wp2_with (first
    | (go_at_call 146;with_reducible show Calls _ _ #[_,Value.string {data:=#[45]}] _ _;refine (begins_is h'.out ⟨#[45]⟩ true h1.out).mono ?_;rintro e w1 ⟨rfl,hb1⟩)
    | (go_at_call 146;with_reducible show Calls _ _ #[_,Value.string {data:=#[45,93]}] _ _;refine (begins_is (h'.out.grow hb1) ⟨#[45,93]⟩ true h2.out).mono ?_;rintro e w2 ⟨rfl,hb2⟩))
   go_ret
   exact ⟨rfl,hb1.trans (hb2.mono hb1.size)⟩
def idxV : Option Nat → Int
 | none => -1
 | some i => (i : Int)
theorem index_idx (sg : UInt8) (l : List UInt8) : Lib.index l [sg,93] = idxV (betw sg l):=by
 rw [index_betw]
 cases betw sg l <;> rfl
theorem index_any (A : Option Addr) (n c : Nat) (l : List UInt8) (sg : UInt8) (p : Nat) (d : Nat) (w : World) (h : Inp w A n c l) (h0 : w.cell? ⟨p,0,none⟩ = some (.int .u8 (sg.toNat : Int))) (h1 : w.cell? ⟨p,1,none⟩ = some (.int .u8 93)) :
    Calls Tryz.prog 177 #[.slice A n c,.slice (some ⟨p,0,none⟩) 2 d] w fun e w' => e = .returned (.int .i64 (idxV (betw sg l))) ∧ Below w.heap.size w w':=by
 obtain ⟨g1,g2,g3,g4,g5,m,g6,g7⟩:=h
 rw [← index_idx]
 subst g1
 have hI : ints [sg,93] = [(sg.toNat : Int),93]:=rfl
 cases A with
 | none =>
  obtain rfl:=g5.none_nil
  refine (Tryz.bytes_Index_longer none (some ⟨p,0,none⟩) 0 c 2 d w (by decide) (by decide) (by decide)).mono fun e w' ⟨he,hw⟩ => ⟨he,hw ▸ Below.refl _ _⟩
 | some a =>
  refine (Tryz.bytes_Index_at a ⟨p,0,none⟩ l.length c 2 d (ints l) (ints [sg,93]) m w (ints_len l) (ints_len _) ?_ ?_ g5.cells ?_ g2 (by omega) (by decide) g7).mono fun e w' ⟨he,q,hw⟩ => ⟨?_,hw ▸ below_drewN (Below.refl _ _) _⟩
  · intro x hx
    obtain ⟨y,_,rfl⟩:=List.mem_map.1 hx
    have:=y.toNat_lt
    omega
  · intro x hx
    obtain ⟨y,_,rfl⟩:=List.mem_map.1 hx
    have:=y.toNat_lt
    omega
  · intro i hi
    rw [add_zero_off]
    match i,hi with
    | 0,_ => exact h0
    | 1,_ => exact h1
  · rw [he,ints_bytes,ints_bytes]
theorem Inp.some_ {w : World} {A : Option Addr} {n c : Nat} {l : List UInt8} (h : Inp w A n c l) (hl : 0 < l.length) : ∃ ad,A = some ad:=by
 obtain ⟨ad,hA,_⟩:=h.2.2.2.2.1.at_ hl
 exact ⟨ad,hA⟩
theorem Inp.len {w : World} {A : Option Addr} {n c : Nat} {l : List UInt8} (h : Inp w A n c l) : n = l.length:=h.1
theorem Inp.cell {w : World} {ad : Addr} {n c : Nat} {l : List UInt8} (h : Inp w (some ad) n c l) {k : Nat} {x : UInt8} (hx : l[k]? = some x) : w.cell? (ad.add k) = some (.int .u8 (x.toNat : Int)) ∧ ad.block < w.heap.size:=by
 obtain ⟨hk,rfl⟩:=List.getElem?_eq_some_iff.1 hx
 obtain ⟨ad',hA,hb,hc⟩:=h.2.2.2.2.1.at_ hk
 obtain rfl:=Option.some.inj hA
 exact ⟨hc,hb⟩
theorem add_succ (a : Addr) (i : Nat) : a.add (i + 1) = ⟨a.block,a.off + (i + 1),none⟩:=by unfold Addr.add;split <;> simp_all
theorem between_index {ad : Addr} {n c : Nat} {l : List UInt8} {w : World} (h : Inp w (some ad) n c l) (sg : UInt8) (h2 : 2 ≤ n) (x : Option Nat) (hb : betw sg (l.drop 2) = x) :
    Calls Tryz.prog 177 #[.slice (if c = 2 then some ad else some ⟨ad.block,ad.off + 2,none⟩) (n - 2) (c - 2),.slice (some ⟨w.heap.size,0,none⟩) 2 2] (w.alloc (.cells #[.int .u8 (sg.toNat : Int),.int .u8 93] 5)).drew
     fun e w' => e = .returned (.int .i64 (idxV x)) ∧ Below w.heap.size w w':=by
 have hb1 : Below w.heap.size w (w.alloc (.cells #[.int .u8 (sg.toNat : Int),.int .u8 93] 5)).drew:=((Below.refl _ _).alloc (nlr _) _).drew
 have hx:=new_cells w [.int .u8 (sg.toNat : Int),.int .u8 93] 5
 have h0:=hx 0 _ rfl
 have h1:=hx 1 _ rfl
 rw [add_zero_off] at h0 h1
 subst hb
 have hd:=(h.drop h2).grow hb1
 rw [Option.map_some,add_succ ad 1] at hd
 refine (index_any _ _ _ _ sg w.heap.size 2 _ hd h0 h1).mono fun e w' ⟨he,hw⟩ => ⟨he,hb1.trans (hw.mono hb1.size)⟩
theorem between_none {A : Option Addr} {n c : Nat} {l : List UInt8} {w : World} (h : Inp w A n c l) (sg : UInt8) (hsg : l[1]? = some sg) (hb : betw sg (l.drop 2) = none) :
    Calls Tryz.prog 174 #[.slice A n c] w fun e w' => e = .returned (.tuple #[.slice none 0 0,.int .i64 0,.int .i64 11]) ∧ Below w.heap.size w w':=by
 have hl2 : 2 ≤ l.length:=(List.getElem?_eq_some_iff.1 hsg).1
 obtain ⟨ad,rfl⟩:=h.some_ (by omega)
 obtain ⟨hd,hdb⟩:=h.cell hsg
 rw [add_succ ad 0] at hd
 have hn:=h.len
 have h2n : 2 ≤ n:=by omega
 have hnc : n ≤ c:=h.2.1
 have hcm:=h.2.2.1
 unfold maxLen at hcm
 have hI:=lhi (between_index h sg h2n none hb)
 have hx:=sg.toNat_lt
 generalize sg.toNat = X at *
 clear hsg hb hl2 hn h
 by_cases hc : c = 2
 · subst hc
   obtain rfl : n = 2:=by omega
   rw [if_pos rfl] at hI
   go_enter Tryz.func174,Tryz.ntmps174
   go_wp2
   go_region_with ((go_at_call 177;refine (hI.out).mono ?_;rintro e w1 ⟨rfl,hb1⟩;simp only [idxV]))
   all_goals
    go_wp2
    go_ret3
    exact ⟨rfl,hb1⟩
 · rw [if_neg hc] at hI
   go_enter Tryz.func174,Tryz.ntmps174
   go_wp2
   go_region_with ((go_at_call 177;refine (hI.out).mono ?_;rintro e w1 ⟨rfl,hb1⟩;simp only [idxV]))
   all_goals
    go_wp2
    go_ret3
    exact ⟨rfl,hb1⟩
theorem between_some {ad : Addr} {n c : Nat} {l : List UInt8} {w : World} (h : Inp w (some ad) n c l) (sg : UInt8) (hsg : l[1]? = some sg) (i : Nat) (hb : betw sg (l.drop 2) = some i) :
    Calls Tryz.prog 174 #[.slice (some ad) n c] w fun e w' => e = .returned (.tuple #[.slice (some ⟨ad.block,ad.off + 2,none⟩) i (c - 2),.int .i64 ((i : Int) + 4),.int .i64 0]) ∧ Below w.heap.size w w':=by
 have hl2 : 2 ≤ l.length:=(List.getElem?_eq_some_iff.1 hsg).1
 obtain ⟨hd,hdb⟩:=h.cell hsg
 rw [add_succ ad 0] at hd
 have hn:=h.len
 have h2n : 2 ≤ n:=by omega
 have hnc : n ≤ c:=h.2.1
 have hcm:=h.2.2.1
 unfold maxLen at hcm
 have hI:=lhi (between_index h sg h2n (some i) hb)
 have hx:=sg.toNat_lt
 have hi:=betw_len hb
 rw [List.length_drop] at hi
 have hin : i + 4 ≤ n:=by omega
 have hns : n ≤ 1000000:=h.2.2.2.1
 generalize sg.toNat = X at *
 clear hsg hb hl2 hn h hi
 have hc : ¬ c = 2:=by omega
 rw [if_neg hc] at hI
 go_enter Tryz.func174,Tryz.ntmps174
 go_wp2
 go_region_with ((go_at_call 177;refine (hI.out).mono ?_;rintro e w1 ⟨rfl,hb1⟩;simp only [idxV]))
 all_goals
  go_wp2
  go_ret3
  refine ⟨?_,hb1⟩
  show Ending.returned (.tuple #[.slice (some ⟨ad.block,ad.off + 2,none⟩) (2 + i - 2) (c - 2),.int .i64 (2 + (i : Int) + 2),.int .i64 0]) = _
  rw [show 2 + i - 2 = i by omega,show 2 + (i : Int) + 2 = (i : Int) + 4 by omega]
def endA : Pc → Int
 | .one c _ => (c.toNat : Int)
 | _ => 0
def endB : Pc → Int
 | .one _ m => (m : Int)
 | _ => 0
def endC : Pc → Int
 | .bad e => (e : Int)
 | .one _ _ => 0
 | .cls _ _ => 3
theorem bg_second {x y : UInt8} {l : List UInt8} (h : bg [x,y] l = true) : l[0]? = some x ∧ l[1]? = some y:=by
 match l,h with
 | [],h => cases h
 | [_],h => simp [bg,List.isPrefixOf] at h
 | a :: b :: r,h =>
  simp only [bg_cons,bg_nil,Bool.and_true,Bool.and_eq_true,beq_iff_eq] at h
  simp [h.1,h.2]
theorem lone_any {A : Option Addr} {n c : Nat} {l : List UInt8} {w : World} (h : Inp w A n c l) (sg : UInt8) (hsg : l[1]? = some sg) :
    Calls Tryz.prog 176 #[.slice A n c] w fun e w' => e = .returned (.tuple #[.int .u8 (endA (loneP sg l)),.int .i64 (endB (loneP sg l)),.int .i64 (endC (loneP sg l))]) ∧ Below w.heap.size w w':=by
 unfold loneP
 cases hb : betw sg (l.drop 2) with
 | none =>
  have hI:=lhi (between_none h sg hsg hb)
  clear h hsg hb
  go_enter Tryz.func176,Tryz.ntmps176
  go_wp2_with (go_at_call 174;refine (hI.out).mono ?_;rintro e w1 ⟨rfl,hb1⟩)
  go_ret3
  exact ⟨rfl,hb1⟩
 | some i =>
  have hl2 : 2 ≤ l.length:=(List.getElem?_eq_some_iff.1 hsg).1
  obtain ⟨ad,rfl⟩:=h.some_ (by omega)
  have hi:=betw_len hb
  rw [List.length_drop] at hi
  have hI:=lhi (between_some h sg hsg i hb)
  have h2 : l[2]? = some ((l.drop 2).headD 0):=by
   rw [List.getElem?_eq_getElem (by omega),List.drop_eq_getElem_cons (show 2 < l.length by omega)];rfl
  obtain ⟨hd,hdb⟩:=h.cell h2
  rw [add_succ ad 1] at hd
  generalize (l.drop 2).headD 0 = x at *
  have hx:=x.toNat_lt
  by_cases h1 : i = 1
  · subst h1
    show Calls _ _ _ _ fun e w' => e = .returned (.tuple #[.int .u8 (x.toNat : Int),.int .i64 5,.int .i64 0]) ∧ Below w.heap.size w w'
    generalize x.toNat = X at *
    clear h hsg hb h2 hi
    go_enter Tryz.func176,Tryz.ntmps176
    go_wp2_with (go_at_call 174;refine (hI.out).mono ?_;rintro e w1 ⟨rfl,hb1⟩;have hd1:=(hb1.cell (p:=⟨ad.block,ad.off + 2,none⟩) hdb).trans hd)
    go_ret3
    exact ⟨rfl,hb1⟩
  · have hne : ((i : Int) != 1) = true:=by simp;omega
    simp only [if_neg h1]
    have h1':=lhi h1
    clear h hsg hb h2 hi h1
    go_enter Tryz.func176,Tryz.ntmps176
    go_wp2_with (go_at_call 174;refine (hI.out).mono ?_;rintro e w1 ⟨rfl,hb1⟩)
    go_ret3
    exact ⟨rfl,hb1⟩
theorem end_any {A : Option Addr} {n c : Nat} {l : List UInt8} {w : World} (h : Inp w A n c l) :
    Calls Tryz.prog 170 #[.slice A n c] w fun e w' => e = .returned (.tuple #[.int .u8 (endA (endP l)),.int .i64 (endB (endP l)),.int .i64 (endC (endP l))]) ∧ Below w.heap.size w w':=by
 by_cases h0 : l.length = 0
 · obtain rfl : l = []:=List.length_eq_zero_iff.1 h0
   obtain rfl : n = 0:=h.len
   clear h h0
   go_enter Tryz.func170,Tryz.ntmps170
   go_wp2
   go_ret3
   exact ⟨rfl,Below.refl _ _⟩
 · obtain ⟨ad,rfl⟩:=h.some_ (by omega)
   have hn:=h.len
   have hn0 : 0 < n:=by omega
   have h':=lhi h
   have hx0 : l[0]? = some (l[0]'(by omega)):=List.getElem?_eq_getElem _
   obtain ⟨hd,hdb⟩:=h.cell hx0
   rw [show ad.add 0 = ad by cases ad;simp [Addr.add]] at hd
   have hE : endP l = if bg [91,46] l then loneP 46 l else if bg [91,61] l then loneP 61 l else if bg [92,110] l then .one 10 2 else .one (l[0]'(by omega)) 1:=by
    unfold endP
    cases l with
    | nil => simp at h0
    | cons y r => rfl
   rw [hE]
   clear hE hx0
   generalize hX : (l[0]'(by omega)) = x at *
   have hx:=x.toNat_lt
   clear hX h hn
   cases h1 : bg [91,46] l with
   | true =>
    have hL:=lhi (fun w1 (h : Inp w1 (some ad) n c l) => lone_any h 46 (bg_second h1).2)
    replace h1:=lhi h1
    rw [if_pos rfl]
    generalize endA (loneP 46 l) = a at *
    generalize endB (loneP 46 l) = b at *
    generalize endC (loneP 46 l) = d at *
    go_enter Tryz.func170,Tryz.ntmps170
    go_wp2_with (first
     | (go_at_call 146;with_reducible show Calls _ _ #[_,Value.string {data:=#[91,46]}] _ _;refine (begins_is h'.out ⟨#[91,46]⟩ true h1.out).mono ?_;rintro e w1 ⟨rfl,hb1⟩)
     | (go_at_call 176;refine (hL.out _ (h'.out.grow hb1)).mono ?_;rintro e w2 ⟨rfl,hb2⟩))
    go_ret3
    exact ⟨rfl,hb1.trans (hb2.mono hb1.size)⟩
   | false =>
    rw [if_neg (by decide)]
    cases h2 : bg [91,61] l with
    | true =>
     have hL:=lhi (fun w1 (h : Inp w1 (some ad) n c l) => lone_any h 61 (bg_second h2).2)
     replace h1:=lhi h1
     replace h2:=lhi h2
     rw [if_pos rfl]
     generalize endA (loneP 61 l) = a at *
     generalize endB (loneP 61 l) = b at *
     generalize endC (loneP 61 l) = d at *
     go_enter Tryz.func170,Tryz.ntmps170
     go_wp2_with (first
      | (go_at_call 146;with_reducible show Calls _ _ #[_,Value.string {data:=#[91,46]}] _ _;refine (begins_is h'.out ⟨#[91,46]⟩ false h1.out).mono ?_;rintro e w1 ⟨rfl,hb1⟩)
      | (go_at_call 146;with_reducible show Calls _ _ #[_,Value.string {data:=#[91,61]}] _ _;refine (begins_is (h'.out.grow hb1) ⟨#[91,61]⟩ true h2.out).mono ?_;rintro e w2 ⟨rfl,hb2⟩)
      | (go_at_call 176;refine (hL.out _ ((h'.out.grow hb1).grow hb2)).mono ?_;rintro e w3 ⟨rfl,hb3⟩))
     go_ret3
     exact ⟨rfl,(hb1.trans (hb2.mono hb1.size)).trans (hb3.mono (hb1.trans (hb2.mono hb1.size)).size)⟩
    | false =>
     rw [if_neg (by decide)]
     cases h3 : bg [92,110] l with
     | true =>
      replace h1:=lhi h1
      replace h2:=lhi h2
      replace h3:=lhi h3
      rw [if_pos rfl]
      go_enter Tryz.func170,Tryz.ntmps170
      go_wp2_with (first
       | (go_at_call 146;with_reducible show Calls _ _ #[_,Value.string {data:=#[91,46]}] _ _;refine (begins_is h'.out ⟨#[91,46]⟩ false h1.out).mono ?_;rintro e w1 ⟨rfl,hb1⟩)
       | (go_at_call 146;with_reducible show Calls _ _ #[_,Value.string {data:=#[91,61]}] _ _;refine (begins_is (h'.out.grow hb1) ⟨#[91,61]⟩ false h2.out).mono ?_;rintro e w2 ⟨rfl,hb2⟩)
       | (go_at_call 146;with_reducible show Calls _ _ #[_,Value.string {data:=#[92,110]}] _ _;refine (begins_is ((h'.out.grow hb1).grow hb2) ⟨#[92,110]⟩ true h3.out).mono ?_;rintro e w3 ⟨rfl,hb3⟩))
      go_ret3
      exact ⟨rfl,(hb1.trans (hb2.mono hb1.size)).trans (hb3.mono (hb1.trans (hb2.mono hb1.size)).size)⟩
     | false =>
      replace h1:=lhi h1
      replace h2:=lhi h2
      replace h3:=lhi h3
      rw [if_neg (by decide)]
      show Calls _ _ _ _ fun e w' => e = .returned (.tuple #[.int .u8 (x.toNat : Int),.int .i64 1,.int .i64 0]) ∧ Below w.heap.size w w'
      generalize x.toNat = X at *
      go_enter Tryz.func170,Tryz.ntmps170
      go_wp2_with (first
       | (go_at_call 146;with_reducible show Calls _ _ #[_,Value.string {data:=#[91,46]}] _ _;refine (begins_is h'.out ⟨#[91,46]⟩ false h1.out).mono ?_;rintro e w1 ⟨rfl,hb1⟩)
       | (go_at_call 146;with_reducible show Calls _ _ #[_,Value.string {data:=#[91,61]}] _ _;refine (begins_is (h'.out.grow hb1) ⟨#[91,61]⟩ false h2.out).mono ?_;rintro e w2 ⟨rfl,hb2⟩)
       | (go_at_call 146;with_reducible show Calls _ _ #[_,Value.string {data:=#[92,110]}] _ _;refine (begins_is ((h'.out.grow hb1).grow hb2) ⟨#[92,110]⟩ false h3.out).mono ?_;rintro e w3 ⟨rfl,hb3⟩;have hB:=(hb1.trans (hb2.mono hb1.size)).trans (hb3.mono (hb1.trans (hb2.mono hb1.size)).size);have hd3:=(hB.cell hdb).trans hd))
      go_ret3
      exact ⟨rfl,hB⟩
theorem results_cell_three {P : Program} {fn : Func} {p q r : Tmp} {ty : TypeId} (h : fn.results = #[.cell p ty,.tmp q,.tmp r]) (tmps : Array Value) (w : World) (g : Nat) (t : TypeId) (cs : Array Value) (fr : Nat × Nat) (d : TypeDesc)
    (hp : tmps.getD p undef = .pointer (some ⟨g,0,none⟩)) {x y : Value} (hx : tmps.getD q undef = x) (hy : tmps.getD r undef = y) (hg : w.heap[g]? = some (.cells cs t fr))
    (hu : P.underlying ty = some d) (hd : (match d with | .struct _ | .array _ _ => true | _ => false) = true) (hi : (P.info? ty).map (·.size) = some cs.size) :
    (results fn tmps).run P w = .ok (.tuple #[.agg cs,x,y]) w:=by
 have hp' : tmps[p]?.getD undef = .pointer (some ⟨g,0,none⟩):=by simpa using hp
 have hx' : tmps[q]?.getD undef = x:=by simpa using hx
 have hy' : tmps[r]?.getD undef = y:=by simpa using hy
 simp [results,h,hp',hx',hy',asAddr,run_loadVar_row w g t ty cs fr d hg hu hd hi]
theorem build_set (w : World) : (Instr.build 41 #[]).run Tryz.prog w = .ok (.agg #[.int .u64 0,.int .u64 0,.int .u64 0,.int .u64 0]) w:=run_build w _ _ _ (by kernel_rfl)
def namedR (l : List UInt8) : Except Nat ((Nat → Bool) × Nat) :=
 match clsP l with
 | .bad e => .error e
 | .cls nm n => if joins (l.drop n) then .error 3 else .ok (clsF nm,n)
 | .one _ _ => .error 0
theorem item_named {l : List UInt8} (h : bg [91,58] l = true) : item l = namedR l:=by
 unfold item namedR piece
 rw [if_pos h]
 cases hp : clsP l with
 | bad e => rfl
 | cls nm n => rfl
 | one c n => exact absurd hp clsP_one
theorem namedR_none {l : List UInt8} (hb : betw 58 (l.drop 2) = none) : namedR l = .error 11:=by unfold namedR clsP;rw [hb]
theorem namedR_some {l : List UInt8} {i : Nat} (hb : betw 58 (l.drop 2) = some i) : namedR l = if known ((l.drop 2).take i) then (if joins (l.drop (i + 4)) then .error 3 else .ok (clsF ((l.drop 2).take i),i + 4)) else .error 12:=by
 unfold namedR clsP
 rw [hb]
 simp only
 cases known ((l.drop 2).take i) <;> rfl
theorem named_at (l : List UInt8) (w : World) :
    Calls Tryz.prog 175 #[.string ⟨l.toArray⟩] w fun e w' => e = .returned (.tuple #[.agg (setC (clsF l)),.bool (known l)]) ∧ Below w.heap.size w w':=by
 have:=named_any ⟨l.toArray⟩ w
 rw [show (⟨l.toArray⟩ : ByteArray).toList = l by rw [ByteArray.toList_eq]] at this
 exact this
theorem convB {w : World} {B : Nat} {A : Option Addr} {l : List UInt8} {n c : Nat} (h : Byt w B A l) (hn : n = l.length) :
    (convert 22 9 (.slice A n c)).run Tryz.prog w = .ok (.string ⟨l.toArray⟩) w:=by
 subst hn
 cases hl : l with
 | nil => exact run_convert_bytes_zero (P:=Tryz.prog) w 22 5 Tryz.underlying22 Tryz.underlying5 A c 9 Tryz.underlying9
 | cons x r =>
  obtain ⟨ad,rfl,_,_⟩:=h.at_ (k:=0) (by rw [hl];simp)
  rw [← hl]
  exact run_convert_bytes_back (P:=Tryz.prog) w 22 9 5 ad c l Tryz.underlying22 Tryz.underlying5 Tryz.underlying9 (fun j hj => by
   obtain ⟨ad',he,_,hc⟩:=h.at_ hj
   obtain rfl:=Option.some.inj he
   exact hc)
theorem set_zero' (w : World) : SetAt (w.alloc (.cells #[.int .u64 0,.int .u64 0,.int .u64 0,.int .u64 0] 41)) w.heap.size noneF:=set_zero w
theorem setC_noneF : setC noneF = #[.int .u64 0,.int .u64 0,.int .u64 0,.int .u64 0]:=setC_none
theorem named7_any {A : Option Addr} {n c : Nat} {l : List UInt8} {w : World} (h : Inp w A n c l) (hsg : bg [91,58] l = true) :
    Calls Tryz.prog 169 #[.slice A n c] w fun e w' => e = .returned (.tuple #[.agg (setC (told (namedR l)).1),.int .i64 ((told (namedR l)).2.1 : Int),.int .i64 ((told (namedR l)).2.2 : Int)]) ∧ Below w.heap.size w w':=by
 have hsg':=(bg_second hsg).2
 have hz:=build_set
 have hW : Below w.heap.size w (w.alloc (.cells #[.int .u64 0,.int .u64 0,.int .u64 0,.int .u64 0] 41)):=(Below.refl _ _).alloc (nlr _) _
 have hS:=lhi (set_zero' w)
 have h1:=h.grow hW
 replace hW:=lhi hW
 cases hb : betw 58 (l.drop 2) with
 | none =>
  rw [namedR_none hb]
  have hI:=lhi (between_none h1 58 hsg' hb)
  clear h h1 hsg hsg' hb
  go_enter Tryz.func169,Tryz.ntmps169
  go_wp2_with (first
   | (go_at_call 174;refine (hI.out).mono ?_;rintro e w1 ⟨rfl,hb1⟩;have hS1:=lhi (hS.out.below hb1 hS.out.lt);have hW1:=lhi (hW.out.trans (hb1.mono hW.out.size)))
   | (refine wpList_store_row rfl 41 (.tmp 2) (.tmp 18) rfl w.heap.size (setC noneF) rfl (by rw [setC_noneF];rfl) 41 _ hS1.out (set_size _) (set_hold _ _) (set_cells _) ?_))
  exact bodyPost_ret (v:=.tuple #[.agg (setC noneF),.int .i64 0,.int .i64 11]) (results_cell_three Tryz.results169 _ _ w.heap.size 41 (setC noneF) (0,0) _ rfl rfl rfl (hS1.out.put _) Tryz.underlying41 rfl (set_size _)) rfl ⟨rfl,below_put hW1.out (nlr _) _⟩
 | some i =>
  have hl2 : 2 ≤ l.length:=(List.getElem?_eq_some_iff.1 hsg').1
  obtain ⟨ad,rfl⟩:=h.some_ (by omega)
  have hi:=betw_len hb
  rw [List.length_drop] at hi
  have hn:=h.len
  have hI:=between_some h1 58 hsg' i hb
  have hcut:=h.cut (i:=2) (j:=i + 2) (by omega) (by omega)
  rw [List.drop_take,show i + 2 - 2 = i by omega,if_neg (by have:=h.2.1;omega),Option.map_some,add_succ ad 1] at hcut
  have hdr:=h.drop (i:=i + 4) (by omega)
  rw [namedR_some hb]
  obtain ⟨N,hN⟩ : ∃ N,N = i + 4:=⟨_,rfl⟩
  rw [show (i : Int) + 4 = (N : Int) by omega] at hI
  rw [← hN] at hdr
  have hNn : N ≤ n:=by omega
  have hns : n ≤ 1000000:=h.2.2.2.1
  have hnc:=h.2.1
  have hcm:=h.2.2.1
  unfold maxLen at hcm
  replace hI:=lhi hI
  have hcvF : Hid (∀ w1,Below w.heap.size w w1 → (convert 22 9 (.slice (some ⟨ad.block,ad.off + 2,none⟩) i (c - 2))).run Tryz.prog w1 = .ok (.string ⟨((l.drop 2).take i).toArray⟩) w1):=lhi fun w1 hW1 => convB (hcut.grow hW1).2.2.2.2.1 hcut.1
  clear hcut
  replace hdr:=lhi hdr
  rw [← hN]
  generalize (l.drop 2).take i = nm at *
  clear h h1 hsg hsg' hb hi hn hl2 hN
  have hNm:=lhi (named_at nm)
  cases hk : known nm with
  | false =>
   rw [hk] at hNm
   replace hk:=lhi hk
   go_enter Tryz.func169,Tryz.ntmps169
   go_wp2_with (first
    | (go_at_call 174;refine (hI.out).mono ?_;rintro e w1 ⟨rfl,hb1⟩;have hW1:=lhi (hW.out.trans (hb1.mono hW.out.size));have hcv:=hcvF.out _ hW1.out)
    | (go_at_call 175;refine (hNm.out _).mono ?_;rintro e w2 ⟨rfl,hb2⟩;have hB2:=lhi (hb1.trans (hb2.mono hb1.size)))
    | (refine wpList_store_row rfl 41 (.tmp 8) (.tmp 24) rfl w2.heap.size (setC (clsF nm)) rfl rfl 41 _ (set_zero w2) (set_size _) (set_hold (fun _ => false) (clsF nm) |> fun h => by rw [← h,setC_none]) (set_cells _) ?_;rw [World.setRow_alloc_new];have hW2:=lhi (((hW.out.trans (hB2.out.mono hW.out.size)).alloc ((hW.out.trans (hB2.out.mono hW.out.size)).size) (.cells (setC (clsF nm)) 41)));have hS2:=lhi ((hS.out.below hB2.out hS.out.lt).alloc (.cells (setC (clsF nm)) 41)))
    | (refine wpList_store_row rfl 41 (.tmp 2) (.tmp 28) rfl w.heap.size (setC noneF) rfl (by rw [setC_noneF];rfl) 41 _ hS2.out (set_size _) (set_hold _ _) (set_cells _) ?_))
   exact bodyPost_ret (v:=.tuple #[.agg (setC noneF),.int .i64 0,.int .i64 12]) (results_cell_three Tryz.results169 _ _ w.heap.size 41 (setC noneF) (0,0) _ rfl rfl rfl (hS2.out.put _) Tryz.underlying41 rfl (set_size _)) rfl ⟨rfl,below_put hW2.out (nlr _) _⟩
  | true =>
   rw [hk] at hNm
   replace hk:=lhi hk
   rw [if_pos rfl]
   have hJ:=fun w2 (hb : Below w.heap.size w w2) => joins_any (hdr.out.grow hb)
   cases hj : joins (l.drop N) with
   | true =>
    rw [hj] at hJ
    rw [if_pos rfl]
    replace hJ:=lhi hJ
    replace hj:=lhi hj
    by_cases hcN : c = N
    · subst hcN
      obtain rfl : n = c:=by omega
      rw [if_pos rfl,Nat.sub_self] at hJ
      go_enter Tryz.func169,Tryz.ntmps169
      go_wp2_with (first
       | (go_at_call 174;refine (hI.out).mono ?_;rintro e w1 ⟨rfl,hb1⟩;have hW1:=lhi (hW.out.trans (hb1.mono hW.out.size));have hcv:=hcvF.out _ hW1.out)
       | (go_at_call 175;refine (hNm.out _).mono ?_;rintro e w2 ⟨rfl,hb2⟩;have hB2:=lhi (hb1.trans (hb2.mono hb1.size)))
       | (refine wpList_store_row rfl 41 (.tmp 8) (.tmp 24) rfl w2.heap.size (setC (clsF nm)) rfl rfl 41 _ (set_zero w2) (set_size _) (set_hold (fun _ => false) (clsF nm) |> fun h => by rw [← h,setC_none]) (set_cells _) ?_;rw [World.setRow_alloc_new];have hW2:=lhi (((hW.out.trans (hB2.out.mono hW.out.size)).alloc ((hW.out.trans (hB2.out.mono hW.out.size)).size) (.cells (setC (clsF nm)) 41)));have hS2:=lhi ((hS.out.below hB2.out hS.out.lt).alloc (.cells (setC (clsF nm)) 41));have hR2:=lhi (set_new w2 (clsF nm)))
       | (go_at_call 171;with_reducible refine (hJ.out _ hW2.out).mono ?_;rintro e w3 ⟨rfl,hb3⟩;have hW3:=lhi (hW2.out.trans (hb3.mono hW2.out.size));have hS3:=lhi (hS2.out.below hb3 hS2.out.lt);have hR3:=lhi (hR2.out.below hb3 hR2.out.lt))
       | (refine wpList_store_row rfl 41 (.tmp 2) (.tmp 33) rfl w.heap.size (setC noneF) rfl (by rw [setC_noneF];rfl) 41 _ hS3.out (set_size _) (set_hold _ _) (set_cells _) ?_))
      exact bodyPost_ret (v:=.tuple #[.agg (setC noneF),.int .i64 0,.int .i64 3]) (results_cell_three Tryz.results169 _ _ w.heap.size 41 (setC noneF) (0,0) _ rfl rfl rfl (hS3.out.put _) Tryz.underlying41 rfl (set_size _)) rfl ⟨rfl,below_put hW3.out (nlr _) _⟩
    · rw [if_neg hcN,Option.map_some] at hJ
      go_enter Tryz.func169,Tryz.ntmps169
      go_wp2_with (first
       | (go_at_call 174;refine (hI.out).mono ?_;rintro e w1 ⟨rfl,hb1⟩;have hW1:=lhi (hW.out.trans (hb1.mono hW.out.size));have hcv:=hcvF.out _ hW1.out)
       | (go_at_call 175;refine (hNm.out _).mono ?_;rintro e w2 ⟨rfl,hb2⟩;have hB2:=lhi (hb1.trans (hb2.mono hb1.size)))
       | (refine wpList_store_row rfl 41 (.tmp 8) (.tmp 24) rfl w2.heap.size (setC (clsF nm)) rfl rfl 41 _ (set_zero w2) (set_size _) (set_hold (fun _ => false) (clsF nm) |> fun h => by rw [← h,setC_none]) (set_cells _) ?_;rw [World.setRow_alloc_new];have hW2:=lhi (((hW.out.trans (hB2.out.mono hW.out.size)).alloc ((hW.out.trans (hB2.out.mono hW.out.size)).size) (.cells (setC (clsF nm)) 41)));have hS2:=lhi ((hS.out.below hB2.out hS.out.lt).alloc (.cells (setC (clsF nm)) 41));have hR2:=lhi (set_new w2 (clsF nm)))
       | (go_at_call 171;with_reducible refine (hJ.out _ hW2.out).mono ?_;rintro e w3 ⟨rfl,hb3⟩;have hW3:=lhi (hW2.out.trans (hb3.mono hW2.out.size));have hS3:=lhi (hS2.out.below hb3 hS2.out.lt);have hR3:=lhi (hR2.out.below hb3 hR2.out.lt))
       | (refine wpList_store_row rfl 41 (.tmp 2) (.tmp 33) rfl w.heap.size (setC noneF) rfl (by rw [setC_noneF];rfl) 41 _ hS3.out (set_size _) (set_hold _ _) (set_cells _) ?_))
      exact bodyPost_ret (v:=.tuple #[.agg (setC noneF),.int .i64 0,.int .i64 3]) (results_cell_three Tryz.results169 _ _ w.heap.size 41 (setC noneF) (0,0) _ rfl rfl rfl (hS3.out.put _) Tryz.underlying41 rfl (set_size _)) rfl ⟨rfl,below_put hW3.out (nlr _) _⟩
   | false =>
    rw [hj] at hJ
    rw [if_neg (by decide)]
    replace hJ:=lhi hJ
    replace hj:=lhi hj
    by_cases hcN : c = N
    · subst hcN
      obtain rfl : n = c:=by omega
      rw [if_pos rfl,Nat.sub_self] at hJ
      go_enter Tryz.func169,Tryz.ntmps169
      go_wp2_with (first
       | (go_at_call 174;refine (hI.out).mono ?_;rintro e w1 ⟨rfl,hb1⟩;have hW1:=lhi (hW.out.trans (hb1.mono hW.out.size));have hcv:=hcvF.out _ hW1.out)
       | (go_at_call 175;refine (hNm.out _).mono ?_;rintro e w2 ⟨rfl,hb2⟩;have hB2:=lhi (hb1.trans (hb2.mono hb1.size)))
       | (refine wpList_store_row rfl 41 (.tmp 8) (.tmp 24) rfl w2.heap.size (setC (clsF nm)) rfl rfl 41 _ (set_zero w2) (set_size _) (set_hold (fun _ => false) (clsF nm) |> fun h => by rw [← h,setC_none]) (set_cells _) ?_;rw [World.setRow_alloc_new];have hW2:=lhi (((hW.out.trans (hB2.out.mono hW.out.size)).alloc ((hW.out.trans (hB2.out.mono hW.out.size)).size) (.cells (setC (clsF nm)) 41)));have hS2:=lhi ((hS.out.below hB2.out hS.out.lt).alloc (.cells (setC (clsF nm)) 41));have hR2:=lhi (set_new w2 (clsF nm)))
       | (go_at_call 171;with_reducible refine (hJ.out _ hW2.out).mono ?_;rintro e w3 ⟨rfl,hb3⟩;have hW3:=lhi (hW2.out.trans (hb3.mono hW2.out.size));have hS3:=lhi (hS2.out.below hb3 hS2.out.lt);have hR3:=lhi (hR2.out.below hb3 hR2.out.lt))
       | (refine wpList_load_row rfl 41 (.tmp 8) rfl w2.heap.size rfl 41 _ (0,0) _ hR3.out Tryz.underlying41 rfl (set_size _) ?_)
       | (refine wpList_store_row rfl 41 (.tmp 2) (.tmp 34) rfl w.heap.size (setC (clsF nm)) rfl rfl 41 _ hS3.out (set_size _) (set_hold _ _) (set_cells _) ?_))
      exact bodyPost_ret (v:=.tuple #[.agg (setC (clsF nm)),.int .i64 (n : Int),.int .i64 0]) (results_cell_three Tryz.results169 _ _ w.heap.size 41 (setC (clsF nm)) (0,0) _ rfl rfl rfl (hS3.out.put _) Tryz.underlying41 rfl (set_size _)) rfl ⟨rfl,below_put hW3.out (nlr _) _⟩
    · rw [if_neg hcN,Option.map_some] at hJ
      go_enter Tryz.func169,Tryz.ntmps169
      go_wp2_with (first
       | (go_at_call 174;refine (hI.out).mono ?_;rintro e w1 ⟨rfl,hb1⟩;have hW1:=lhi (hW.out.trans (hb1.mono hW.out.size));have hcv:=hcvF.out _ hW1.out)
       | (go_at_call 175;refine (hNm.out _).mono ?_;rintro e w2 ⟨rfl,hb2⟩;have hB2:=lhi (hb1.trans (hb2.mono hb1.size)))
       | (refine wpList_store_row rfl 41 (.tmp 8) (.tmp 24) rfl w2.heap.size (setC (clsF nm)) rfl rfl 41 _ (set_zero w2) (set_size _) (set_hold (fun _ => false) (clsF nm) |> fun h => by rw [← h,setC_none]) (set_cells _) ?_;rw [World.setRow_alloc_new];have hW2:=lhi (((hW.out.trans (hB2.out.mono hW.out.size)).alloc ((hW.out.trans (hB2.out.mono hW.out.size)).size) (.cells (setC (clsF nm)) 41)));have hS2:=lhi ((hS.out.below hB2.out hS.out.lt).alloc (.cells (setC (clsF nm)) 41));have hR2:=lhi (set_new w2 (clsF nm)))
       | (go_at_call 171;with_reducible refine (hJ.out _ hW2.out).mono ?_;rintro e w3 ⟨rfl,hb3⟩;have hW3:=lhi (hW2.out.trans (hb3.mono hW2.out.size));have hS3:=lhi (hS2.out.below hb3 hS2.out.lt);have hR3:=lhi (hR2.out.below hb3 hR2.out.lt))
       | (refine wpList_load_row rfl 41 (.tmp 8) rfl w2.heap.size rfl 41 _ (0,0) _ hR3.out Tryz.underlying41 rfl (set_size _) ?_)
       | (refine wpList_store_row rfl 41 (.tmp 2) (.tmp 34) rfl w.heap.size (setC (clsF nm)) rfl rfl 41 _ hS3.out (set_size _) (set_hold _ _) (set_cells _) ?_))
      exact bodyPost_ret (v:=.tuple #[.agg (setC (clsF nm)),.int .i64 (N : Int),.int .i64 0]) (results_cell_three Tryz.results169 _ _ w.heap.size 41 (setC (clsF nm)) (0,0) _ rfl rfl rfl (hS3.out.put _) Tryz.underlying41 rfl (set_size _)) rfl ⟨rfl,below_put hW3.out (nlr _) _⟩
end Go.Proofs.YtonjnagcdnmcpaaGreatDoor
