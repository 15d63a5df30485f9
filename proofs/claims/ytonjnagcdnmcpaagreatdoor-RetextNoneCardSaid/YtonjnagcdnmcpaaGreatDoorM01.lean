/- Contracts and plain facts: M01. -/
import Derived.Test.YtonjnagcdnmcpaaGreatDoorRows
import Derived.WalkKit
import Derived.ProofKit
import Derived.OpenShut
import Derived.ShutString
import Derived.LaidMore
import Derived.Deep.DeepHandedRow
import Derived.Lib.LaidTab
import Derived.Stop.LaidErr
import Derived.Lib.ItoaNum
import Derived.Below
import Derived.Deep.Draws
import Derived.WalkSmall
import Derived.Lib.Hide
import Derived.SliceStrings
import Derived.Sort.Grow
import Derived.Test.YtonjnagcdnmcpaaGreatDoorProg
import Derived.Lib.Index
set_option linter.unusedVariables false
set_option linter.unusedSimpArgs false
set_option maxRecDepth 100000
set_option maxHeartbeats 32000000
namespace Go.Proofs.YtonjnagcdnmcpaaGreatDoor
open Go.ChangeShapes Go.WideShapes Go.ChangeAt Go.RowKit
theorem lhi {p : Prop} (h : p) : Hid p := Lib.hid h
theorem nlr (n : Nat) : n ≤ n := Nat.le_refl n
theorem lla {α : Type _} {xs ys : List α} : (xs ++ ys).length = xs.length + ys.length := List.length_append
theorem lls {α : Type _} {a : α} : [a].length = 1 := List.length_singleton
theorem nll {n m k : Nat} (h : n < m) (h2 : m ≤ k) : n < k := Nat.lt_of_lt_of_le h h2
theorem bef {α : Type _} [BEq α] [LawfulBEq α] {a b : α} : (a == b) = false ↔ a ≠ b := beq_eq_false_iff_ne
theorem own : ownKnob Tryz.prog.godebug = none:=by kernel_rfl
theorem laidOut_ : laidOutB Tryz.prog = true:=by kernel_rfl
theorem trodAll_stays {H : Type} {enc : TypeId × Value → H} {P : Program} (hl : laidOutB P = true) {W W' : World} (hb : Below W.heap.size W W') (ts : List TypeId) :
    ∀ (vs : List Value) (ds : List (DataW H)) (ps : List MemPlace),
    (ts.all fun t => P.readableRec t && decide (t < P.types.size)) = true → (∀ x ∈ ps,x.block < W.heap.size) →
    DataW.TrodAll enc P W 0 (fun _ => true) true ts vs ds ps → DataW.TrodAll enc P W' 0 (fun b => decide (b < W.heap.size)) true ts vs ds ps:=by
 induction ts with
 | nil =>
  intro vs ds ps _ _ h
  obtain ⟨rfl,rfl,rfl⟩:=trodAll_nil h
  exact trodAll_mk0
 | cons t ts ih =>
  intro vs ds ps hr hlt h
  obtain ⟨v,vs,d,ds,p,q,rfl,rfl,rfl,hp,hq⟩:=trodAll_cons h
  rw [List.all_cons,Bool.and_eq_true,Bool.and_eq_true] at hr
  exact trodAll_cons_mk (Below.trod hl hr.1.1 (of_decide_eq_true hr.1.2) hp hb (fun x hx => hlt x (List.mem_append_left _ hx)))
   (ih vs ds q hr.2 (fun x hx => hlt x (List.mem_append_right _ hx)) hq)
theorem law_post {H : Type} {enc : TypeId × Value → H} {f : Func} {s : ChangeSpec} {W W' : World} {args : Array Value} {ds gs : List (DataW H)} {before : List MemPlace}
    (hW : DataW.Whole enc Tryz.prog f.params.toList s.vars false W args.toList ds gs before) (hvars : s.vars = []) (hres : f.resultTypes = #[4])
    (hr : (f.params.toList.all fun t => Tryz.prog.readableRec t && decide (t < Tryz.prog.types.size)) = true)
    (hs : s.fn H (ds ++ gs) = { results:=[.lit (.bool true)],args:=ds }) (hb : Below W.heap.size W W') :
    s.post enc Tryz.prog f false true false false W args (.bool true) W':=by
 have hlt : ∀ x ∈ before,x.block < W.heap.size:=fun x hx => hW.lt x hx
 have hW0:=hW
 obtain ⟨p,q,hA,hV,rfl,hfz,hnd⟩:=hW
 rw [hvars] at hV
 obtain ⟨rfl,rfl⟩:=trodVars_none hV
 refine ⟨ds,[],p ++ [],[],p,[],hW0,?_,?_,?_,?_,fun h => by cases h⟩
 · rw [hs,hres];exact trodAll_mk1 (shut_bool Tryz.underlying4 _)
 · rw [hs];exact trodAll_stays laidOut_ hb _ _ _ _ hr (fun x hx => hlt x (by simpa using hx)) hA
 · rw [hs,hvars];exact rfl
 · exact World.keptBut_mono (fun x hx => ⟨hx,.inr (.inl (by simpa using hx))⟩) (hb.frame (· ∈ p ++ []))
theorem gPow0 : Tryz.prog.globalNamed "internal/strconv.uint64pow10" = some 1 := by kernel_rfl
end Go.Proofs.YtonjnagcdnmcpaaGreatDoor
namespace Go.Proofs.YtonjnagcdnmcpaaGreatDoor
open Go.RowKit Go.ChangeShapes Go.WideShapes
theorem ret_bool {a b : Bool} (h : a = b) : Ending.returned (.bool a) = .returned (.bool b):=by rw [h]
theorem ret_bools {a b c d : Bool} (h : a = b) (k : c = d) : Ending.returned (.tuple #[.bool a,.bool c]) = .returned (.tuple #[.bool b,.bool d]):=by rw [h,k]
theorem ret_int {k : IntKind} {a b : Int} (h : a = b) : Ending.returned (.int k a) = .returned (.int k b):=by rw [h]
theorem ret_str {a b : List UInt8} (h : a = b) : Ending.returned (.string ⟨a.toArray⟩) = .returned (.string ⟨b.toArray⟩):=by rw [h]
theorem len_toList (s : ByteArray) : s.data.toList.length = s.size:=rfl
theorem bytes_ext {s t : ByteArray} (h : s.data.toList = t.data.toList) : s = t:=by
 cases s;cases t;simp at h;rw [h]
theorem block_add (a : Addr) (n : Nat) : (a.add n).block = a.block:=by unfold Addr.add;split <;> rfl
theorem add_zero_off (b k : Nat) : (Addr.add ⟨b,0,none⟩ k : Addr) = ⟨b,k,none⟩:=by unfold Addr.add;split <;> simp_all
theorem add_two (a : Addr) (i k : Nat) : (a.add i).add k = a.add (i + k):=by unfold Addr.add;split <;> split <;> split <;> simp_all <;> omega
def Vals (w : World) (B : Nat) (A : Option Addr) (xs : List Value) : Prop :=
 ∀ (k : Nat) (h : k < xs.length),∃ ad,A = some ad ∧ ad.block < B ∧ w.cell? (ad.add k) = some (xs[k]'h)
section
variable {w w' : World} {B B' : Nat} {A : Option Addr} {xs : List Value}
theorem Vals.at_ (h : Vals w B A xs) {k : Nat} (hk : k < xs.length) : ∃ ad,A = some ad ∧ ad.block < B ∧ w.cell? (ad.add k) = some (xs[k]'hk):=h k hk
theorem Vals.keep (h : Vals w B A xs) (hk : ∀ p : Addr,p.block < B → w'.cell? p = w.cell? p) : Vals w' B A xs:=by
 intro k hlt
 obtain ⟨ad,hA,hb,hc⟩:=h k hlt
 exact ⟨ad,hA,hb,(hk _ (by rw [block_add];exact hb)).trans hc⟩
theorem Vals.below (h : Vals w B A xs) (hb : Below B w w') : Vals w' B A xs:=h.keep fun _ hp => hb.cell hp
theorem Vals.more (h : Vals w B A xs) (hB : B ≤ B') : Vals w B' A xs:=fun k hk =>
 let ⟨ad,hA,hb,hc⟩:=h k hk;⟨ad,hA,nll hb hB,hc⟩
theorem Vals.none_ (w : World) (B : Nat) (A : Option Addr) : Vals w B A []:=fun _ h => absurd h (by simp)
theorem Vals.cut (h : Vals w B A xs) {i j cap : Nat} (hj : j ≤ xs.length) (hc : xs.length ≤ cap) :
    Vals w B (if cap = i then A else A.map (·.add i)) ((xs.take j).drop i):=by
 intro k hk
 rw [List.length_drop,List.length_take] at hk
 obtain ⟨ad,rfl,hb,hcell⟩:=h (i + k) (by omega)
 rw [if_neg (by omega)]
 refine ⟨ad.add i,rfl,by rw [block_add];exact hb,?_⟩
 rw [add_two,hcell]
 simp only [List.getElem_drop,List.getElem_take]
theorem vals_new (w : World) (xs : List Value) (t : TypeId) (fr : Nat × Nat) : Vals (w.alloc (.cells xs.toArray t fr)) (w.heap.size + 1) (some ⟨w.heap.size,0,none⟩) xs:=by
 intro k hk
 refine ⟨_,rfl,Nat.lt_succ_self _,?_⟩
 rw [add_zero_off,cell_of_row _ _ k _ t fr (heap_alloc_new w _)]
 simp [List.getElem?_eq_getElem hk]
end
def bv (l : List UInt8) : List Value:=l.map fun c => Value.int .u8 (c.toNat : Int)
theorem bv_length (l : List UInt8) : (bv l).length = l.length:=by simp [bv]
def Byt (w : World) (B : Nat) (A : Option Addr) (l : List UInt8) : Prop :=
 ∀ (k : Nat) (h : k < l.length),∃ ad,A = some ad ∧ ad.block < B ∧ w.cell? (ad.add k) = some (.int .u8 ((l[k]'h).toNat : Int))
section
variable {w w' : World} {B B' : Nat} {A : Option Addr} {l : List UInt8}
theorem Byt.at_ (h : Byt w B A l) {k : Nat} (hk : k < l.length) : ∃ ad,A = some ad ∧ ad.block < B ∧ w.cell? (ad.add k) = some (.int .u8 ((l[k]'hk).toNat : Int)):=h k hk
theorem Byt.vals (h : Byt w B A l) : Vals w B A (bv l):=by
 intro k hk
 rw [bv_length] at hk
 obtain ⟨ad,hA,hb,hc⟩:=h k hk
 exact ⟨ad,hA,hb,by rw [hc];simp [bv]⟩
theorem Vals.byt (h : Vals w B A (bv l)) : Byt w B A l:=by
 intro k hk
 obtain ⟨ad,hA,hb,hc⟩:=h k (by rw [bv_length];exact hk)
 exact ⟨ad,hA,hb,by rw [hc];simp [bv]⟩
theorem Byt.keep (h : Byt w B A l) (hk : ∀ p : Addr,p.block < B → w'.cell? p = w.cell? p) : Byt w' B A l:=(h.vals.keep hk).byt
theorem Byt.below (h : Byt w B A l) (hb : Below B w w') : Byt w' B A l:=h.keep fun _ hp => hb.cell hp
theorem Byt.more (h : Byt w B A l) (hB : B ≤ B') : Byt w B' A l:=(h.vals.more hB).byt
theorem Byt.none_ (w : World) (B : Nat) (A : Option Addr) : Byt w B A []:=fun _ h => absurd h (by simp)
theorem Byt.cut (h : Byt w B A l) {i j cap : Nat} (hj : j ≤ l.length) (hc : l.length ≤ cap) :
    Byt w B (if cap = i then A else A.map (·.add i)) ((l.take j).drop i):=by
 have h1:=h.vals.cut (i:=i) (j:=j) (cap:=cap) (by rw [bv_length];exact hj) (by rw [bv_length];exact hc)
 have e : ((bv l).take j).drop i = bv ((l.take j).drop i):=by simp [bv,List.map_drop,List.map_take]
 rw [e] at h1
 exact h1.byt
theorem byt_new (w : World) (l : List UInt8) (t : TypeId) (fr : Nat × Nat) : Byt (w.alloc (.cells (l.map fun c => Value.int .u8 (c.toNat : Int)).toArray t fr)) (w.heap.size + 1) (some ⟨w.heap.size,0,none⟩) l :=
 Vals.byt (vals_new w (bv l) t fr)
end
theorem below_grow (w : World) (q : Nat) (os : Array Obj) (B : Nat) (hB : B ≤ w.heap.size) : Below B w (Sort.grow (w.drewN q) os) :=
 ⟨rfl,rfl,rfl,by show w.heap.size ≤ (w.heap ++ os).size;rw [Array.size_append];omega,fun i hi => by
  show (w.heap ++ os)[i]? = _
  rw [Array.getElem?_append_left (by omega)]⟩
theorem grown_of_below {W W' : World} (hb : Below W.heap.size W W') : W.grownBy W' none:=⟨hb.os,hb.tape,hb.output,hb.size,fun k hk _ => hb.block k hk⟩
theorem own_below {w w' : World} {base : Nat} {e : TypeId} {size : Nat} {v : Value} {n : Nat} {xs : List Value} (h : w.ownsRow base e size v n xs) (hb : Below w.heap.size w w') : w'.ownsRow base e size v n xs:=by
 refine h.kept (grown_of_below hb) ?_
 cases hv : v.ownBlock with
 | none => exact .inl rfl
 | some k => exact .inr (by simp)
theorem new_one (w : World) (v : Value) (t : TypeId) : ∀ j u,[v][j]? = some u → (w.alloc (.cells #[v] t)).cell? ((⟨w.heap.size,0,none⟩ : Addr).add j) = some u:=by
 intro j u h
 match j,h with
 | 0,h =>
  simp at h
  subst h
  rw [show (Addr.add ⟨w.heap.size,0,none⟩ 0) = ⟨w.heap.size,0,none⟩ from rfl,World.cell?_alloc_at _ _ _ _ (by simp)];rfl
section
variable {H : Type} {enc : TypeId × Value → H} {P : Program} {W : World}
end
end Go.Proofs.YtonjnagcdnmcpaaGreatDoor
namespace Go.Proofs.YtonjnagcdnmcpaaGreatDoor
open Go.RowKit
def isW (c a b : Int) : Bool:=decide (a ≤ c) && decide (c ≤ b)
def cUpper (c : Int) : Bool:=isW c 65 90
def cLower (c : Int) : Bool:=isW c 97 122
def cDigit (c : Int) : Bool:=isW c 48 57
def cAlpha (c : Int) : Bool:=cUpper c || cLower c
def cAlnum (c : Int) : Bool:=cAlpha c || cDigit c
def cBlank (c : Int) : Bool:=c == 32 || c == 9
def cGraph (c : Int) : Bool:=isW c 33 126
theorem within_any (c a b : Int) (w : World) :
    Calls Tryz.prog 165 #[.int .u8 c,.int .u8 a,.int .u8 b] w fun e w' => e = .returned (.bool (isW c a b)) ∧ w = w':=by
 go_enter Tryz.func165,Tryz.ntmps165
 go_wp2
 all_goals
  go_ret
  exact ⟨ret_bool (by simp only [isW];simp [*];try omega),rfl⟩
theorem isUpper_any (c : Int) (w : World) :
    Calls Tryz.prog 160 #[.int .u8 c] w fun e w' => e = .returned (.bool (cUpper c)) ∧ w = w':=by
 go_enter Tryz.func160,Tryz.ntmps160
 go_wp2_with (go_at_call 165;refine (within_any _ _ _ _).mono ?_;rintro e w' ⟨rfl,rfl⟩)
 go_ret
 exact ⟨rfl,rfl⟩
theorem isLower_any (c : Int) (w : World) :
    Calls Tryz.prog 161 #[.int .u8 c] w fun e w' => e = .returned (.bool (cLower c)) ∧ w = w':=by
 go_enter Tryz.func161,Tryz.ntmps161
 go_wp2_with (go_at_call 165;refine (within_any _ _ _ _).mono ?_;rintro e w' ⟨rfl,rfl⟩)
 go_ret
 exact ⟨rfl,rfl⟩
theorem isDigit_any (c : Int) (w : World) :
    Calls Tryz.prog 151 #[.int .u8 c] w fun e w' => e = .returned (.bool (cDigit c)) ∧ w = w':=by
 go_enter Tryz.func151,Tryz.ntmps151
 go_wp2_with (go_at_call 165;refine (within_any _ _ _ _).mono ?_;rintro e w' ⟨rfl,rfl⟩)
 go_ret
 exact ⟨rfl,rfl⟩
theorem isGraph_any (c : Int) (w : World) :
    Calls Tryz.prog 166 #[.int .u8 c] w fun e w' => e = .returned (.bool (cGraph c)) ∧ w = w':=by
 go_enter Tryz.func166,Tryz.ntmps166
 go_wp2_with (go_at_call 165;refine (within_any _ _ _ _).mono ?_;rintro e w' ⟨rfl,rfl⟩)
 go_ret
 exact ⟨rfl,rfl⟩
theorem isBlank_any (c : Int) (w : World) :
    Calls Tryz.prog 164 #[.int .u8 c] w fun e w' => e = .returned (.bool (cBlank c)) ∧ w = w':=by
 go_enter Tryz.func164,Tryz.ntmps164
 go_wp2
 all_goals
  go_ret
  exact ⟨ret_bool (by simp [cBlank, *]),rfl⟩
theorem isAlpha_any (c : Int) (w : World) :
    Calls Tryz.prog 162 #[.int .u8 c] w fun e w' => e = .returned (.bool (cAlpha c)) ∧ w = w':=by
 go_enter Tryz.func162,Tryz.ntmps162
 go_wp2_with (first
  | (go_at_call 160;refine (isUpper_any _ _).mono ?_;rintro e w' ⟨rfl,rfl⟩)
  | (go_at_call 161;refine (isLower_any _ _).mono ?_;rintro e w' ⟨rfl,rfl⟩))
 all_goals
  go_ret
  exact ⟨ret_bool (by simp only [cAlpha];simp [*]),rfl⟩
theorem isAlnum_any (c : Int) (w : World) :
    Calls Tryz.prog 163 #[.int .u8 c] w fun e w' => e = .returned (.bool (cAlnum c)) ∧ w = w':=by
 go_enter Tryz.func163,Tryz.ntmps163
 go_wp2_with (first
  | (go_at_call 162;refine (isAlpha_any _ _).mono ?_;rintro e w' ⟨rfl,rfl⟩)
  | (go_at_call 151;refine (isDigit_any _ _).mono ?_;rintro e w' ⟨rfl,rfl⟩))
 all_goals
  go_ret
  exact ⟨ret_bool (by simp only [cAlnum];simp [*]),rfl⟩
def clsOf (s : List UInt8) (c : Int) : Option Bool :=
 if s == [117,112,112,101,114] then some (cUpper c)
 else if s == [108,111,119,101,114] then some (cLower c)
 else if s == [100,105,103,105,116] then some (cDigit c)
 else if s == [97,108,112,104,97] then some (cAlpha c)
 else if s == [97,108,110,117,109] then some (cAlnum c)
 else if s == [98,108,97,110,107] then some (cBlank c)
 else if s == [115,112,97,99,101] then some (cBlank c || isW c 10 13)
 else if s == [99,110,116,114,108] then some (decide (c < 32) || c == 127)
 else if s == [103,114,97,112,104] then some (cGraph c)
 else if s == [112,114,105,110,116] then some (cGraph c || c == 32)
 else if s == [112,117,110,99,116] then some (cGraph c && !cAlnum c)
 else if s == [120,100,105,103,105,116] then some (cDigit c || isW c 65 70 || isW c 97 102)
 else none
theorem is_any (s : ByteArray) (c : Int) (w : World) :
    Calls Tryz.prog 150 #[.string s,.int .u8 c] w fun e w' =>
     e = .returned (.tuple #[.bool ((clsOf s.toList c).getD false),.bool (clsOf s.toList c).isSome]) ∧ w = w':=by
 go_enter Tryz.func150,Tryz.ntmps150
 go_wp2_with (first
  | (go_at_call 160;refine (isUpper_any _ _).mono ?_;rintro e w' ⟨rfl,rfl⟩)
  | (go_at_call 161;refine (isLower_any _ _).mono ?_;rintro e w' ⟨rfl,rfl⟩)
  | (go_at_call 151;refine (isDigit_any _ _).mono ?_;rintro e w' ⟨rfl,rfl⟩)
  | (go_at_call 162;refine (isAlpha_any _ _).mono ?_;rintro e w' ⟨rfl,rfl⟩)
  | (go_at_call 163;refine (isAlnum_any _ _).mono ?_;rintro e w' ⟨rfl,rfl⟩)
  | (go_at_call 164;refine (isBlank_any _ _).mono ?_;rintro e w' ⟨rfl,rfl⟩)
  | (go_at_call 166;refine (isGraph_any _ _).mono ?_;rintro e w' ⟨rfl,rfl⟩)
  | (go_at_call 165;refine (within_any _ _ _ _).mono ?_;rintro e w' ⟨rfl,rfl⟩))
 all_goals
  go_ret2
  exact ⟨ret_bools (by simp [clsOf, *]) (by simp [clsOf, *]),rfl⟩
def inRow : List UInt8 → Int → Bool
 | a :: b :: r,c => isW c a.toNat b.toNat || inRow r c
 | _,_ => false
theorem isW_lo {c a b : Int} (h : c < a) : isW c a b = false:=by simp [isW];omega
theorem isW_hi {c a b : Int} (h : b < c) : isW c a b = false:=by simp [isW];omega
theorem isW_in {c a b : Int} (h : a ≤ c) (k : c ≤ b) : isW c a b = true:=by simp [isW];omega
theorem inRow_step (s : ByteArray) (k : Nat) (c : Int) (h : 2 * k + 1 < s.size) :
    inRow (s.data.toList.drop (2 * k)) c = (isW c (s[2 * k].toNat) (s[2 * k + 1].toNat) || inRow (s.data.toList.drop (2 * (k + 1))) c):=by
 have h1 : 2 * k < s.data.toList.length:=by rw [len_toList];omega
 have h2 : 2 * k + 1 < s.data.toList.length:=by rw [len_toList];omega
 rw [List.drop_eq_getElem_cons h1,List.drop_eq_getElem_cons h2]
 rfl
theorem inRow_end (s : ByteArray) (k : Nat) (c : Int) (h : s.size ≤ 2 * k + 1) : inRow (s.data.toList.drop (2 * k)) c = false:=by
 have hl : (s.data.toList.drop (2 * k)).length ≤ 1:=by
  rw [List.length_drop,len_toList];omega
 match h' : s.data.toList.drop (2 * k),hl with
 | [],_ => rfl
 | [_],_ => rfl
theorem in_any (s : ByteArray) (c : Int) (w : World) (hs : s.size ≤ 100) :
    Calls Tryz.prog 119 #[.string s,.int .u8 c] w fun e w' => e = .returned (.bool (inRow s.data.toList c)) ∧ w = w':=by
 go_enter Tryz.func119,Tryz.ntmps119
 go_wp2
 go_loop [5] (fun i => ∃ k : Nat,2 * k ≤ s.size ∧ i = .int .i64 ((2 * k : Nat) : Int) ∧ Hid (inRow s.data.toList c = inRow (s.data.toList.drop (2 * k)) c)) (fun i => s.size - (intOf i).toNat)
 case atStart => exact ⟨0,by omega,rfl,rfl⟩
 case round =>
  obtain ⟨k,hk,rfl,hr⟩:=hrel
  by_cases hlt : 2 * k + 1 < s.size
  · have hst:=lhi (inRow_step s k c hlt)
    go_wp2
    · go_ret
      refine ⟨ret_bool ?_,rfl⟩
      rw [hr.out,hst.out,isW_in (by omega) (by omega)];rfl
    · go_round
      case rel => exact ⟨k + 1,by omega,by go_num,by rw [hr.out,hst.out,isW_hi (by omega)];rfl⟩
      case measure => simp [intOf];omega
    · go_round
      case rel => exact ⟨k + 1,by omega,by go_num,by rw [hr.out,hst.out,isW_lo (by omega)];rfl⟩
      case measure => simp [intOf];omega
  · have hst:=lhi (inRow_end s k c (by omega))
    go_wp2
    go_ret
    exact ⟨ret_bool (by rw [hr.out,hst.out]),rfl⟩
theorem refIs_any (s : ByteArray) (c : Int) (w : World) :
    Calls Tryz.prog 134 #[.string s,.int .u8 c] w fun e w' =>
     e = .returned (.tuple #[.bool ((clsOf s.toList c).getD false),.bool (clsOf s.toList c).isSome]) ∧ w = w':=by
 go_enter Tryz.func134,Tryz.ntmps134
 go_wp2_with (go_at_call 119;refine (in_any _ _ _ (by decide)).mono ?_;rintro e w' ⟨rfl,rfl⟩)
 all_goals
  go_ret2
  refine ⟨ret_bools ?_ (by simp [clsOf, *]),rfl⟩
  rw [Bool.eq_iff_iff]
  simp [clsOf,inRow,cUpper,cLower,cDigit,cAlpha,cAlnum,cBlank,cGraph,isW, *] <;> omega
end Go.Proofs.YtonjnagcdnmcpaaGreatDoor
namespace Go.Proofs.YtonjnagcdnmcpaaGreatDoor
def bg (p l : List UInt8) : Bool:=p.isPrefixOf l
def betw (sg : UInt8) : List UInt8 → Option Nat
 | [] => none
 | x :: r => if bg [sg,93] (x :: r) then some 0 else (betw sg r).map (· + 1)
inductive Pc
 | bad (e : Nat)
 | cls (nm : List UInt8) (n : Nat)
 | one (c : UInt8) (n : Nat)
def Pc.n : Pc → Nat
 | .bad _ => 0
 | .cls _ n => n
 | .one _ n => n
def known (nm : List UInt8) : Bool:=(clsOf nm 0).isSome
def loneP (sg : UInt8) (l : List UInt8) : Pc :=
 match betw sg (l.drop 2) with
 | none => .bad 11
 | some i => if i = 1 then .one ((l.drop 2).headD 0) 5 else .bad 12
def clsP (l : List UInt8) : Pc :=
 match betw 58 (l.drop 2) with
 | none => .bad 11
 | some i => if known ((l.drop 2).take i) then .cls ((l.drop 2).take i) (i + 4) else .bad 12
def endP (l : List UInt8) : Pc :=
 if bg [91,46] l then loneP 46 l
 else if bg [91,61] l then loneP 61 l
 else if bg [92,110] l then .one 10 2
 else match l with
  | [] => .bad 11
  | c :: _ => .one c 1
def piece (l : List UInt8) : Pc:=if bg [91,58] l then clsP l else endP l
def joins (l : List UInt8) : Bool:=bg [45] l && !bg [45,93] l
def clsF (nm : List UInt8) : Nat → Bool:=fun x => (clsOf nm (x : Int)).getD false
def oneF (c : UInt8) : Nat → Bool:=ofB c.toNat
 where ofB (k : Nat) : Nat → Bool:=fun x => decide (k = x)
def rngF (a b : UInt8) : Nat → Bool:=fun x => decide (a.toNat ≤ x) && decide (x ≤ b.toNat)
def item (l : List UInt8) : Except Nat ((Nat → Bool) × Nat) :=
 match piece l with
 | .bad e => .error e
 | .cls nm n => if joins (l.drop n) then .error 3 else .ok (clsF nm,n)
 | .one c n => if joins (l.drop n) then
     match piece (l.drop (n + 1)) with
     | .bad e => .error e
     | .cls _ _ => .error 3
     | .one d m => if d < c then .error 3 else .ok (rngF c d,n + 1 + m)
  else .ok (oneF c,n)
theorem bg_nil (l : List UInt8) : bg [] l = true:=rfl
theorem bg_none (x : UInt8) (p : List UInt8) : bg (x :: p) [] = false:=rfl
theorem bg_cons (x y : UInt8) (p l : List UInt8) : bg (x :: p) (y :: l) = (x == y && bg p l):=rfl
theorem bg_take {p l : List UInt8} {n : Nat} (h : p.length ≤ n) : bg p (l.take n) = bg p l:=by
 induction p generalizing l n with
 | nil => rfl
 | cons x p ih =>
  cases l with
  | nil => simp
  | cons y l =>
   cases n with
   | zero => simp at h
   | succ n =>
    rw [List.take_succ_cons,bg_cons,bg_cons,ih (by simpa using h)]
theorem bg_agree {p l l' : List UInt8} {n : Nat} (ha : l.take n = l'.take n) (h : p.length ≤ n) : bg p l = bg p l':=by
 rw [← bg_take (l:=l) h,ha,bg_take h]
theorem bg_len {p l : List UInt8} (h : bg p l = true) : p.length ≤ l.length:=(List.isPrefixOf_iff_prefix.1 h).length_le
theorem drop_agree {l l' : List UInt8} {n : Nat} (ha : l.take n = l'.take n) (k : Nat) : (l.drop k).take (n - k) = (l'.drop k).take (n - k):=by
 rw [← List.drop_take,← List.drop_take,ha]
theorem take_agree {l l' : List UInt8} {n k : Nat} (ha : l.take n = l'.take n) (h : k ≤ n) : l.take k = l'.take k:=by
 have:=congrArg (List.take k) ha
 rwa [List.take_take,List.take_take,Nat.min_eq_left h] at this
theorem betw_len {sg : UInt8} {l : List UInt8} {i : Nat} (h : betw sg l = some i) : i + 2 ≤ l.length:=by
 induction l generalizing i with
 | nil => simp [betw] at h
 | cons x r ih =>
  unfold betw at h
  split at h
  · rename_i hb
    have:=bg_len hb
    simp at h this
    simp;omega
  · cases hr : betw sg r with
    | none => rw [hr] at h;simp at h
    | some j =>
     rw [hr] at h
     simp at h
     have:=ih hr
     simp;omega
theorem betw_agree {sg : UInt8} {l l' : List UInt8} {i n : Nat} (h : betw sg l = some i) (hn : i + 2 ≤ n) (ha : l.take n = l'.take n) : betw sg l' = some i:=by
 induction l generalizing i n l' with
 | nil => simp [betw] at h
 | cons x r ih =>
  cases n with
  | zero => omega
  | succ n =>
   cases l' with
   | nil => simp at ha
   | cons x' r' =>
    have hb:=bg_agree (p:=[sg,93]) ha (by simp;omega)
    unfold betw at h ⊢
    rw [← hb]
    split
    · rename_i h1
      rw [if_pos h1] at h
      exact h
    · rename_i h1
      rw [if_neg h1] at h
      cases hr : betw sg r with
      | none => rw [hr] at h;simp at h
      | some j =>
       rw [hr] at h
       simp at h
       simp only [List.take_succ_cons,List.cons.injEq] at ha
       rw [ih hr (by omega) ha.2]
       simp [h]
theorem index_betw (sg : UInt8) (l : List UInt8) : Lib.index l [sg,93] = match betw sg l with | none => -1 | some i => (i : Int):=by
 induction l with
 | nil => rfl
 | cons x r ih =>
  unfold Lib.index betw
  by_cases h : bg [sg,93] (x :: r) = true
  · rw [if_pos (show List.isPrefixOf [sg,93] (x :: r) = true from h),if_pos h];rfl
  · rw [if_neg (show ¬ List.isPrefixOf [sg,93] (x :: r) = true from h),if_neg h,ih]
    cases betw sg r with
    | none => rfl
    | some i =>
     have : ((i : Int) == -1) = false:=by simp
     simp [this]
theorem head_agree {l l' : List UInt8} {n : Nat} (ha : l.take (n + 1) = l'.take (n + 1)) : l.headD 0 = l'.headD 0:=by
 cases l <;> cases l' <;> simp_all
theorem loneP_agree {sg : UInt8} {l l' : List UInt8} {N : Nat} {c : UInt8} {n : Nat} (h : loneP sg l = .one c n) (hn : n ≤ N) (ha : l.take N = l'.take N) : loneP sg l' = .one c n:=by
 unfold loneP at h ⊢
 cases hb : betw sg (l.drop 2) with
 | none => rw [hb] at h;simp at h
 | some i =>
  rw [hb] at h
  simp only at h
  split at h
  · rename_i hi
    subst hi
    simp only [Pc.one.injEq] at h
    have hN : 5 ≤ N:=by omega
    have ha2:=drop_agree ha 2
    rw [betw_agree hb (n:=N - 2) (by omega) ha2]
    obtain ⟨m,hm⟩ : ∃ m,N - 2 = m + 1:=⟨N - 3,by omega⟩
    rw [hm] at ha2
    simp only [if_true,Pc.one.injEq]
    rw [← head_agree ha2]
    exact h
  · simp at h
theorem clsP_agree {l l' : List UInt8} {N : Nat} {nm : List UInt8} {n : Nat} (h : clsP l = .cls nm n) (hn : n ≤ N) (ha : l.take N = l'.take N) : clsP l' = .cls nm n:=by
 unfold clsP at h ⊢
 cases hb : betw 58 (l.drop 2) with
 | none => rw [hb] at h;simp at h
 | some i =>
  rw [hb] at h
  simp only at h
  split at h
  · rename_i hk
    simp only [Pc.cls.injEq] at h
    have ha2:=drop_agree ha 2
    rw [betw_agree hb (n:=N - 2) (by omega) ha2]
    have ht:=take_agree ha2 (k:=i) (by omega)
    simp only
    rw [← ht,if_pos hk,h.1,h.2]
  · simp at h
theorem loneP_size {sg : UInt8} {l : List UInt8} {c : UInt8} {n : Nat} (h : loneP sg l = .one c n) : n = 5 ∧ n ≤ l.length:=by
 unfold loneP at h
 cases hb : betw sg (l.drop 2) with
 | none => rw [hb] at h;simp at h
 | some i =>
  rw [hb] at h
  have:=betw_len hb
  rw [List.length_drop] at this
  simp only at h
  split at h
  · simp only [Pc.one.injEq] at h;omega
  · simp at h
theorem loneP_cls {sg : UInt8} {l : List UInt8} {nm : List UInt8} {n : Nat} : loneP sg l ≠ .cls nm n:=by
 unfold loneP
 split
 · simp
 · split <;> simp
theorem endP_cls {l : List UInt8} {nm : List UInt8} {n : Nat} : endP l ≠ .cls nm n:=by
 unfold endP
 split
 · exact loneP_cls
 · split
   · exact loneP_cls
   · split
     · simp
     · split <;> simp
theorem clsP_size {l : List UInt8} {nm : List UInt8} {n : Nat} (h : clsP l = .cls nm n) : 4 ≤ n ∧ n ≤ l.length:=by
 unfold clsP at h
 cases hb : betw 58 (l.drop 2) with
 | none => rw [hb] at h;simp at h
 | some i =>
  rw [hb] at h
  have:=betw_len hb
  rw [List.length_drop] at this
  simp only at h
  split at h
  · simp only [Pc.cls.injEq] at h;omega
  · simp at h
theorem clsP_one {l : List UInt8} {c : UInt8} {n : Nat} : clsP l ≠ .one c n:=by
 unfold clsP
 split
 · simp
 · split <;> simp
theorem endP_size {l : List UInt8} {c : UInt8} {n : Nat} (h : endP l = .one c n) : 1 ≤ n ∧ n ≤ l.length:=by
 unfold endP at h
 split at h
 · have:=loneP_size h;omega
 · split at h
   · have:=loneP_size h;omega
   · split at h
     · rename_i hb
       have:=bg_len hb
       simp at this
       simp only [Pc.one.injEq] at h;omega
     · split at h
       · simp at h
       · simp only [Pc.one.injEq] at h
         simp;omega
theorem piece_one_size {l : List UInt8} {c : UInt8} {n : Nat} (h : piece l = .one c n) : 1 ≤ n ∧ n ≤ l.length:=by
 unfold piece at h
 split at h
 · exact absurd h clsP_one
 · exact endP_size h
theorem piece_cls_size {l : List UInt8} {nm : List UInt8} {n : Nat} (h : piece l = .cls nm n) : 4 ≤ n ∧ n ≤ l.length:=by
 unfold piece at h
 split at h
 · exact clsP_size h
 · exact absurd h endP_cls
theorem piece_one_agree {l l' : List UInt8} {N : Nat} {c : UInt8} {n : Nat} (h : piece l = .one c n) (hn : n < N) (ha : l.take N = l'.take N) : piece l' = .one c n:=by
 have hs:=piece_one_size h
 have hN : 2 ≤ N:=by omega
 unfold piece at h ⊢
 rw [← bg_agree ha (p:=[91,58]) hN]
 split at h
 · exact absurd h clsP_one
 · rename_i h0
   rw [if_neg h0]
   unfold endP at h ⊢
   rw [← bg_agree ha (p:=[91,46]) hN,← bg_agree ha (p:=[91,61]) hN,← bg_agree ha (p:=[92,110]) hN]
   split at h
   · rename_i h1
     rw [if_pos h1]
     exact loneP_agree h (by omega) ha
   · rename_i h1
     rw [if_neg h1]
     split at h
     · rename_i h2
       rw [if_pos h2]
       exact loneP_agree h (by omega) ha
     · rename_i h2
       rw [if_neg h2]
       split at h
       · rename_i h3
         rw [if_pos h3]
         exact h
       · rename_i h3
         rw [if_neg h3]
         obtain ⟨m,rfl⟩ : ∃ m,N = m + 1:=⟨N - 1,by omega⟩
         cases l with
         | nil => simp at h
         | cons x r =>
          cases l' with
          | nil => simp at ha
          | cons x' r' =>
           simp only [List.take_succ_cons,List.cons.injEq] at ha
           simpa [← ha.1] using h
theorem piece_cls_agree {l l' : List UInt8} {N : Nat} {nm : List UInt8} {n : Nat} (h : piece l = .cls nm n) (hn : n ≤ N) (ha : l.take N = l'.take N) : piece l' = .cls nm n:=by
 have hs:=piece_cls_size h
 have hN : 2 ≤ N:=by omega
 unfold piece at h ⊢
 rw [← bg_agree ha (p:=[91,58]) hN]
 split at h
 · rename_i h0
   rw [if_pos h0]
   exact clsP_agree h hn ha
 · exact absurd h endP_cls
theorem joins_agree {l l' : List UInt8} {N : Nat} (h1 : 1 ≤ N) (h2 : bg [45] l = true → 2 ≤ N) (ha : l.take N = l'.take N) : joins l = joins l':=by
 unfold joins
 rw [← bg_agree ha (p:=[45]) h1]
 cases hb : bg [45] l
 · rfl
 · rw [← bg_agree ha (p:=[45,93]) (h2 hb)]
theorem item_size {l : List UInt8} {f : Nat → Bool} {n : Nat} (h : item l = .ok (f,n)) : 1 ≤ n ∧ n ≤ l.length:=by
 unfold item at h
 split at h
 · simp at h
 · rename_i nm k hp
   have:=piece_cls_size hp
   split at h
   · simp at h
   · simp only [Except.ok.injEq,Prod.mk.injEq] at h;omega
 · rename_i c k hp
   have hk:=piece_one_size hp
   split at h
   · split at h
     · simp at h
     · simp at h
     · rename_i d m hq
       have:=piece_one_size hq
       rw [List.length_drop] at this
       split at h
       · simp at h
       · simp only [Except.ok.injEq,Prod.mk.injEq] at h;omega
   · simp only [Except.ok.injEq,Prod.mk.injEq] at h;omega
theorem item_agree {l l' : List UInt8} {N : Nat} {f : Nat → Bool} {n : Nat} (h : item l = .ok (f,n)) (hn : n < N) (h2 : bg [45] (l.drop n) = true → n + 2 ≤ N) (ha : l.take N = l'.take N) : item l' = .ok (f,n):=by
 unfold item at h ⊢
 cases hp : piece l with
 | bad e => rw [hp] at h;simp at h
 | cls nm k =>
  rw [hp] at h
  simp only at h
  cases hj : joins (l.drop k) with
  | true => rw [hj] at h;simp at h
  | false =>
   rw [hj] at h
   simp only [Bool.false_eq_true,if_false,Except.ok.injEq,Prod.mk.injEq] at h
   obtain ⟨rfl,rfl⟩:=h
   rw [piece_cls_agree hp (by omega) ha]
   simp only
   rw [← joins_agree (N:=N - k) (by omega) (fun e => by have:=h2 e;omega) (drop_agree ha k),hj]
   rfl
 | one c k =>
  have hk:=piece_one_size hp
  rw [hp] at h
  simp only at h
  cases hj : joins (l.drop k) with
  | true =>
   rw [hj] at h
   simp only [if_true] at h
   cases hq : piece (l.drop (k + 1)) with
   | bad e => rw [hq] at h;simp at h
   | cls nm m => rw [hq] at h;simp at h
   | one d m =>
    have hm:=piece_one_size hq
    rw [hq] at h
    simp only at h
    split at h
    · simp at h
    · rename_i hd
      simp only [Except.ok.injEq,Prod.mk.injEq] at h
      obtain ⟨rfl,rfl⟩:=h
      rw [piece_one_agree hp (by omega) ha]
      simp only
      rw [← joins_agree (N:=N - k) (by omega) (fun _ => by omega) (drop_agree ha k),hj]
      simp only [if_true]
      rw [piece_one_agree hq (N:=N - (k + 1)) (by omega) (drop_agree ha (k + 1))]
      simp only
      rw [if_neg hd]
  | false =>
   rw [hj] at h
   simp only [Bool.false_eq_true,if_false,Except.ok.injEq,Prod.mk.injEq] at h
   obtain ⟨rfl,rfl⟩:=h
   rw [piece_one_agree hp (by omega) ha]
   simp only
   rw [← joins_agree (N:=N - k) (by omega) (fun e => by have:=h2 e;omega) (drop_agree ha k),hj]
   rfl
def orF (f g : Nat → Bool) : Nat → Bool:=fun c => f c || g c
def items (first : Bool) (l : List UInt8) (i : Nat) (acc : Nat → Bool) : Except Nat ((Nat → Bool) × Nat) :=
 if !first && bg [93] l then .ok (acc,i + 1)
 else match _h : item l with
  | .error e => .error e
  | .ok (f,n) => items false (l.drop n) (i + n) (orF acc f)
termination_by l.length
decreasing_by
 have:=item_size _h
 rw [List.length_drop];omega
theorem items_end {l : List UInt8} (i : Nat) (acc : Nat → Bool) (h : bg [93] l = true) : items false l i acc = .ok (acc,i + 1):=by
 rw [items,if_pos (by simpa using h)]
theorem items_err {first : Bool} {l : List UInt8} (i : Nat) (acc : Nat → Bool) {e : Nat} (h : (!first && bg [93] l) = false) (hi : item l = .error e) : items first l i acc = .error e:=by
 rw [items,if_neg (by simp [h])]
 split
 · rename_i e' he;rw [hi] at he;cases he;rfl
 · rename_i f n he;rw [hi] at he;cases he
theorem items_ok {first : Bool} {l : List UInt8} (i : Nat) (acc : Nat → Bool) {f : Nat → Bool} {n : Nat} (h : (!first && bg [93] l) = false) (hi : item l = .ok (f,n)) : items first l i acc = items false (l.drop n) (i + n) (orF acc f):=by
 rw [items,if_neg (by simp [h])]
 split
 · rename_i e' he;rw [hi] at he;cases he
 · rename_i f' n' he;rw [hi] at he;cases he;rfl
theorem items_ind {P : Bool → List UInt8 → Prop} (hE : ∀ l,bg [93] l = true → P false l) (hR : ∀ first l e,(!first && bg [93] l) = false → item l = .error e → P first l)
    (hO : ∀ first l f n,(!first && bg [93] l) = false → item l = .ok (f,n) → P false (l.drop n) → P first l) : ∀ first l,P first l:=by
 intro first l
 generalize hk : l.length = k
 induction k using Nat.strongRecOn generalizing first l with
 | ind k ih =>
  cases h : (!first && bg [93] l) with
  | true =>
   simp only [Bool.and_eq_true,Bool.not_eq_true'] at h
   obtain ⟨rfl,h⟩:=h
   exact hE l h
  | false =>
   cases hi : item l with
   | error e => exact hR first l e h hi
   | ok p =>
    obtain ⟨f,n⟩:=p
    have:=item_size hi
    exact hO first l f n h hi (ih _ (by rw [List.length_drop];omega) false (l.drop n) rfl)
theorem items_move (first : Bool) (l : List UInt8) : ∀ (i k : Nat) (acc : Nat → Bool),items first l (i + k) acc = match items first l i acc with | .error e => .error e | .ok (f,j) => .ok (f,j + k):=by
 refine items_ind (P:=fun first l => ∀ (i k : Nat) (acc : Nat → Bool),items first l (i + k) acc = match items first l i acc with | .error e => .error e | .ok (f,j) => .ok (f,j + k)) ?_ ?_ ?_ first l
 · intro l h i k acc
   rw [items_end _ _ h,items_end _ _ h]
   simp only [Except.ok.injEq,Prod.mk.injEq,true_and];omega
 · intro first l e h hi i k acc
   rw [items_err _ _ h hi,items_err _ _ h hi]
 · intro first l f n h hi ih i k acc
   rw [items_ok _ _ h hi,items_ok _ _ h hi,show i + k + n = i + n + k by omega,ih]
theorem items_size (first : Bool) (l : List UInt8) : ∀ (i : Nat) (acc f : Nat → Bool) (j : Nat),items first l i acc = .ok (f,j) → i + 1 ≤ j ∧ j ≤ i + l.length:=by
 refine items_ind (P:=fun first l => ∀ (i : Nat) (acc f : Nat → Bool) (j : Nat),items first l i acc = .ok (f,j) → i + 1 ≤ j ∧ j ≤ i + l.length) ?_ ?_ ?_ first l
 · intro l h i acc f j he
   rw [items_end _ _ h] at he
   have:=bg_len h
   simp at this
   simp only [Except.ok.injEq,Prod.mk.injEq] at he;omega
 · intro first l e h hi i acc f j he
   rw [items_err _ _ h hi] at he;cases he
 · intro first l g n h hi ih i acc f j he
   rw [items_ok _ _ h hi] at he
   have h1:=ih _ _ _ _ he
   have h2:=item_size hi
   rw [List.length_drop] at h1
   omega
theorem items_agree (first : Bool) (l : List UInt8) : ∀ (i : Nat) (acc f : Nat → Bool) (j : Nat) (l' : List UInt8),items first l i acc = .ok (f,j) → l.take (j - i) = l'.take (j - i) → items first l' i acc = .ok (f,j):=by
 refine items_ind (P:=fun first l => ∀ (i : Nat) (acc f : Nat → Bool) (j : Nat) (l' : List UInt8),items first l i acc = .ok (f,j) → l.take (j - i) = l'.take (j - i) → items first l' i acc = .ok (f,j)) ?_ ?_ ?_ first l
 · intro l h i acc f j l' he ha
   have hs:=items_size _ _ _ _ _ _ he
   rw [items_end _ _ h] at he
   rw [items_end _ _ (by rw [← bg_agree ha (p:=[93]) (by simp;omega)];exact h),he]
 · intro first l e h hi i acc f j l' he ha
   rw [items_err _ _ h hi] at he;cases he
 · intro first l g n h hi ih i acc f j l' he ha
   have hs:=items_size _ _ _ _ _ _ he
   rw [items_ok _ _ h hi] at he
   have h1:=items_size _ _ _ _ _ _ he
   have h2:=item_size hi
   have hq : (!first && bg [93] l') = false:=by rw [← bg_agree ha (p:=[93]) (by simp;omega)];exact h
   have hi' : item l' = .ok (g,n):=by
    refine item_agree hi (N:=j - i) (by omega) (fun h45 => ?_) ha
    have hne : bg [93] (l.drop n) = false:=by
     cases hd : l.drop n with
     | nil => rfl
     | cons x r =>
      rw [hd,bg_cons] at h45
      simp [bg_nil] at h45
      subst h45;rfl
    cases hn : item (l.drop n) with
    | error e => rw [items_err _ _ (by simp [hne]) hn] at he;cases he
    | ok p =>
     obtain ⟨f2,n2⟩:=p
     rw [items_ok _ _ (by simp [hne]) hn] at he
     have h3:=items_size _ _ _ _ _ _ he
     have h4:=item_size hn
     omega
   rw [items_ok _ _ hq hi']
   refine ih _ _ _ _ _ he ?_
   have:=drop_agree ha n
   rwa [show j - i - n = j - (i + n) by omega] at this
theorem loneP_err {sg : UInt8} {l : List UInt8} {e : Nat} (h : loneP sg l = .bad e) : e = 11 ∨ e = 12:=by
 unfold loneP at h
 split at h
 · simp at h;omega
 · split at h
   · simp at h
   · simp at h;omega
theorem clsP_err {l : List UInt8} {e : Nat} (h : clsP l = .bad e) : e = 11 ∨ e = 12:=by
 unfold clsP at h
 split at h
 · simp at h;omega
 · split at h
   · simp at h
   · simp at h;omega
theorem endP_err {l : List UInt8} {e : Nat} (h : endP l = .bad e) : e = 11 ∨ e = 12:=by
 unfold endP at h
 split at h
 · exact loneP_err h
 · split at h
   · exact loneP_err h
   · split at h
     · simp at h
     · split at h
       · simp at h;omega
       · simp at h
theorem piece_err {l : List UInt8} {e : Nat} (h : piece l = .bad e) : e = 11 ∨ e = 12:=by
 unfold piece at h
 split at h
 · exact clsP_err h
 · exact endP_err h
theorem item_err {l : List UInt8} {e : Nat} (h : item l = .error e) : e = 3 ∨ e = 11 ∨ e = 12:=by
 unfold item at h
 split at h
 · rename_i e' hp
   have:=piece_err hp
   simp at h;omega
 · split at h
   · simp at h;omega
   · simp at h
 · split at h
   · split at h
     · rename_i e' hp
       have:=piece_err hp
       simp at h;omega
     · simp at h;omega
     · split at h
       · simp at h;omega
       · simp at h
   · simp at h
theorem items_wrong (first : Bool) (l : List UInt8) : ∀ (i : Nat) (acc : Nat → Bool) (e : Nat),items first l i acc = .error e → e = 3 ∨ e = 11 ∨ e = 12:=by
 refine items_ind (P:=fun first l => ∀ (i : Nat) (acc : Nat → Bool) (e : Nat),items first l i acc = .error e → e = 3 ∨ e = 11 ∨ e = 12) ?_ ?_ ?_ first l
 · intro l h i acc e he
   rw [items_end _ _ h] at he;cases he
 · intro first l e' h hi i acc e he
   rw [items_err _ _ h hi] at he
   have:=item_err hi
   simp at he;omega
 · intro first l g n h hi ih i acc e he
   rw [items_ok _ _ h hi] at he
   exact ih _ _ _ he
def noneF : Nat → Bool:=fun _ => false
def negF (f : Nat → Bool) : Nat → Bool:=fun c => !f c
def readB (b : List UInt8) (k : Nat) : Except Nat ((Nat → Bool) × Nat) :=
 if bg [94] (b.drop k) then
  match items true (b.drop (k + 1)) (k + 1) noneF with
  | .error e => .error e
  | .ok (f,j) => .ok (negF f,j)
 else items true (b.drop k) k noneF
theorem readB_not {b : List UInt8} {k : Nat} (h : bg [94] (b.drop k) = true) : readB b k = match items true (b.drop (k + 1)) (k + 1) noneF with
    | .error e => .error e
    | .ok (f,j) => .ok (negF f,j):=by unfold readB;rw [if_pos h]
theorem readB_plain {b : List UInt8} {k : Nat} (h : bg [94] (b.drop k) = false) : readB b k = items true (b.drop k) k noneF:=by unfold readB;rw [if_neg (by simp [h])]
def told (r : Except Nat ((Nat → Bool) × Nat)) : (Nat → Bool) × Nat × Nat :=
 match r with
 | .error e => (noneF,0,e)
 | .ok (f,j) => (f,j,0)
end Go.Proofs.YtonjnagcdnmcpaaGreatDoor
