/- Contracts and plain facts: M02. -/
import Derived.Test.YtonjnagcdnmcpaaGreatDoorM01
import Derived.Laws.BitsAllLaws
import Derived.Laws.AppendOwn
import Derived.Laws.OwnMore
import Derived.OwnWalk
import Derived.Lib.AppendStr
set_option linter.unusedVariables false
set_option linter.unusedSimpArgs false
set_option maxRecDepth 100000
set_option maxHeartbeats 32000000
namespace Go.Proofs.YtonjnagcdnmcpaaGreatDoor
open Go.RowKit
def num (f : Nat → Bool) : Nat → Nat
 | 0 => 0
 | n + 1 => num f n + (if f n then 2 ^ n else 0)
theorem num_lt (f : Nat → Bool) (n : Nat) : num f n < 2 ^ n:=by
 induction n with
 | zero => simp [num]
 | succ n ih => simp only [num];have:=Nat.pow_succ 2 n;split <;> omega
theorem num_bit (f : Nat → Bool) (n i : Nat) : (num f n).testBit i = (decide (i < n) && f i):=by
 induction n with
 | zero => simp [num]
 | succ n ih =>
  simp only [num]
  have hl:=num_lt f n
  by_cases hf : f n
  · simp only [hf,if_true]
    rw [Nat.add_comm]
    by_cases h1 : i < n
    · rw [Nat.testBit_two_pow_add_gt h1,ih];simp [h1,Nat.lt_succ_of_lt h1]
    · by_cases h2 : i = n
      · subst h2;rw [Nat.testBit_two_pow_add_eq,ih];simp [hf]
      · have h3 : n < i:=by omega
        have h4 : ¬ i < n + 1:=by omega
        rw [Nat.testBit_lt_two_pow (nll (show 2 ^ n + num f n < 2 ^ (n + 1) by rw [Nat.pow_succ];omega) (Nat.pow_le_pow_right (by decide) h3))]
        simp [h4]
  · simp only [hf]
    rw [show num f n + (if false = true then 2 ^ n else 0) = num f n by simp,ih]
    by_cases h2 : i = n
    · subst h2;simp [hf]
    · have : (i < n) = (i < n + 1):=by apply propext;omega
      simp [this]
theorem num_cons (f : Nat → Bool) (n : Nat) : num f (n + 1) = 2 * num (fun i => f (i + 1)) n + (if f 0 then 1 else 0):=by
 induction n with
 | zero => simp [num]
 | succ n ih =>
  rw [num,ih]
  simp only [num,Nat.pow_succ]
  split <;> split <;> omega
theorem num_congr {f g : Nat → Bool} {n : Nat} (h : ∀ i,i < n → f i = g i) : num f n = num g n:=by
 induction n with
 | zero => rfl
 | succ n ih => simp only [num];rw [ih (fun i hi => h i (by omega)),h n (by omega)]
theorem num_inj {f g : Nat → Bool} {n : Nat} (h : num f n = num g n) (i : Nat) (hi : i < n) : f i = g i:=by
 have h1:=num_bit f n i
 rw [h,num_bit] at h1
 simpa [hi] using h1.symm
theorem num_of (x n : Nat) (h : x < 2 ^ n) : num (fun i => x.testBit i) n = x:=by
 apply Nat.eq_of_testBit_eq
 intro i
 rw [num_bit]
 by_cases hi : i < n
 · simp [hi]
 · simp [hi,Nat.testBit_lt_two_pow (nll h (Nat.pow_le_pow_right (by decide) (Nat.not_lt.1 hi)))]
def wd (f : Nat → Bool) (k : Nat) : Nat:=num (fun i => f (64 * k + i)) 64
theorem wd_lt (f : Nat → Bool) (k : Nat) : wd f k < 18446744073709551616:=num_lt _ 64
theorem wd_bit (f : Nat → Bool) (k i : Nat) (hi : i < 64) : (wd f k).testBit i = f (64 * k + i):=by
 unfold wd;rw [num_bit];simp [hi]
theorem wd_congr {f g : Nat → Bool} {k : Nat} (h : ∀ i,i < 64 → f (64 * k + i) = g (64 * k + i)) : wd f k = wd g k:=num_congr h
theorem wd_inj {f g : Nat → Bool} {k : Nat} (h : wd f k = wd g k) (i : Nat) (hi : i < 64) : f (64 * k + i) = g (64 * k + i):=num_inj h i hi
theorem wd_none (k : Nat) : wd (fun _ => false) k = 0:=by
 apply Nat.eq_of_testBit_eq
 intro i
 unfold wd
 rw [num_bit];simp
theorem wd_or (f : Nat → Bool) (k i : Nat) (hi : i < 64) : wd f k ||| 2 ^ i = wd (fun c => f c || decide (c = 64 * k + i)) k:=by
 apply Nat.eq_of_testBit_eq
 intro j
 rw [Nat.testBit_or,Nat.testBit_two_pow]
 unfold wd
 rw [num_bit,num_bit]
 by_cases hj : j < 64
 · have : (i = j) = (64 * k + j = 64 * k + i):=by apply propext;omega
   simp [hj,this]
 · have : ¬ i = j:=by omega
   simp [hj,this]
theorem wd_or2 (f g : Nat → Bool) (k : Nat) : wd f k ||| wd g k = wd (fun c => f c || g c) k:=by
 apply Nat.eq_of_testBit_eq
 intro j
 rw [Nat.testBit_or]
 unfold wd
 rw [num_bit,num_bit,num_bit]
 by_cases hj : j < 64 <;> simp [hj]
theorem wd_not (f : Nat → Bool) (k : Nat) : 18446744073709551615 - wd f k = wd (fun c => !f c) k:=by
 have h:=wd_lt f k
 apply Nat.eq_of_testBit_eq
 intro j
 rw [show 18446744073709551615 - wd f k = 2 ^ 64 - (wd f k + 1) by omega,Nat.testBit_two_pow_sub_succ (by omega)]
 unfold wd
 rw [num_bit,num_bit]
 by_cases hj : j < 64 <;> simp [hj]
theorem wd_and (f : Nat → Bool) (k i : Nat) (hi : i < 64) : wd f k &&& 2 ^ i = if f (64 * k + i) then 2 ^ i else 0:=by
 apply Nat.eq_of_testBit_eq
 intro j
 rw [Nat.testBit_and,Nat.testBit_two_pow]
 by_cases hj : i = j
 · subst hj
   rw [wd_bit f k i hi]
   cases f (64 * k + i) <;> simp
 · cases f (64 * k + i) <;> simp [hj]
def bitN (c : Nat) : Nat:=2 ^ (c % 64)
theorem bitN_lt (c : Nat) : bitN c < 18446744073709551616:=Nat.pow_lt_pow_right (by decide) (show c % 64 < 64 by omega)
theorem bitN_of {c k i : Nat} (h : c = 64 * k + i) (hi : i < 64) : bitN c = 2 ^ i:=by unfold bitN;rw [show c % 64 = i by omega]
theorem and_ne (f : Nat → Bool) (c k i : Nat) (h : c = 64 * k + i) (hi : i < 64) : (bits .and .u64 ((wd f k : Nat) : Int) ((bitN c : Nat) : Int) != 0) = f c:=by
 have hb:=bitN_lt c
 have hp : 0 < 2 ^ i:=Nat.pow_pos (by decide)
 rw [bitN_of h hi] at hb ⊢
 rw [u64_and_nat _ _ (wd_lt f k) hb,wd_and f k i hi,← h]
 cases f c
 · rfl
 · simp only [if_true]
   rw [bne_iff_ne]
   generalize 2 ^ i = z at hp
   omega
theorem or_bit (f : Nat → Bool) (c k i : Nat) (h : c = 64 * k + i) (hi : i < 64) : bits .or .u64 ((wd f k : Nat) : Int) ((bitN c : Nat) : Int) = ((wd (fun x => f x || decide (x = c)) k : Nat) : Int):=by
 have hb:=bitN_lt c
 rw [u64_or_nat _ _ (wd_lt f k) hb,bitN_of h hi,wd_or f k i hi,← h]
theorem byte_parts (c : Nat) (hc : c < 256) : ∃ k i : Nat,c = 64 * k + i ∧ i < 64 ∧ (k = 0 ∨ k = 1 ∨ k = 2 ∨ k = 3):=⟨c / 64,c % 64,by omega,by omega,by omega⟩
theorem tdiv_of {c k i : Nat} (h : c = 64 * k + i) (hi : i < 64) : (c : Int).tdiv 64 = (k : Int):=by
 rw [Int.tdiv_eq_ediv_of_nonneg (by omega)];omega
theorem ediv_of {c k i : Nat} (h : c = 64 * k + i) (hi : i < 64) : (c : Int) / 64 = (k : Int):=by omega
theorem wd_more (f : Nat → Bool) (c k k' i : Nat) (h : c = 64 * k + i) (hi : i < 64) (hk : k' ≠ k) : wd (fun x => f x || decide (x = c)) k' = wd f k' :=
 wd_congr fun j hj => by
  have : ¬ 64 * k' + j = c:=by omega
  simp [this]
def setC (f : Nat → Bool) : Array Value:=#[.int .u64 (wd f 0 : Nat),.int .u64 (wd f 1 : Nat),.int .u64 (wd f 2 : Nat),.int .u64 (wd f 3 : Nat)]
def setV (f : Nat → Bool) : Value:=.agg (setC f)
def alike (f g : Nat → Bool) : Prop:=∀ c,c < 256 → f c = g c
theorem alike.wd {f g : Nat → Bool} (h : alike f g) (k : Nat) (hk : k < 4) : wd f k = wd g k:=wd_congr fun i hi => h _ (by omega)
theorem alike.setV {f g : Nat → Bool} (h : alike f g) : setV f = setV g:=by
 unfold Go.Proofs.YtonjnagcdnmcpaaGreatDoor.setV setC;rw [h.wd 0 (by decide),h.wd 1 (by decide),h.wd 2 (by decide),h.wd 3 (by decide)]
theorem alike_of {f g : Nat → Bool} (h0 : Go.Proofs.YtonjnagcdnmcpaaGreatDoor.wd f 0 = Go.Proofs.YtonjnagcdnmcpaaGreatDoor.wd g 0) (h1 : Go.Proofs.YtonjnagcdnmcpaaGreatDoor.wd f 1 = Go.Proofs.YtonjnagcdnmcpaaGreatDoor.wd g 1) (h2 : Go.Proofs.YtonjnagcdnmcpaaGreatDoor.wd f 2 = Go.Proofs.YtonjnagcdnmcpaaGreatDoor.wd g 2) (h3 : Go.Proofs.YtonjnagcdnmcpaaGreatDoor.wd f 3 = Go.Proofs.YtonjnagcdnmcpaaGreatDoor.wd g 3) : alike f g:=fun c hc => by
 have e : 64 * (c / 64) + c % 64 = c:=by omega
 have hi : c % 64 < 64:=by omega
 have hk : c / 64 = 0 ∨ c / 64 = 1 ∨ c / 64 = 2 ∨ c / 64 = 3:=by omega
 rw [← e]
 rcases hk with h | h | h | h <;> rw [h]
 · exact wd_inj h0 _ hi
 · exact wd_inj h1 _ hi
 · exact wd_inj h2 _ hi
 · exact wd_inj h3 _ hi
theorem set_of (a b c d : Nat) (ha : a < 18446744073709551616) (hb : b < 18446744073709551616) (hc : c < 18446744073709551616) (hd : d < 18446744073709551616) :
    ∃ f,wd f 0 = a ∧ wd f 1 = b ∧ wd f 2 = c ∧ wd f 3 = d:=by
 refine ⟨fun x => if x < 64 then a.testBit x else if x < 128 then b.testBit (x - 64) else if x < 192 then c.testBit (x - 128) else d.testBit (x - 192),?_,?_,?_,?_⟩
 · rw [← num_of a 64 ha]
   exact num_congr fun i hi => by simp [hi,num_of a 64 ha]
 · rw [← num_of b 64 hb]
   exact num_congr fun i hi => by
    have h1 : ¬ 64 * 1 + i < 64:=by omega
    have h2 : 64 * 1 + i < 128:=by omega
    simp only [h1,h2,if_true,if_false,num_of b 64 hb]
    rw [show 64 * 1 + i - 64 = i by omega]
 · rw [← num_of c 64 hc]
   exact num_congr fun i hi => by
    have h1 : ¬ 64 * 2 + i < 64:=by omega
    have h2 : ¬ 64 * 2 + i < 128:=by omega
    have h3 : 64 * 2 + i < 192:=by omega
    simp only [h1,h2,h3,if_true,if_false,num_of c 64 hc]
    rw [show 64 * 2 + i - 128 = i by omega]
 · rw [← num_of d 64 hd]
   exact num_congr fun i hi => by
    have h1 : ¬ 64 * 3 + i < 64:=by omega
    have h2 : ¬ 64 * 3 + i < 128:=by omega
    have h3 : ¬ 64 * 3 + i < 192:=by omega
    simp only [h1,h2,h3,if_false,num_of d 64 hd]
    rw [show 64 * 3 + i - 192 = i by omega]
def cnt (f : Nat → Bool) : Nat → Nat
 | 0 => 0
 | n + 1 => cnt f n + (if f n then 1 else 0)
theorem cnt_le (f : Nat → Bool) (n : Nat) : cnt f n ≤ n:=by
 induction n with
 | zero => simp [cnt]
 | succ n ih => simp only [cnt];split <;> omega
theorem cnt_add (f : Nat → Bool) (n m : Nat) : cnt f (n + m) = cnt f n + cnt (fun i => f (n + i)) m:=by
 induction m with
 | zero => simp [cnt]
 | succ m ih => rw [Nat.add_succ];simp only [cnt];rw [ih];omega
theorem cnt_congr {f g : Nat → Bool} {n : Nat} (h : ∀ i,i < n → f i = g i) : cnt f n = cnt g n:=by
 induction n with
 | zero => rfl
 | succ n ih => simp only [cnt];rw [ih (fun i hi => h i (by omega)),h n (by omega)]
def elems (f : Nat → Bool) : Nat → List UInt8
 | 0 => []
 | n + 1 => elems f n ++ (if f n then [UInt8.ofNat n] else [])
theorem elems_len (f : Nat → Bool) (n : Nat) : (elems f n).length = cnt f n:=by
 induction n with
 | zero => rfl
 | succ n ih => simp only [elems,cnt,lla,ih];split <;> simp
theorem elems_any (f : Nat → Bool) (n c : Nat) (hn : n ≤ 256) (hc : c < n) : (elems f n).any (fun x => decide (x.toNat = c)) = f c:=by
 induction n with
 | zero => omega
 | succ n ih =>
  have hz : ∀ m,m ≤ n → (elems f m).any (fun x => decide (x.toNat = n)) = false:=by
   intro m hm
   induction m with
   | zero => rfl
   | succ m ihm =>
    simp only [elems,List.any_append,ihm (by omega),Bool.false_or]
    split
    · simp;omega
    · rfl
  simp only [elems,List.any_append]
  by_cases h : c = n
  · subst h
    rw [hz c (nlr _)]
    split
    · simp [*];omega
    · simp [*]
  · rw [ih (by omega) (by omega)]
    split
    · simp;intro h1;omega
    · simp
end Go.Proofs.YtonjnagcdnmcpaaGreatDoor
namespace Go.Proofs.YtonjnagcdnmcpaaGreatDoor
def endT (c : UInt8) : List UInt8 :=
 if c = 10 then [92,110]
 else if c = 93 ∨ c = 94 ∨ c = 45 ∨ c = 91 ∨ c = 92 then [91,46,c,46,93]
 else [c]
def rowT (a b : UInt8) : List UInt8:=if a = b then endT a else endT a ++ 45 :: endT b
theorem endT_piece (c : UInt8) (t : List UInt8) : piece (endT c ++ t) = .one c (endT c).length:=by
 unfold endT
 split
 · rename_i h
   subst h;rfl
 · rename_i h1
   split
   · rename_i h2
     rcases h2 with rfl | rfl | rfl | rfl | rfl <;> rfl
   · rename_i h2
     have h91 : ¬ c = 91:=fun e => h2 (by simp [e])
     have h92 : ¬ c = 92:=fun e => h2 (by simp [e])
     have a1 : ((91 : UInt8) == c) = false:=by simpa using fun e => h91 e.symm
     have a2 : ((92 : UInt8) == c) = false:=by simpa using fun e => h92 e.symm
     simp only [piece,endP,List.singleton_append,bg_cons,a1,a2,Bool.false_and,Bool.false_eq_true,if_false,lls]
theorem endT_head (c : UInt8) (t : List UInt8) : bg [45] (endT c ++ t) = false ∧ bg [93] (endT c ++ t) = false ∧ bg [94] (endT c ++ t) = false:=by
 unfold endT
 split
 · exact ⟨rfl,rfl,rfl⟩
 · split
   · exact ⟨rfl,rfl,rfl⟩
   · rename_i h
     refine ⟨?_,?_,?_⟩ <;> simp only [List.singleton_append,bg_cons,bg_nil,Bool.and_true,bef] <;> intro e <;> exact h (by simp [← e])
theorem endT_len (c : UInt8) : 1 ≤ (endT c).length ∧ (endT c).length ≤ 5:=by
 unfold endT
 split
 · simp
 · split <;> simp
theorem rowT_head (a b : UInt8) (t : List UInt8) : bg [45] (rowT a b ++ t) = false ∧ bg [93] (rowT a b ++ t) = false ∧ bg [94] (rowT a b ++ t) = false:=by
 unfold rowT
 split
 · exact endT_head a t
 · rw [List.append_assoc];exact endT_head a _
theorem bg45 {t : List UInt8} (h : bg [45] t = false) : joins t = false:=by simp [joins,h]
theorem rowT_item {a b : UInt8} (hab : a.toNat ≤ b.toNat) {t : List UInt8} (ht : bg [45] t = false) : ∃ f,item (rowT a b ++ t) = .ok (f,(rowT a b).length) ∧ ∀ x,f x = (decide (a.toNat ≤ x) && decide (x ≤ b.toNat)):=by
 unfold rowT
 by_cases h : a = b
 · subst h
   rw [if_pos rfl]
   refine ⟨oneF a,?_,?_⟩
   · unfold item
     rw [endT_piece]
     simp only
     rw [List.drop_left,bg45 ht]
     rfl
   · intro x
     unfold oneF oneF.ofB
     rw [Bool.eq_iff_iff]
     simp only [Bool.and_eq_true,decide_eq_true_eq]
     omega
 · rw [if_neg h]
   refine ⟨rngF a b,?_,fun x => rfl⟩
   unfold item
   rw [List.append_assoc,endT_piece]
   simp only
   rw [List.drop_left,List.cons_append]
   have hj : joins (45 :: (endT b ++ t)) = true:=by
    have:=(endT_head b t).2.1
    simp only [joins,bg_cons,bg_nil,this]
    rfl
   rw [hj,if_pos rfl]
   have hd : (endT a ++ 45 :: (endT b ++ t)).drop ((endT a).length + 1) = endT b ++ t:=by
    rw [← List.drop_drop,List.drop_left];rfl
   rw [hd,endT_piece]
   simp only
   rw [if_neg (by rw [UInt8.lt_iff_toNat_lt];omega)]
   simp only [lla,List.length_cons,Except.ok.injEq,Prod.mk.injEq,true_and]
   omega
def runE (f : Nat → Bool) (c : Nat) : Nat:=if c < 255 ∧ f (c + 1) = true then runE f (c + 1) else c
termination_by 256 - c
theorem runE_on {f : Nat → Bool} {c : Nat} (h : c < 255) (hf : f (c + 1) = true) : runE f c = runE f (c + 1):=by rw [runE,if_pos ⟨h,hf⟩]
theorem runE_off {f : Nat → Bool} {c : Nat} (h : ¬ (c < 255 ∧ f (c + 1) = true)) : runE f c = c:=by rw [runE,if_neg h]
theorem runE_spec (f : Nat → Bool) (k : Nat) : ∀ c,c + k = 255 → f c = true → c ≤ runE f c ∧ runE f c ≤ 255 ∧ (∀ x,c ≤ x → x ≤ runE f c → f x = true) ∧ (runE f c < 255 → f (runE f c + 1) = false):=by
 induction k with
 | zero =>
  intro c hc hf
  rw [runE_off (by omega)]
  exact ⟨by omega,by omega,fun x h1 h2 => by rw [show x = c by omega];exact hf,fun h => by omega⟩
 | succ k ih =>
  intro c hc hf
  by_cases h : f (c + 1) = true
  · rw [runE_on (by omega) h]
    obtain ⟨h1,h2,h3,h4⟩:=ih (c + 1) (by omega) h
    refine ⟨by omega,h2,fun x hx hx2 => ?_,h4⟩
    by_cases he : x = c
    · rw [he];exact hf
    · exact h3 x (by omega) hx2
  · rw [runE_off (fun e => h e.2)]
    exact ⟨by omega,by omega,fun x h1 h2 => by rw [show x = c by omega];exact hf,fun _ => by simpa using h⟩
def rowsL (f : Nat → Bool) (c : Nat) : List (List UInt8) :=
 if c < 256 then
  if f c then rowT (UInt8.ofNat c) (UInt8.ofNat (runE f c)) :: rowsL f (max c (runE f c) + 1)
  else rowsL f (c + 1)
 else []
termination_by 256 - c
theorem rowsL_end {f : Nat → Bool} {c : Nat} (h : 256 ≤ c) : rowsL f c = []:=by rw [rowsL,if_neg (by omega)]
theorem rowsL_out {f : Nat → Bool} {c : Nat} (h : c < 256) (hf : f c = false) : rowsL f c = rowsL f (c + 1):=by rw [rowsL,if_pos h,if_neg (by simp [hf])]
theorem rowsL_in {f : Nat → Bool} {c : Nat} (h : c < 256) (hf : f c = true) : rowsL f c = rowT (UInt8.ofNat c) (UInt8.ofNat (runE f c)) :: rowsL f (runE f c + 1):=by
 have:=(runE_spec f (255 - c) c (by omega) hf).1
 rw [rowsL,if_pos h,if_pos hf,Nat.max_eq_right this]
theorem rowsL_45 (f : Nat → Bool) (t : List UInt8) (k : Nat) : ∀ c,256 - c = k → bg [45] ((rowsL f c).flatten ++ 93 :: t) = false:=by
 induction k using Nat.strongRecOn with
 | ind k ih =>
  intro c hc
  by_cases h : c < 256
  · cases hf : f c with
    | false => rw [rowsL_out h hf];exact ih (256 - (c + 1)) (by omega) _ rfl
    | true => rw [rowsL_in h hf,List.flatten_cons,List.append_assoc];exact (rowT_head _ _ _).1
  · rw [rowsL_end (by omega)];rfl
theorem ofNat_toNat {c : Nat} (h : c < 256) : (UInt8.ofNat c).toNat = c:=by simp;omega
theorem rowsL_read (f : Nat → Bool) (t : List UInt8) (k : Nat) : ∀ c,256 - c = k → ∀ (first : Bool) (i : Nat) (acc : Nat → Bool),(first = true → rowsL f c ≠ []) →
    ∃ g,items first ((rowsL f c).flatten ++ 93 :: t) i acc = .ok (g,i + (rowsL f c).flatten.length + 1) ∧ ∀ x,x < 256 → g x = (acc x || (decide (c ≤ x) && f x)):=by
 induction k using Nat.strongRecOn with
 | ind k ih =>
  intro c hc first i acc hne
  by_cases h : c < 256
  · cases hf : f c with
    | false =>
     rw [rowsL_out h hf] at hne ⊢
     obtain ⟨g,h1,h2⟩:=ih (256 - (c + 1)) (by omega) _ rfl first i acc hne
     refine ⟨g,h1,fun x hx => ?_⟩
     rw [h2 x hx]
     by_cases he : x = c
     · subst he;simp [hf]
     · have : (c + 1 ≤ x) = (c ≤ x):=by apply propext;omega
       simp only [this]
    | true =>
     obtain ⟨e1,e2,e3,e4⟩:=runE_spec f (255 - c) c (by omega) hf
     rw [rowsL_in h hf,List.flatten_cons,List.append_assoc]
     have hh:=(rowT_head (UInt8.ofNat c) (UInt8.ofNat (runE f c)) ((rowsL f (runE f c + 1)).flatten ++ 93 :: t)).2.1
     obtain ⟨g1,g2,g3⟩:=rowT_item (a:=UInt8.ofNat c) (b:=UInt8.ofNat (runE f c)) (by rw [ofNat_toNat h,ofNat_toNat (by omega)];exact e1) (rowsL_45 f t _ (runE f c + 1) rfl)
     rw [items_ok i acc (by simp [hh]) g2,List.drop_left]
     obtain ⟨g,h1,h2⟩:=ih (256 - (runE f c + 1)) (by omega) _ rfl false (i + (rowT (UInt8.ofNat c) (UInt8.ofNat (runE f c))).length) (orF acc g1) (by simp)
     refine ⟨g,by rw [h1,lla];simp only [Except.ok.injEq,Prod.mk.injEq,true_and];omega,fun x hx => ?_⟩
     rw [h2 x hx]
     unfold orF
     rw [g3,ofNat_toNat h,ofNat_toNat (by omega),Bool.or_assoc]
     congr 1
     by_cases hx1 : c ≤ x
     · by_cases hx2 : x ≤ runE f c
       · have:=e3 x hx1 hx2
         simp [hx1,hx2,this]
       · have h5 : runE f c + 1 ≤ x:=by omega
         simp [hx1,hx2,h5]
     · have h5 : ¬ runE f c + 1 ≤ x:=by omega
       simp [hx1,h5]
  · rw [rowsL_end (by omega)] at hne ⊢
    have hfst : first = false:=by
     cases first with
     | false => rfl
     | true => exact absurd rfl (hne rfl)
    subst hfst
    refine ⟨acc,by rw [items_end i acc (by rfl)];rfl,fun x hx => ?_⟩
    have : ¬ c ≤ x:=by omega
    simp [this]
theorem rowsL_some (f : Nat → Bool) (k : Nat) : ∀ c x,256 - c = k → c ≤ x → x < 256 → f x = true → rowsL f c ≠ []:=by
 induction k using Nat.strongRecOn with
 | ind k ih =>
  intro c x hc h1 h2 hx
  cases hf : f c with
  | false =>
   rw [rowsL_out (by omega) hf]
   have : c ≠ x:=fun e => by rw [e,hx] at hf;cases hf
   exact ih (256 - (c + 1)) (by omega) _ x rfl (by omega) h2 hx
  | true => rw [rowsL_in (by omega) hf];simp
theorem rowsL_94 (f : Nat → Bool) (t : List UInt8) (k : Nat) : ∀ c,256 - c = k → bg [94] ((rowsL f c).flatten ++ 93 :: t) = false:=by
 induction k using Nat.strongRecOn with
 | ind k ih =>
  intro c hc
  by_cases h : c < 256
  · cases hf : f c with
    | false => rw [rowsL_out h hf];exact ih (256 - (c + 1)) (by omega) _ rfl
    | true => rw [rowsL_in h hf,List.flatten_cons,List.append_assoc];exact (rowT_head _ _ _).2.2
  · rw [rowsL_end (by omega)];rfl
def textR (empty : Bool) (f : Nat → Bool) : List UInt8 :=
 if empty then 91 :: 94 :: ((rowsL (negF f) 0).flatten ++ [93]) else 91 :: ((rowsL f 0).flatten ++ [93])
theorem textR_read (empty : Bool) (f : Nat → Bool) (he : empty = true ↔ ∀ c,c < 256 → f c = false) (t : List UInt8) :
    ∃ g,readB (textR empty f ++ t) 1 = .ok (g,(textR empty f).length) ∧ alike g f:=by
 cases empty with
 | true =>
  have h0:=he.1 rfl
  obtain ⟨g,h1,h2⟩:=rowsL_read (negF f) t 256 0 rfl true 2 noneF (fun _ => rowsL_some _ 256 0 0 rfl (nlr _) (by decide) (by simp [negF,h0 0 (by decide)]))
  refine ⟨negF g,?_,fun c hc => ?_⟩
  · rw [readB_not (by rfl)]
    have e : (textR true f ++ t).drop 2 = (rowsL (negF f) 0).flatten ++ 93 :: t:=by simp [textR]
    rw [e,h1]
    simp [textR];omega
  · have:=h2 c hc
    simp only [negF,this,noneF,h0 c hc]
    rfl
 | false =>
  have h0 : rowsL f 0 ≠ []:=by
   intro e
   have : ∀ c,c < 256 → f c = false:=fun c hc => by
    cases hf : f c with
    | false => rfl
    | true => exact absurd e (rowsL_some f 256 0 c rfl (Nat.zero_le _) hc hf)
   have:=he.2 this
   cases this
  obtain ⟨g,h1,h2⟩:=rowsL_read f t 256 0 rfl true 1 noneF (fun _ => h0)
  refine ⟨g,?_,fun c hc => ?_⟩
  · have e : (textR false f ++ t).drop 1 = (rowsL f 0).flatten ++ 93 :: t:=by simp [textR]
    rw [readB_plain (by rw [e];exact rowsL_94 f t 256 0 rfl),e,h1]
    simp [textR];omega
  · have:=h2 c hc
    simp [this,noneF]
end Go.Proofs.YtonjnagcdnmcpaaGreatDoor
namespace Go.Proofs.YtonjnagcdnmcpaaGreatDoor
open Go.RowKit
section
variable {P : Program} {w : World}
theorem run_append_nil (base : Nat) (t ty e : TypeId) (i : TypeInfo) (ht : P.underlying t = some (.slice e)) (hi : P.info? e = some i)
    (v : Value) (n : Nat) (xs : List Value) (hown : w.ownsRow base e 1 v n xs) (c : Nat) : (Builtin.append_ #[t,t] ty #[v,.slice none 0 c]).run P w = .ok v w:=by
 obtain ⟨_,⟨rfl,rfl⟩ | ⟨g,cap,cur,rfl,_,_,hnc,_⟩⟩:=hown
 · simp [Builtin.append_,run_underlying ht,sizeOf,typeInfo,hi,Builtin.lenOf,Builtin.firstCells]
 · simp [Builtin.append_,run_underlying ht,sizeOf,typeInfo,hi,Builtin.lenOf,Builtin.firstCells,hnc,storeCells]
theorem new_cells (w : World) (xs : List Value) (t : TypeId) : ∀ j u,xs[j]? = some u → (w.alloc (.cells xs.toArray t)).cell? ((⟨w.heap.size,0,none⟩ : Addr).add j) = some u:=by
 intro j u h
 rw [add_zero_off,cell_of_row _ _ j _ t _ (heap_alloc_new w _)]
 simpa using h
end
theorem bv_append (a b : List UInt8) : bv (a ++ b) = bv a ++ bv b:=by simp [bv]
theorem own_byt {w : World} {base : Nat} {e : TypeId} {v : Value} {n : Nat} {l : List UInt8} (h : w.ownsRow base e 1 v n (bv l)) :
    ∃ A cap,v = .slice A n cap ∧ n = l.length ∧ n ≤ cap ∧ cap ≤ maxLen ∧ Byt w w.heap.size A l:=by
 obtain ⟨hl,⟨rfl,rfl⟩ | ⟨g,cap,cur,rfl,_,hh,hnc,hcm,hsz,htake⟩⟩:=id h
 · have : l = []:=by simpa [bv] using hl
   subst this
   exact ⟨none,0,rfl,rfl,nlr _,by simp [maxLen],Byt.none_ _ _ _⟩
 · refine ⟨some ⟨g,0,none⟩,cap,rfl,by rw [bv_length] at hl;omega,hnc,hcm,Vals.byt ?_⟩
   intro k hk
   have hlt:=(h.lt g rfl).2
   refine ⟨_,rfl,hlt,?_⟩
   rw [← List.getElem?_eq_getElem hk]
   rw [add_zero_off,h.cellAt k (by rw [hl] at hk;exact hk)]
theorem own_vals {w : World} {base : Nat} {e : TypeId} {v : Value} {n : Nat} {xs : List Value} (h : w.ownsRow base e 1 v n xs) :
    ∃ A cap,v = .slice A n cap ∧ n = xs.length ∧ n ≤ cap ∧ cap ≤ maxLen ∧ Vals w w.heap.size A xs:=by
 obtain ⟨hl,⟨rfl,rfl⟩ | ⟨g,cap,cur,rfl,_,hh,hnc,hcm,hsz,htake⟩⟩:=id h
 · have : xs = []:=by simpa using hl
   subst this
   exact ⟨none,0,rfl,rfl,nlr _,by simp [maxLen],Vals.none_ _ _ _⟩
 · refine ⟨some ⟨g,0,none⟩,cap,rfl,by omega,hnc,hcm,?_⟩
   intro k hk
   have hlt:=(h.lt g rfl).2
   refine ⟨_,rfl,hlt,?_⟩
   rw [← List.getElem?_eq_getElem hk]
   rw [add_zero_off,h.cellAt k (by omega)]
theorem below_append {w0 w w' : World} {base : Nat} {e : TypeId} {size : Nat} {v : Value} {n : Nat} {xs : List Value} (hb : Below base w0 w) (hown : w.ownsRow base e size v n xs) (hbase : base ≤ w.heap.size) (hg : w.grownBy w' v.ownBlock) : Below base w0 w' :=
 hb.grown hg hbase (fun k hk => (hown.lt k hk).1)
end Go.Proofs.YtonjnagcdnmcpaaGreatDoor
