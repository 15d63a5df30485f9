/- Contracts and plain facts: M02. -/
import Derived.Test.YtbdfhmefjfaofaaM01
import Derived.Laws.BitsAllLaws
import Derived.Test.YtbdfhmefjfaofaaProg
import Derived.IntWalk
import Derived.Deep.QuietTactic
import Derived.BigQuiet
import Derived.Laws.StructEq
import Derived.Deep.MidRow
set_option linter.unusedVariables false
set_option linter.unusedSimpArgs false
set_option maxRecDepth 100000
set_option maxHeartbeats 32000000
namespace Go.Proofs.Ytbdfhmefjfaofaa
open Go.RowKit
def num (f : Nat → Bool) : Nat → Nat
 | 0 => 0
 | n + 1 => num f n + (if f n then 2 ^ n else 0)
theorem num_lt (f : Nat → Bool) (n : Nat) : num f n < 2 ^ n:=by
 induction n with
 | zero => simp [num]
 | succ n ih => simp only [num];have:=Nat.pow_succ 2 n;split <;> omega
theorem num_bit (f : Nat → Bool) (n i : Nat) : (num f n).testBit i = (decide (i < n) && f i):=by
 induction n with
 | zero => simp [num]
 | succ n ih =>
  simp only [num]
  have hl:=num_lt f n
  by_cases hf : f n
  · simp only [hf,if_true]
    rw [Nat.add_comm]
    by_cases h1 : i < n
    · rw [Nat.testBit_two_pow_add_gt h1,ih];simp [h1,Nat.lt_succ_of_lt h1]
    · by_cases h2 : i = n
      · subst h2;rw [Nat.testBit_two_pow_add_eq,ih];simp [hf]
      · have h3 : n < i:=by omega
        have h4 : ¬ i < n + 1:=by omega
        rw [Nat.testBit_lt_two_pow (nll (show 2 ^ n + num f n < 2 ^ (n + 1) by rw [Nat.pow_succ];omega) (Nat.pow_le_pow_right (by decide) h3))]
        simp [h4]
  · simp only [hf]
    rw [show num f n + (if false = true then 2 ^ n else 0) = num f n by simp,ih]
    by_cases h2 : i = n
    · subst h2;simp [hf]
    · have : (i < n) = (i < n + 1):=by apply propext;omega
      simp [this]
theorem num_congr {f g : Nat → Bool} {n : Nat} (h : ∀ i,i < n → f i = g i) : num f n = num g n:=by
 induction n with
 | zero => rfl
 | succ n ih => simp only [num];rw [ih (fun i hi => h i (by omega)),h n (by omega)]
theorem num_inj {f g : Nat → Bool} {n : Nat} (h : num f n = num g n) (i : Nat) (hi : i < n) : f i = g i:=by
 have h1:=num_bit f n i
 rw [h,num_bit] at h1
 simpa [hi] using h1.symm
theorem num_of (x n : Nat) (h : x < 2 ^ n) : num (fun i => x.testBit i) n = x:=by
 apply Nat.eq_of_testBit_eq
 intro i
 rw [num_bit]
 by_cases hi : i < n
 · simp [hi]
 · simp [hi,Nat.testBit_lt_two_pow (nll h (Nat.pow_le_pow_right (by decide) (Nat.not_lt.1 hi)))]
def wd (f : Nat → Bool) (k : Nat) : Nat:=num (fun i => f (64 * k + i)) 64
theorem wd_lt (f : Nat → Bool) (k : Nat) : wd f k < 18446744073709551616:=num_lt _ 64
theorem wd_bit (f : Nat → Bool) (k i : Nat) (hi : i < 64) : (wd f k).testBit i = f (64 * k + i):=by
 unfold wd;rw [num_bit];simp [hi]
theorem wd_congr {f g : Nat → Bool} {k : Nat} (h : ∀ i,i < 64 → f (64 * k + i) = g (64 * k + i)) : wd f k = wd g k:=num_congr h
theorem wd_inj {f g : Nat → Bool} {k : Nat} (h : wd f k = wd g k) (i : Nat) (hi : i < 64) : f (64 * k + i) = g (64 * k + i):=num_inj h i hi
theorem wd_none (k : Nat) : wd (fun _ => false) k = 0:=by
 apply Nat.eq_of_testBit_eq
 intro i
 unfold wd
 rw [num_bit];simp
theorem wd_or (f : Nat → Bool) (k i : Nat) (hi : i < 64) : wd f k ||| 2 ^ i = wd (fun c => f c || decide (c = 64 * k + i)) k:=by
 apply Nat.eq_of_testBit_eq
 intro j
 rw [Nat.testBit_or,Nat.testBit_two_pow]
 unfold wd
 rw [num_bit,num_bit]
 by_cases hj : j < 64
 · have : (i = j) = (64 * k + j = 64 * k + i):=by apply propext;omega
   simp [hj,this]
 · have : ¬ i = j:=by omega
   simp [hj,this]
theorem wd_and (f : Nat → Bool) (k i : Nat) (hi : i < 64) : wd f k &&& 2 ^ i = if f (64 * k + i) then 2 ^ i else 0:=by
 apply Nat.eq_of_testBit_eq
 intro j
 rw [Nat.testBit_and,Nat.testBit_two_pow]
 by_cases hj : i = j
 · subst hj
   rw [wd_bit f k i hi]
   cases f (64 * k + i) <;> simp
 · cases f (64 * k + i) <;> simp [hj]
def bitN (c : Nat) : Nat:=2 ^ (c % 64)
theorem bitN_lt (c : Nat) : bitN c < 18446744073709551616:=Nat.pow_lt_pow_right (by decide) (show c % 64 < 64 by omega)
theorem bitN_of {c k i : Nat} (h : c = 64 * k + i) (hi : i < 64) : bitN c = 2 ^ i:=by unfold bitN;rw [show c % 64 = i by omega]
theorem and_ne (f : Nat → Bool) (c k i : Nat) (h : c = 64 * k + i) (hi : i < 64) : (bits .and .u64 ((wd f k : Nat) : Int) ((bitN c : Nat) : Int) != 0) = f c:=by
 have hb:=bitN_lt c
 have hp : 0 < 2 ^ i:=Nat.pow_pos (by decide)
 rw [bitN_of h hi] at hb ⊢
 rw [u64_and_nat _ _ (wd_lt f k) hb,wd_and f k i hi,← h]
 cases f c
 · rfl
 · simp only [if_true]
   rw [bne_iff_ne]
   generalize 2 ^ i = z at hp
   omega
theorem or_bit (f : Nat → Bool) (c k i : Nat) (h : c = 64 * k + i) (hi : i < 64) : bits .or .u64 ((wd f k : Nat) : Int) ((bitN c : Nat) : Int) = ((wd (fun x => f x || decide (x = c)) k : Nat) : Int):=by
 have hb:=bitN_lt c
 rw [u64_or_nat _ _ (wd_lt f k) hb,bitN_of h hi,wd_or f k i hi,← h]
theorem byte_parts (c : Nat) (hc : c < 256) : ∃ k i : Nat,c = 64 * k + i ∧ i < 64 ∧ (k = 0 ∨ k = 1 ∨ k = 2 ∨ k = 3):=⟨c / 64,c % 64,by omega,by omega,by omega⟩
theorem tdiv_of {c k i : Nat} (h : c = 64 * k + i) (hi : i < 64) : (c : Int).tdiv 64 = (k : Int):=by
 rw [Int.tdiv_eq_ediv_of_nonneg (by omega)];omega
theorem ediv_of {c k i : Nat} (h : c = 64 * k + i) (hi : i < 64) : (c : Int) / 64 = (k : Int):=by omega
theorem wd_more (f : Nat → Bool) (c k k' i : Nat) (h : c = 64 * k + i) (hi : i < 64) (hk : k' ≠ k) : wd (fun x => f x || decide (x = c)) k' = wd f k' :=
 wd_congr fun j hj => by
  have : ¬ 64 * k' + j = c:=by omega
  simp [this]
def setC (f : Nat → Bool) : Array Value:=#[.int .u64 (wd f 0 : Nat),.int .u64 (wd f 1 : Nat),.int .u64 (wd f 2 : Nat),.int .u64 (wd f 3 : Nat)]
def setV (f : Nat → Bool) : Value:=.agg (setC f)
def alike (f g : Nat → Bool) : Prop:=∀ c,c < 256 → f c = g c
theorem alike.wd {f g : Nat → Bool} (h : alike f g) (k : Nat) (hk : k < 4) : wd f k = wd g k:=wd_congr fun i hi => h _ (by omega)
theorem alike.setV {f g : Nat → Bool} (h : alike f g) : setV f = setV g:=by
 unfold Go.Proofs.Ytbdfhmefjfaofaa.setV setC;rw [h.wd 0 (by decide),h.wd 1 (by decide),h.wd 2 (by decide),h.wd 3 (by decide)]
theorem alike_of {f g : Nat → Bool} (h0 : Go.Proofs.Ytbdfhmefjfaofaa.wd f 0 = Go.Proofs.Ytbdfhmefjfaofaa.wd g 0) (h1 : Go.Proofs.Ytbdfhmefjfaofaa.wd f 1 = Go.Proofs.Ytbdfhmefjfaofaa.wd g 1) (h2 : Go.Proofs.Ytbdfhmefjfaofaa.wd f 2 = Go.Proofs.Ytbdfhmefjfaofaa.wd g 2) (h3 : Go.Proofs.Ytbdfhmefjfaofaa.wd f 3 = Go.Proofs.Ytbdfhmefjfaofaa.wd g 3) : alike f g:=fun c hc => by
 have e : 64 * (c / 64) + c % 64 = c:=by omega
 have hi : c % 64 < 64:=by omega
 have hk : c / 64 = 0 ∨ c / 64 = 1 ∨ c / 64 = 2 ∨ c / 64 = 3:=by omega
 rw [← e]
 rcases hk with h | h | h | h <;> rw [h]
 · exact wd_inj h0 _ hi
 · exact wd_inj h1 _ hi
 · exact wd_inj h2 _ hi
 · exact wd_inj h3 _ hi
theorem set_of (a b c d : Nat) (ha : a < 18446744073709551616) (hb : b < 18446744073709551616) (hc : c < 18446744073709551616) (hd : d < 18446744073709551616) :
    ∃ f,wd f 0 = a ∧ wd f 1 = b ∧ wd f 2 = c ∧ wd f 3 = d:=by
 refine ⟨fun x => if x < 64 then a.testBit x else if x < 128 then b.testBit (x - 64) else if x < 192 then c.testBit (x - 128) else d.testBit (x - 192),?_,?_,?_,?_⟩
 · rw [← num_of a 64 ha]
   exact num_congr fun i hi => by simp [hi,num_of a 64 ha]
 · rw [← num_of b 64 hb]
   exact num_congr fun i hi => by
    have h1 : ¬ 64 * 1 + i < 64:=by omega
    have h2 : 64 * 1 + i < 128:=by omega
    simp only [h1,h2,if_true,if_false,num_of b 64 hb]
    rw [show 64 * 1 + i - 64 = i by omega]
 · rw [← num_of c 64 hc]
   exact num_congr fun i hi => by
    have h1 : ¬ 64 * 2 + i < 64:=by omega
    have h2 : ¬ 64 * 2 + i < 128:=by omega
    have h3 : 64 * 2 + i < 192:=by omega
    simp only [h1,h2,h3,if_true,if_false,num_of c 64 hc]
    rw [show 64 * 2 + i - 128 = i by omega]
 · rw [← num_of d 64 hd]
   exact num_congr fun i hi => by
    have h1 : ¬ 64 * 3 + i < 64:=by omega
    have h2 : ¬ 64 * 3 + i < 128:=by omega
    have h3 : ¬ 64 * 3 + i < 192:=by omega
    simp only [h1,h2,h3,if_false,num_of d 64 hd]
    rw [show 64 * 3 + i - 192 = i by omega]
theorem set_size (f : Nat → Bool) : (Try.prog.info? 51).map (·.size) = some (setC f).size:=by kernel_rfl
def SetAt (w : World) (g : Nat) (f : Nat → Bool) : Prop:=w.heap[g]? = some (.cells (setC f) 51 (0,0))
section
variable {w w' : World} {g : Nat} {f : Nat → Bool}
theorem SetAt.lt (h : SetAt w g f) : g < w.heap.size:=by
 unfold SetAt at h
 exact (Array.getElem?_eq_some_iff.1 h).1
theorem SetAt.cell (h : SetAt w g f) (k : Nat) (hk : k = 0 ∨ k = 1 ∨ k = 2 ∨ k = 3) : w.cell? ⟨g,k,none⟩ = some (.int .u64 ((wd f k : Nat) : Int)):=by
 rw [cell_of_row w g k _ _ _ h]
 rcases hk with rfl | rfl | rfl | rfl <;> rfl
theorem SetAt.cell' (h : SetAt w g f) {k : Nat} (hk : k = 0 ∨ k = 1 ∨ k = 2 ∨ k = 3) : w.cell? ⟨g,k,none⟩ = some (.int .u64 ((wd f k : Nat) : Int)):=h.cell k hk
theorem SetAt.thawed (h : SetAt w g f) (k : Nat) : w.frozen? ⟨g,k,none⟩ = false:=frozen_of_row w g k _ _ h
theorem SetAt.below {B : Nat} (h : SetAt w g f) (hb : Below B w w') (hg : g < B) : SetAt w' g f:=by
 unfold SetAt at h ⊢;rw [hb.block g hg];exact h
theorem SetAt.put (h : SetAt w g f) (f' : Nat → Bool) : SetAt (w.setRow g (setC f')) g f':=setRow_heap w g _ _ _ _ h
theorem SetAt.alloc (h : SetAt w g f) (o : Obj) : SetAt (w.alloc o) g f:=by
 have hl:=h.lt
 unfold SetAt at h ⊢;rw [Below.heap_alloc w o g hl];exact h
theorem set_new (w : World) (f : Nat → Bool) : SetAt (w.alloc (.cells (setC f) 51)) w.heap.size f:=heap_alloc_new _ _
theorem SetAt.drew (h : SetAt w g f) (n : Nat) : SetAt (w.drewN n) g f:=h
end
def sameS (f g : Nat → Bool) : Bool:=decide (wd f 0 = wd g 0 ∧ wd f 1 = wd g 1 ∧ wd f 2 = wd g 2 ∧ wd f 3 = wd g 3)
theorem sameS_iff (f g : Nat → Bool) : sameS f g = true ↔ alike f g:=by
 unfold sameS
 rw [decide_eq_true_eq]
 exact ⟨fun ⟨h0,h1,h2,h3⟩ => alike_of h0 h1 h2 h3,fun h => ⟨h.wd 0 (by decide),h.wd 1 (by decide),h.wd 2 (by decide),h.wd 3 (by decide)⟩⟩
theorem sameS_of {f g : Nat → Bool} (h : alike f g) : sameS f g = true:=(sameS_iff f g).2 h
theorem guard_set : Try.prog.eqGuardType Try.prog.depth 51 = false:=by kernel_rfl
theorem size_u64 : (Try.prog.info? 49).map (·.size) = some 1:=by kernel_rfl
theorem run_size_u64 (w : World) : (sizeOf 49).run Try.prog w = .ok 1 w:=by
 obtain ⟨i,hi,hs⟩:=Option.map_eq_some_iff.1 size_u64
 simp [sizeOf,typeInfo,hi,hs]
theorem run_isAgg_u64 (w : World) : (isAgg 49).run Try.prog w = .ok false w:=by
 unfold isAgg
 rw [Sem.run_bind,run_underlying Try.underlying49]
 rfl
theorem run_part_u64 (w : World) (x : Int) (c : Array Value) (i : Nat) (h : c[i]? = some (.int .u64 x)) : (part 49 c (i * 1)).run Try.prog w = .ok (.int .u64 x) w:=by
 unfold part
 rw [Sem.run_bind,run_isAgg_u64]
 simp [h]
theorem run_equalIn_set' (D : Nat) (h : ∀ (a b : Int) (w : World),(Op.equalIn D 49 (.int .u64 a) (.int .u64 b)).run Try.prog w = .ok (a == b) w) (w : World) (f g : Nat → Bool) : (Op.equalIn (D + 1) 51 (setV f) (setV g)).run Try.prog w = .ok (sameS f g) w:=by
 have p0:=fun (f : Nat → Bool) (w : World) => run_part_u64 w ((wd f 0 : Nat) : Int) (setC f) 0 rfl
 have p1:=fun (f : Nat → Bool) (w : World) => run_part_u64 w ((wd f 1 : Nat) : Int) (setC f) 1 rfl
 have p2:=fun (f : Nat → Bool) (w : World) => run_part_u64 w ((wd f 2 : Nat) : Int) (setC f) 2 rfl
 have p3:=fun (f : Nat → Bool) (w : World) => run_part_u64 w ((wd f 3 : Nat) : Int) (setC f) 3 rfl
 unfold setV
 simp only [Op.equalIn,Sem.run_bind,run_underlying Try.underlying51,Result.andThen_ok,run_size_u64]
 have e4 : (List.range' 0 4) = [0,1,2,3]:=rfl
 simp only [Std.Legacy.Range.forIn_eq_forIn_range',Std.Legacy.Range.size,Nat.sub_zero,Nat.add_sub_cancel,Nat.div_one,e4,List.forIn_cons,List.forIn_nil,Sem.run_bind,p0,h,Result.andThen_ok]
 have hb : ∀ j,((((wd f j : Nat) : Int)) == ((wd g j : Nat) : Int)) = decide (wd f j = wd g j):=fun j => by
  rw [Bool.eq_iff_iff,beq_iff_eq,decide_eq_true_eq];omega
 simp only [hb]
 unfold sameS
 by_cases e0 : wd f 0 = wd g 0
 · by_cases e1 : wd f 1 = wd g 1
   · by_cases e2 : wd f 2 = wd g 2
     · by_cases e3 : wd f 3 = wd g 3
       · simp [e0,e1,e2,e3,p1,p2,p3,h,Sem.run_bind]
       · have e5 : ¬ ((wd f 3 : Nat) : Int) = ((wd g 3 : Nat) : Int):=by omega
         simp [e0,e1,e2,e3,e5,p1,p2,p3,h,Sem.run_bind]
     · simp [e0,e1,e2,p1,p2,h,hb,Sem.run_bind]
   · simp [e0,e1,p1,h,hb,Sem.run_bind]
 · simp [e0]
section
variable (w : World) (f g : Nat → Bool)
theorem run_equalIn_set : (Op.equalIn 10000 51 (setV f) (setV g)).run Try.prog w = .ok (sameS f g) w :=
 run_equalIn_set' 9999 (fun a b w => run_equalIn_int w 9998 _ .u64 .u64 a b Try.underlying49) w f g
theorem run_equalIn_lit : (Op.equalIn 10000 51 (.agg #[.int .u64 (wd f 0 : Nat),.int .u64 (wd f 1 : Nat),.int .u64 (wd f 2 : Nat),.int .u64 (wd f 3 : Nat)]) (.agg #[.int .u64 (wd g 0 : Nat),.int .u64 (wd g 1 : Nat),.int .u64 (wd g 2 : Nat),.int .u64 (wd g 3 : Nat)])).run Try.prog w = .ok (sameS f g) w :=
 run_equalIn_set w f g
end
structure Nod where
 kind : Int
 a : Int
 b : Int
 lo : Int
 hi : Int
 grp : Int
 set : Nat → Bool
def zset : Nat → Bool:=fun _ => false
def nodL (n : Nod) : List Value:=[.int .i64 n.kind,.int .i64 n.a,.int .i64 n.b,.int .i64 n.lo,.int .i64 n.hi,.int .i64 n.grp,.int .u64 (wd n.set 0 : Nat),.int .u64 (wd n.set 1 : Nat),.int .u64 (wd n.set 2 : Nat),.int .u64 (wd n.set 3 : Nat)]
def nodC (n : Nod) : Array Value:=(nodL n).toArray
def nodV (n : Nod) : Value:=.agg (nodC n)
theorem nodL_len (n : Nod) : (nodL n).length = 10:=rfl
theorem nod_one (n : Nod) : ∀ v ∈ nodL n,v.oneCell' = true:=by simp [nodL,Value.oneCell']
theorem nod_cells (n : Nod) : (nodC n).all (·.oneCell') = true:=all_oneCell_toArray (nod_one n)
noncomputable def sameN (n m : Nod) : Bool:=@decide (nodL n = nodL m) (Classical.propDecidable _)
theorem sameN_iff (n m : Nod) : sameN n m = true ↔ nodL n = nodL m:=by unfold sameN;exact @decide_eq_true_iff _ (Classical.propDecidable _)
theorem sameN_self (n : Nod) : sameN n n = true:=(sameN_iff n n).2 rfl
theorem nodL_iff (n m : Nod) : nodL n = nodL m ↔ n.kind = m.kind ∧ n.a = m.a ∧ n.b = m.b ∧ n.lo = m.lo ∧ n.hi = m.hi ∧ n.grp = m.grp ∧ sameS n.set m.set = true:=by
 have hb : ∀ k,(((wd n.set k : Nat) : Int) = ((wd m.set k : Nat) : Int)) ↔ wd n.set k = wd m.set k:=fun k => by omega
 simp only [nodL,List.cons.injEq,Value.int.injEq,true_and,and_true,hb]
 unfold sameS
 rw [decide_eq_true_eq]
theorem sameN_and (n m : Nod) : sameN n m = (decide (n.kind = m.kind) && (decide (n.a = m.a) && (decide (n.b = m.b) && (decide (n.lo = m.lo) && (decide (n.hi = m.hi) && (decide (n.grp = m.grp) && sameS n.set m.set)))))):=by
 rw [Bool.eq_iff_iff,sameN_iff,nodL_iff]
 simp only [Bool.and_eq_true,decide_eq_true_eq]
theorem size_nod : (Try.prog.info? 54).map (·.size) = some 10:=by kernel_rfl
theorem nod_size (n : Nod) : (Try.prog.info? 54).map (·.size) = some (nodC n).size:=size_nod
theorem guard_nod : Try.prog.eqGuardType Try.prog.depth 54 = false:=by kernel_rfl
theorem part_int (w : World) (n : Nod) (k : Nat) (x : Int) (h : (nodC n)[k]? = some (.int .i64 x)) : (part 3 (nodC n) k).run Try.prog w = .ok (.int .i64 x) w:=by
 unfold part
 have e : (isAgg 3).run Try.prog w = .ok false w:=by
  unfold isAgg
  rw [Sem.run_bind,run_underlying Try.underlying3]
  rfl
 rw [Sem.run_bind,e]
 simp [h]
theorem part_set (w : World) (n : Nod) : (part 51 (nodC n) 6).run Try.prog w = .ok (setV n.set) w:=by
 unfold part
 have e : (isAgg 51).run Try.prog w = .ok true w:=by
  unfold isAgg
  rw [Sem.run_bind,run_underlying Try.underlying51]
  rfl
 have hs : (sizeOf 51).run Try.prog w = .ok 4 w:=by
  obtain ⟨i,hi,hs⟩:=Option.map_eq_some_iff.1 (set_size n.set)
  simp [sizeOf,typeInfo,hi,hs,setC]
 rw [Sem.run_bind,e]
 simp only [Result.andThen_ok,if_true,Sem.run_bind,hs]
 simp [nodC,nodL,setV,setC]
def fldK (f : Field) : Bool × TypeId × Nat := (f.name != "_", f.type, f.offset)
theorem eqFields_cons (P : Program) (d : Nat) (xs ys : Array Value) (f : Field) (fs : List Field) (t : TypeId) (o : Nat) (h : fldK f = (true,t,o)) (a b : Value) (r : Bool) (w : World) (ha : (part t xs o).run P w = .ok a w) (hb : (part t ys o).run P w = .ok b w)
    (hr : (Op.equalIn d t a b).run P w = .ok r w) : (Op.eqFields d xs ys (f :: fs)).run P w = if r then (Op.eqFields d xs ys fs).run P w else .ok false w:=by
 simp only [fldK,Prod.mk.injEq,bne_iff_ne] at h
 obtain ⟨h1,h2,h3⟩:=h
 subst h2
 subst h3
 simp only [Op.eqFields,if_pos h1,Sem.run_bind,ha,hb,hr,Result.andThen_ok]
 cases r <;> simp
theorem flds_nod : (Try.prog.fieldsOf 54).toList.map fldK = [(true,3,0),(true,3,1),(true,3,2),(true,3,3),(true,3,4),(true,3,5),(true,51,6)]:=by kernel_rfl
theorem under_nod : Try.prog.underlying 54 = some (.struct (Try.prog.fieldsOf 54)):=by kernel_rfl
theorem stood_nod : Try.prog.stoodInHeld 54 = false:=by kernel_rfl
theorem int_beq (a b : Int) : (a == b) = decide (a = b):=by rw [Bool.eq_iff_iff,beq_iff_eq,decide_eq_true_eq]
theorem run_equalIn_nod (w : World) (n m : Nod) : (Op.equalIn 10000 54 (nodV n) (nodV m)).run Try.prog w = .ok (sameN n m) w:=by
 unfold nodV
 rw [run_equalIn_struct w 9999 _ _ _ under_nod stood_nod,sameN_and]
 have hf:=flds_nod
 generalize (Try.prog.fieldsOf 54).toList = L at hf
 match L,(show L.length = 7 by have:=congrArg List.length hf;simpa using this),hf with
 | [f0,f1,f2,f3,f4,f5,f6],_,hf =>
  simp only [List.map_cons,List.map_nil,List.cons.injEq,and_true] at hf
  obtain ⟨h0,h1,h2,h3,h4,h5,h6⟩:=hf
  have hi : ∀ a b : Int,(Op.equalIn 9999 3 (.int .i64 a) (.int .i64 b)).run Try.prog w = .ok (decide (a = b)) w:=fun a b => by
   rw [← int_beq];exact run_equalIn_int w 9998 _ .i64 .i64 a b Try.underlying3
  rw [eqFields_cons Try.prog 9999 _ _ f0 _ _ _ h0 _ _ _ w (part_int w n 0 n.kind rfl) (part_int w m 0 m.kind rfl) (hi _ _)]
  rw [eqFields_cons Try.prog 9999 _ _ f1 _ _ _ h1 _ _ _ w (part_int w n 1 n.a rfl) (part_int w m 1 m.a rfl) (hi _ _)]
  rw [eqFields_cons Try.prog 9999 _ _ f2 _ _ _ h2 _ _ _ w (part_int w n 2 n.b rfl) (part_int w m 2 m.b rfl) (hi _ _)]
  rw [eqFields_cons Try.prog 9999 _ _ f3 _ _ _ h3 _ _ _ w (part_int w n 3 n.lo rfl) (part_int w m 3 m.lo rfl) (hi _ _)]
  rw [eqFields_cons Try.prog 9999 _ _ f4 _ _ _ h4 _ _ _ w (part_int w n 4 n.hi rfl) (part_int w m 4 m.hi rfl) (hi _ _)]
  rw [eqFields_cons Try.prog 9999 _ _ f5 _ _ _ h5 _ _ _ w (part_int w n 5 n.grp rfl) (part_int w m 5 m.grp rfl) (hi _ _)]
  rw [eqFields_cons Try.prog 9999 _ _ f6 _ _ _ h6 _ _ _ w (part_set w n) (part_set w m) (run_equalIn_set' 9998 (fun a b w => run_equalIn_int w 9997 _ .u64 .u64 a b Try.underlying49) w n.set m.set)]
  simp only [Op.eqFields,Sem.run_pure]
  cases decide (n.kind = m.kind) <;> cases decide (n.a = m.a) <;> cases decide (n.b = m.b) <;> cases decide (n.lo = m.lo) <;> cases decide (n.hi = m.hi) <;> cases decide (n.grp = m.grp) <;> cases sameS n.set m.set <;> rfl
theorem nod_eql (w : World) (n m : Nod) : (binOp .eql 54 (nodV n) (nodV m)).run Try.prog w = .ok (.bool (sameN n m)) w :=
 (run_eql_struct w _ _ _).trans (by have:=run_equalIn_nod w n m;unfold nodV at this;rw [this];rfl)
theorem nod_guard (w : World) (op : BinOp) (x y : Operand) (n m : Nod) : (eqGuard op 54 x y (nodV n) (nodV m)).run Try.prog w = .ok () w:=run_eqGuard_agg w op _ x y _ _ guard_nod
def Nods (w : World) (B : Nat) (A : Option Addr) (ns : List Nod) : Prop :=
 ∀ (k : Nat) (h : k < ns.length),∃ ad,A = some ad ∧ ad.block < B ∧ ∀ j u,(nodL (ns[k]'h))[j]? = some u → w.cell? (ad.add (k * 10 + j)) = some u
section
variable {w w' : World} {B B' : Nat} {A : Option Addr} {ns : List Nod}
theorem spot_none {a : Addr} {v : Value} (h : w.cell? a = some v) : a.spot = none:=by
 unfold World.cell? at h
 split at h
 · split at h
   · cases h
   · simpa using ‹¬ a.spot.isSome = true›
 · cases h
theorem Nods.at_ (h : Nods w B A ns) {k : Nat} (hk : k < ns.length) : ∃ ad b o,A = some ad ∧ ad.add (k * 10) = ⟨b,o,none⟩ ∧ b < B ∧ w.rangeAt b o (nodL (ns[k]'hk)):=by
 obtain ⟨ad,h1,h2,h3⟩:=h k hk
 have h0:=spot_none (h3 0 _ rfl)
 rw [Nat.add_zero] at h0
 have e : ad.add (k * 10) = ⟨(ad.add (k * 10)).block,(ad.add (k * 10)).off,none⟩:=by rw [← h0]
 refine ⟨ad,_,_,h1,e,by rw [block_add];exact h2,fun j u hj => ?_⟩
 rw [← Addr.add_mid,← e,add_two]
 exact h3 j u hj
theorem Nods.keep (h : Nods w B A ns) (hk : ∀ p : Addr,p.block < B → w'.cell? p = w.cell? p) : Nods w' B A ns:=by
 intro k hlt
 obtain ⟨ad,hA,hb,hc⟩:=h k hlt
 exact ⟨ad,hA,hb,fun j u hj => (hk _ (by rw [block_add];exact hb)).trans (hc j u hj)⟩
theorem Nods.below (h : Nods w B A ns) (hb : Below B w w') : Nods w' B A ns:=h.keep fun _ hp => hb.cell hp
theorem Nods.more (h : Nods w B A ns) (hB : B ≤ B') : Nods w B' A ns:=fun k hk =>
 let ⟨ad,hA,hb,hc⟩:=h k hk;⟨ad,hA,nll hb hB,hc⟩
theorem Nods.none_ (w : World) (B : Nat) (A : Option Addr) : Nods w B A []:=fun _ h => absurd h (by simp)
theorem Nods.take (h : Nods w B A ns) (m : Nat) : Nods w B A (ns.take m):=fun k hk => by
 rw [List.length_take] at hk
 obtain ⟨ad,hA,hb,hc⟩:=h k (by omega)
 exact ⟨ad,hA,hb,fun j u hj => hc j u (by rw [List.getElem_take] at hj;exact hj)⟩
end
end Go.Proofs.Ytbdfhmefjfaofaa
