/- Contracts and plain facts: M51. -/
import Derived.Test.YtbdfhmefjfaofaaM16
set_option linter.unusedVariables false
set_option linter.unusedSimpArgs false
set_option maxRecDepth 100000
set_option maxHeartbeats 32000000
namespace Go.Proofs.Ytbdfhmefjfaofaa
open Go.RowKit
def halfN (x k : Nat) : Nat:=x / 2 ^ k
theorem halfN_zero (x : Nat) : halfN x 0 = x:=by simp [halfN]
theorem halfN_next (x k : Nat) : halfN x k / 2 = halfN x (k + 1):=by
 unfold halfN;rw [Nat.div_div_eq_div_mul,Nat.pow_succ]
theorem halfN_lt (x k : Nat) (h : x < 18446744073709551616) : halfN x k < 18446744073709551616:=Nat.lt_of_le_of_lt (Nat.div_le_self _ _) h
theorem halfN_end (f : Nat → Bool) (c k i : Nat) (h : c = 64 * k + i) (hi : i < 64) : ((((halfN (wd f k) i : Nat) : Int) % 2) == 1) = f c:=by
 have:=wd_bit f k i hi
 rw [← h,Nat.testBit_eq_decide_div_mod_eq] at this
 rw [← this]
 unfold halfN
 generalize wd f k / 2 ^ i = z
 rw [Bool.eq_iff_iff]
 simp only [beq_iff_eq,decide_eq_true_eq]
 omega
def RelHalf (x i0 : Nat) (v i : Value) : Prop:=∃ k : Nat,k ≤ i0 ∧ v = .int .u64 ((halfN x k : Nat) : Int) ∧ i = .int .u8 (k : Nat)
theorem RelHalf.mk {x i0 : Nat} {v i : Value} (h : ∃ k : Nat,k ≤ i0 ∧ v = .int .u64 ((halfN x k : Nat) : Int) ∧ i = .int .u8 (k : Nat)) : RelHalf x i0 v i:=h
theorem refHas_any (f : Nat → Bool) (c : Nat) (w : World) (hc : c < 256) :
    Calls Try.prog 38 #[setV f,.int .u8 (c : Int)] w fun e w' => e = .returned (.bool (f c)) ∧ Below w.heap.size w w':=by
 obtain ⟨K,i,he,hi,hK⟩:=byte_parts c hc
 have hA:=lhi (halfN_end f c K i he hi)
 have hx:=wd_lt f K
 have hs:=(set_new w f).cell' hK
 have h0:=tdiv_of he hi
 have h1:=ediv_of he hi
 have h2 : (c : Int).tmod 64 = (i : Int):=by rw [Int.tmod_eq_emod_of_nonneg (by omega)];omega
 have h3 : (c : Int) % 64 = (i : Int):=by omega
 have k0 : (0 : Int) ≤ (K : Int):=by omega
 have k1 : (K : Int) < 4:=by omega
 have k2 : IntKind.u8.wrap (K : Int) = (K : Int):=IntWalk.u8_in _ (by omega)
 have hi':=lhi hi
 clear he hK
 unfold setV setC
 unfold setC at hs
 go_enter Try.func38,Try.ntmps38
 go_wp2
 generalize wd f K = x at *
 go_loop [5,6] (RelHalf x i) (fun _ j => 64 - (intOf j).toNat)
 case atStart => exact RelHalf.mk ⟨0,by omega,by rw [halfN_zero],rfl⟩
 case round =>
  obtain ⟨k,hk,rfl,rfl⟩:=hrel
  have hl:=halfN_lt x k hx
  have hnx:=lhi (halfN_next x k)
  by_cases hlt : k < i
  · generalize halfN x k = z at *
    go_wp2
    go_round
    case rel => exact RelHalf.mk ⟨k + 1,by omega,by rw [← hnx.out];go_num,by go_num⟩
    case measure => simp [intOf];omega
  · obtain rfl : k = i:=by omega
    go_wp2
    go_ret
    exact ⟨ret_bool hA.out,(Below.refl _ _).alloc (nlr _) _⟩
def notS (f : Nat → Bool) (k : Nat) : Nat → Bool:=fun c => if c < 64 * k then !f c else f c
def RelNot (w : World) (f : Nat → Bool) (i : Value) (wr : World) : Prop :=
 ∃ k : Nat,k ≤ 4 ∧ i = .int .i64 (k : Nat) ∧ SetAt wr w.heap.size (notS f k) ∧ SetAt wr (w.heap.size + 1) (fun _ => false) ∧ Below w.heap.size w wr
theorem RelNot.mk {w : World} {f : Nat → Bool} {i : Value} {wr : World} (h : ∃ k : Nat,k ≤ 4 ∧ i = .int .i64 (k : Nat) ∧ SetAt wr w.heap.size (notS f k) ∧ SetAt wr (w.heap.size + 1) (fun _ => false) ∧ Below w.heap.size w wr) : RelNot w f i wr:=h
end Go.Proofs.Ytbdfhmefjfaofaa
