/- Contracts and plain facts: M04. -/
import Derived.Test.YtonjnagcdnmcpaaGreatDoorM03
import Derived.Deep.RegionWith
import Derived.Deep.RegionHeld3
set_option linter.unusedVariables false
set_option linter.unusedSimpArgs false
set_option maxRecDepth 100000
set_option maxHeartbeats 32000000
namespace Go.Proofs.YtonjnagcdnmcpaaGreatDoor
open Go.RowKit
theorem pow_small (c : Nat) : (2 : Int) ^ (c % 64) % 18446744073709551616 = ((bitN c : Nat) : Int):=by
 have hb:=bitN_lt c
 have e : (2 : Int) ^ (c % 64) = ((bitN c : Nat) : Int):=by simp [bitN]
 rw [e]
 omega
theorem bit_any (c : Nat) (w : World) (hc : c < 256) :
    Calls Tryz.prog 102 #[.int .u8 (c : Int)] w fun e w' => e = .returned (.int .u64 ((bitN c : Nat) : Int)) ∧ w = w':=by
 have h1 : (0 : Int) ≤ (c : Int) % 64:=by omega
 have h2 : (c : Int) % 64 ≤ 64:=by omega
 have ht : ((c : Int) % 64).toNat = c % 64:=by omega
 go_enter Tryz.func102,Tryz.ntmps102
 go_wp2
 go_ret
 exact ⟨ret_int (pow_small c),rfl⟩
theorem has_any (f : Nat → Bool) (c : Nat) (w : World) (hc : c < 256) :
    Calls Tryz.prog 101 #[setV f,.int .u8 (c : Int)] w fun e w' => e = .returned (.bool (f c)) ∧ Below w.heap.size w w':=by
 unfold setV setC
 obtain ⟨k,i,he,hi,hk⟩:=byte_parts c hc
 have hA:=lhi (and_ne f c k i he hi)
 have h0:=tdiv_of he hi
 have h1:=ediv_of he hi
 clear he hi
 rcases hk with rfl | rfl | rfl | rfl
 all_goals
  go_enter Tryz.func101,Tryz.ntmps101
  go_wp2_with (go_quiet ((go_at_call 102;exact Calls.quiet_of_same ((bit_any c _ hc).mono fun e w' h => ⟨h.1,h.2.symm⟩))))
  go_ret
  exact ⟨ret_bool hA.out,below_drewN ((Below.refl _ _).alloc (nlr _) _) _⟩
section
variable {w w' : World} {g : Nat} {f : Nat → Bool}
theorem SetAt.more {c k i : Nat} (h : SetAt w g f) (he : c = 64 * k + i) (hi : i < 64) (hk : k = 0 ∨ k = 1 ∨ k = 2 ∨ k = 3) :
    SetAt (w.setCell ⟨g,k,none⟩ (.int .u64 (bits .or .u64 ((wd f k : Nat) : Int) ((bitN c : Nat) : Int)))) g (fun x => f x || decide (x = c)):=by
 unfold SetAt at h ⊢
 rw [heap_setCell_same w g k _ _ _ h,or_bit f c k i he hi]
 have hw : ∀ k',k' ≠ k → wd (fun x => f x || decide (x = c)) k' = wd f k':=fun k' hk' => wd_more f c k k' i he hi hk'
 unfold setC
 rcases hk with rfl | rfl | rfl | rfl
 · rw [hw 1 (by decide),hw 2 (by decide),hw 3 (by decide)];rfl
 · rw [hw 0 (by decide),hw 2 (by decide),hw 3 (by decide)];rfl
 · rw [hw 0 (by decide),hw 1 (by decide),hw 3 (by decide)];rfl
 · rw [hw 0 (by decide),hw 1 (by decide),hw 2 (by decide)];rfl
end
def ofL (l : List UInt8) : Nat → Bool:=fun c => l.any fun x => decide (x.toNat = c)
theorem ofL_next (l : List UInt8) (k : Nat) (h : k < l.length) : (fun x => ofL (l.take k) x || decide (x = (l[k]'h).toNat)) = ofL (l.take (k + 1)):=by
 funext x
 have e : l.take (k + 1) = l.take k ++ [l[k]'h]:=by simp
 unfold ofL
 rw [e,List.any_append]
 simp only [List.any_cons,List.any_nil,Bool.or_false]
 congr 1
 exact decide_eq_decide.2 ⟨fun h => h.symm,fun h => h.symm⟩
def RelOf (w : World) (l : List UInt8) (n : Nat) (i : Value) (wr : World) : Prop :=
 ∃ k : Nat,k ≤ n ∧ i = .int .i64 (k : Nat) ∧ SetAt wr w.heap.size (fun _ => false) ∧ SetAt wr (w.heap.size + 1) (ofL (l.take k)) ∧ Below w.heap.size w wr
theorem RelOf.mk {w : World} {l : List UInt8} {n : Nat} {i : Value} {wr : World} (h : ∃ k : Nat,k ≤ n ∧ i = .int .i64 (k : Nat) ∧ SetAt wr w.heap.size (fun _ => false) ∧ SetAt wr (w.heap.size + 1) (ofL (l.take k)) ∧ Below w.heap.size w wr) : RelOf w l n i wr:=h
theorem of_any (A : Option Addr) (n c : Nat) (l : List UInt8) (B : Nat) (w : World) (hn : n = l.length) (hnc : n ≤ c) (hm : c ≤ maxLen) (hB : B ≤ w.heap.size) (h : Byt w B A l) :
    Calls Tryz.prog 82 #[.slice A n c] w fun e w' => e = .returned (setV (ofL l)) ∧ Below w.heap.size w w':=by
 unfold maxLen at hm
 have hn':=lhi hn
 clear hn
 have hB':=lhi hB
 clear hB
 go_enter Tryz.func82,Tryz.ntmps82
 go_wp2
 go_loopw [8] (RelOf w l n) (fun i _ => n - (intOf i).toNat)
 case atStart => exact RelOf.mk ⟨0,by omega,rfl,(set_zero w).alloc _,set_zero_at _ _ (by simp),((Below.refl _ _).alloc (nlr _) _).alloc (by simp) _⟩
 case round =>
  obtain ⟨k,hk,rfl,hz,hs,hb⟩:=hrel
  by_cases hlt : k < n
  · have hkl : k < l.length:=by have:=hn'.out;omega
    obtain ⟨ad,hA,hadB,hd⟩:=(h.below (hb.mono hB'.out)).at_ hkl
    subst hA
    have hnx:=lhi (ofL_next l k hkl)
    have hc : (l[k]'hkl).toNat < 256:=UInt8.toNat_lt _
    generalize (l[k]'hkl).toNat = x at hd hnx hc
    obtain ⟨K,i,he,hi,hK⟩:=byte_parts x hc
    have h0:=tdiv_of he hi
    have h1:=ediv_of he hi
    have hs1:=hs.more he hi hK
    rw [hnx.out] at hs1
    have hs':=lhi hs1
    have hz':=lhi (hz.set_other (a:=⟨w.heap.size + 1,K,none⟩) (v:=.int .u64 (bits .or .u64 ((wd (ofL (l.take k)) K : Nat) : Int) ((bitN x : Nat) : Int))) (by show w.heap.size ≠ w.heap.size + 1;omega))
    have hb':=lhi (hb.setCell (p:=⟨w.heap.size + 1,K,none⟩) (by show w.heap.size ≤ w.heap.size + 1;omega) (.int .u64 (bits .or .u64 ((wd (ofL (l.take k)) K : Nat) : Int) ((bitN x : Nat) : Int))))
    have hlt':=lhi hlt
    have c0:=hs.cell' hK
    have f0:=hs.thawed K
    have k0 : (0 : Int) ≤ (K : Int):=by omega
    have k1 : (K : Int) < 4:=by omega
    have k2 : IntKind.u8.wrap (K : Int) = (K : Int):=IntWalk.u8_in _ (by omega)
    clear he hi hz hb hs hs1 hK
    go_wp2_with (first | (go_region_with ((go_at_call 102;refine (bit_any x _ hc).mono ?_;rintro e w' ⟨rfl,rfl⟩))) | fail)
    all_goals
     go_roundw
     case rel => exact RelOf.mk ⟨k + 1,hlt'.out,by go_num,hz'.out,hs'.out,hb'.out.drew⟩
     case measure => simp [intOf];omega
  · have hz':=lhi hz
    have hb':=lhi hb
    have hs':=lhi hs
    clear hz hb hs
    go_wp2_with (first
     | (refine wpList_load_row rfl 41 (.tmp 3) rfl (w.heap.size + 1) rfl 41 _ (0,0) _ hs'.out Tryz.underlying41 rfl (set_size _) ?_)
     | (refine wpList_store_row rfl 41 (.tmp 2) (.tmp 21) rfl w.heap.size (setC (ofL (l.take k))) rfl rfl 41 _ hz'.out (set_size _) (set_hold _ _) (set_cells _) ?_))
    have e : l.take k = l:=List.take_of_length_le (by have:=hn'.out;omega)
    refine bodyPost_ret (v:=setV (ofL (l.take k))) (results_cell_row Tryz.results82 _ _ w.heap.size 41 (setC (ofL (l.take k))) (0,0) _ rfl (hz'.out.put _) Tryz.underlying41 rfl (set_size _)) rfl ⟨by rw [e],below_put hb'.out (nlr _) _⟩
def rowS (a k : Nat) : Nat → Bool:=fun x => decide (a ≤ x) && decide (x < k)
theorem rowS_none (a : Nat) : rowS a a = fun _ => false:=by
 funext x;unfold rowS
 by_cases h : a ≤ x
 · have : ¬ x < a:=by omega
   simp [this]
 · simp [h]
theorem rowS_next (a k : Nat) (h : a ≤ k) : (fun x => rowS a k x || decide (x = k)) = rowS a (k + 1):=by
 funext x;unfold rowS
 rw [Bool.eq_iff_iff]
 simp only [Bool.or_eq_true,Bool.and_eq_true,decide_eq_true_eq]
 omega
def RelRow (w : World) (a b : Nat) (i : Value) (wr : World) : Prop :=
 ∃ k : Nat,a ≤ k ∧ (k ≤ b + 1 ∨ k = a) ∧ i = .int .i64 (k : Nat) ∧ SetAt wr w.heap.size (fun _ => false) ∧ SetAt wr (w.heap.size + 1) (rowS a k) ∧ Below w.heap.size w wr
theorem RelRow.mk {w : World} {a b : Nat} {i : Value} {wr : World} (h : ∃ k : Nat,a ≤ k ∧ (k ≤ b + 1 ∨ k = a) ∧ i = .int .i64 (k : Nat) ∧ SetAt wr w.heap.size (fun _ => false) ∧ SetAt wr (w.heap.size + 1) (rowS a k) ∧ Below w.heap.size w wr) : RelRow w a b i wr:=h
theorem range_any (a b : Nat) (w : World) (ha : a < 256) (hb' : b < 256) :
    Calls Tryz.prog 173 #[.int .u8 (a : Int),.int .u8 (b : Int)] w fun e w' => e = .returned (setV (fun x => decide (a ≤ x) && decide (x ≤ b))) ∧ Below w.heap.size w w':=by
 go_enter Tryz.func173,Tryz.ntmps173
 go_wp2
 go_loopw [6] (RelRow w a b) (fun i _ => 256 - (intOf i).toNat)
 case atStart => exact RelRow.mk ⟨a,by omega,.inr rfl,by go_num,(set_zero w).alloc _,by rw [rowS_none];exact set_zero_at _ _ (by simp),((Below.refl _ _).alloc (nlr _) _).alloc (by simp) _⟩
 case round =>
  obtain ⟨k,hak,hkb,rfl,hz,hs,hb⟩:=hrel
  by_cases hlt : k ≤ b
  · have hnx:=lhi (rowS_next a k hak)
    have hc : k < 256:=by omega
    obtain ⟨K,i,he,hi,hK⟩:=byte_parts k hc
    have h0:=tdiv_of he hi
    have h1:=ediv_of he hi
    have hs1:=hs.more he hi hK
    rw [hnx.out] at hs1
    have hs':=lhi hs1
    have hz':=lhi (hz.set_other (a:=⟨w.heap.size + 1,K,none⟩) (v:=.int .u64 (bits .or .u64 ((wd (rowS a k) K : Nat) : Int) ((bitN k : Nat) : Int))) (by show w.heap.size ≠ w.heap.size + 1;omega))
    have hb':=lhi (hb.setCell (p:=⟨w.heap.size + 1,K,none⟩) (by show w.heap.size ≤ w.heap.size + 1;omega) (.int .u64 (bits .or .u64 ((wd (rowS a k) K : Nat) : Int) ((bitN k : Nat) : Int))))
    have hlt':=lhi hlt
    have hak':=lhi hak
    have c0:=hs.cell' hK
    have f0:=hs.thawed K
    have k0 : (0 : Int) ≤ (K : Int):=by omega
    have k1 : (K : Int) < 4:=by omega
    have k2 : IntKind.i64.wrap (K : Int) = (K : Int):=IntWalk.i64_in _ (by omega)
    have k3 : IntKind.u8.wrap (k : Int) = (k : Int):=IntWalk.u8_in _ (by omega)
    have k4 : (k : Int) % 256 = (k : Int):=by omega
    clear he hi hz hb hs hs1 hK
    go_wp2_with (first | (go_region_with ((go_at_call 102;refine (bit_any k _ hc).mono ?_;rintro e w' ⟨rfl,rfl⟩))) | fail)
    all_goals
     clear k4
     go_roundw
     case rel => exact RelRow.mk ⟨k + 1,by have:=hak'.out;omega,.inl (by have:=hlt'.out;omega),by go_num,hz'.out,hs'.out,hb'.out.drew⟩
     case measure => simp [intOf];omega
  · have hz':=lhi hz
    have hb':=lhi hb
    have hs':=lhi hs
    have hkb':=lhi hkb
    have hlt':=lhi hlt
    clear hz hb hs hkb
    go_wp2_with (first
     | (refine wpList_load_row rfl 41 (.tmp 5) rfl (w.heap.size + 1) rfl 41 _ (0,0) _ hs'.out Tryz.underlying41 rfl (set_size _) ?_)
     | (refine wpList_store_row rfl 41 (.tmp 4) (.tmp 24) rfl w.heap.size (setC (rowS a k)) rfl rfl 41 _ hz'.out (set_size _) (set_hold _ _) (set_cells _) ?_))
    have e : setV (rowS a k) = setV (fun x => decide (a ≤ x) && decide (x ≤ b)):=by
     congr 1
     funext x;unfold rowS
     rw [Bool.eq_iff_iff]
     simp only [Bool.and_eq_true,decide_eq_true_eq]
     have:=hkb'.out;have:=hlt'.out
     omega
    refine bodyPost_ret (v:=setV (rowS a k)) (results_cell_row Tryz.results173 _ _ w.heap.size 41 (setC (rowS a k)) (0,0) _ rfl (hz'.out.put _) Tryz.underlying41 rfl (set_size _)) rfl ⟨by rw [e],below_put hb'.out (nlr _) _⟩
def halfN (x k : Nat) : Nat:=x / 2 ^ k
def RelHalf (x i0 : Nat) (v i : Value) : Prop:=∃ k : Nat,k ≤ i0 ∧ v = .int .u64 ((halfN x k : Nat) : Int) ∧ i = .int .u8 (k : Nat)
theorem RelHalf.mk {x i0 : Nat} {v i : Value} (h : ∃ k : Nat,k ≤ i0 ∧ v = .int .u64 ((halfN x k : Nat) : Int) ∧ i = .int .u8 (k : Nat)) : RelHalf x i0 v i:=h
def notS (f : Nat → Bool) (k : Nat) : Nat → Bool:=fun c => if c < 64 * k then !f c else f c
theorem notS_zero (f : Nat → Bool) : notS f 0 = f:=by funext c;simp [notS]
theorem notS_end (f : Nat → Bool) : alike (notS f 4) (fun c => !f c):=fun c hc => by simp [notS,hc]
theorem notS_at (f : Nat → Bool) (k : Nat) : wd (notS f k) k = wd f k:=wd_congr fun i hi => by
 have : ¬ 64 * k + i < 64 * k:=by omega
 simp [notS,this]
theorem notS_next (f : Nat → Bool) (k : Nat) : wd (notS f (k + 1)) k = 18446744073709551615 - wd f k:=by
 rw [wd_not]
 exact wd_congr fun i hi => by
  have : 64 * k + i < 64 * (k + 1):=by omega
  simp [notS,this]
theorem notS_other (f : Nat → Bool) (k j : Nat) (h : j ≠ k) : wd (notS f (k + 1)) j = wd (notS f k) j:=wd_congr fun i hi => by
 have : (64 * j + i < 64 * (k + 1)) = (64 * j + i < 64 * k):=by apply propext;omega
 simp [notS,this]
def comp (x : Nat) : Int:=bits .xor .u64 (if IntKind.u64.signed = true then -1 else IntKind.u64.max) (x : Int)
theorem comp_eq (x : Nat) (h : x < 18446744073709551616) : comp x = 18446744073709551615 - (x : Int):=by
 unfold comp
 rw [show (if IntKind.u64.signed = true then -1 else IntKind.u64.max : Int) = ((18446744073709551615 : Nat) : Int) by rfl,bits_xor_u64_nat _ _ (by decide) h]
 have : 18446744073709551615 ^^^ x = 18446744073709551615 - x:=by
  apply Nat.eq_of_testBit_eq
  intro j
  rw [Nat.testBit_xor,show 18446744073709551615 - x = 2 ^ 64 - (x + 1) by omega,Nat.testBit_two_pow_sub_succ (by omega),show 18446744073709551615 = 2 ^ 64 - 1 by rfl,Nat.testBit_two_pow_sub_one]
  by_cases hj : j < 64
  · simp [hj]
  · have : x.testBit j = false:=Nat.testBit_lt_two_pow (nll (show x < 2 ^ 64 from h) (Nat.pow_le_pow_right (by decide) (Nat.not_lt.1 hj)))
    simp [hj,this]
 rw [this]
 omega
theorem SetAt.noted {w : World} {g k : Nat} {f : Nat → Bool} (h : SetAt w g (notS f k)) (hk : k = 0 ∨ k = 1 ∨ k = 2 ∨ k = 3) :
    SetAt (w.setCell ⟨g,k,none⟩ (.int .u64 (comp (wd f k)))) g (notS f (k + 1)):=by
 unfold SetAt at h ⊢
 have hl:=wd_lt f k
 rw [heap_setCell_same w g k _ _ _ h,comp_eq _ hl,show (18446744073709551615 - ((wd f k : Nat) : Int)) = ((18446744073709551615 - wd f k : Nat) : Int) by omega,← notS_next]
 unfold setC
 rcases hk with rfl | rfl | rfl | rfl
 · rw [← notS_other f 0 1 (by decide),← notS_other f 0 2 (by decide),← notS_other f 0 3 (by decide)];rfl
 · rw [← notS_other f 1 0 (by decide),← notS_other f 1 2 (by decide),← notS_other f 1 3 (by decide)];rfl
 · rw [← notS_other f 2 0 (by decide),← notS_other f 2 1 (by decide),← notS_other f 2 3 (by decide)];rfl
 · rw [← notS_other f 3 0 (by decide),← notS_other f 3 1 (by decide),← notS_other f 3 2 (by decide)];rfl
def RelNot (w : World) (f : Nat → Bool) (i : Value) (wr : World) : Prop :=
 ∃ k : Nat,k ≤ 4 ∧ i = .int .i64 (k : Nat) ∧ SetAt wr w.heap.size (notS f k) ∧ SetAt wr (w.heap.size + 1) (fun _ => false) ∧ Below w.heap.size w wr
theorem RelNot.mk {w : World} {f : Nat → Bool} {i : Value} {wr : World} (h : ∃ k : Nat,k ≤ 4 ∧ i = .int .i64 (k : Nat) ∧ SetAt wr w.heap.size (notS f k) ∧ SetAt wr (w.heap.size + 1) (fun _ => false) ∧ Below w.heap.size w wr) : RelNot w f i wr:=h
theorem run_index (f : Nat → Bool) (k : Nat) (hk : k = 0 ∨ k = 1 ∨ k = 2 ∨ k = 3) : ∀ w,(Instr.index 41 (.agg (setC f)) (.int .i64 (k : Int))).run Tryz.prog w = .ok (.int .u64 ((wd f k : Nat) : Int)) w:=by
 rcases hk with rfl | rfl | rfl | rfl <;> exact fun _ => by kernel_rfl
theorem not_any (f : Nat → Bool) (w : World) :
    Calls Tryz.prog 81 #[setV f] w fun e w' => e = .returned (setV (fun c => !f c)) ∧ Below w.heap.size w w':=by
 show Calls Tryz.prog 81 #[.agg (setC f)] w _
 go_enter Tryz.func81,Tryz.ntmps81
 go_wp2_with (refine wpList_load_row rfl 41 (.tmp 1) rfl w.heap.size rfl 41 _ (0,0) _ ((set_new w f).alloc _) Tryz.underlying41 rfl (set_size _) ?_)
 go_loopw [6] (RelNot w f) (fun i _ => 4 - (intOf i).toNat)
 case atStart => exact RelNot.mk ⟨0,by omega,rfl,by rw [notS_zero];exact (set_new w f).alloc _,set_zero_at _ _ (by simp),((Below.refl _ _).alloc (nlr _) _).alloc (by simp) _⟩
 case round =>
  obtain ⟨k,hk,rfl,hs,hz,hb⟩:=hrel
  by_cases hlt : k < 4
  · have hK : k = 0 ∨ k = 1 ∨ k = 2 ∨ k = 3:=by omega
    have hix:=run_index f k hK
    have hs':=lhi (hs.noted hK)
    have hz':=lhi (hz.set_other (a:=⟨w.heap.size,k,none⟩) (v:=.int .u64 (comp (wd f k))) (by show w.heap.size + 1 ≠ w.heap.size;omega))
    have hb':=lhi (hb.setCell (p:=⟨w.heap.size,k,none⟩) (nlr _) (.int .u64 (comp (wd f k))))
    have c0:=hs.cell' hK
    rw [notS_at] at c0
    have f0:=hs.thawed k
    have hlx:=wd_lt f k
    have k0 : (0 : Int) ≤ (k : Int):=by omega
    have k1 : (k : Int) < 4:=by omega
    clear hs hz hb hK
    go_wp2
    go_round
    case rel => exact RelNot.mk ⟨k + 1,by omega,by go_num,hs'.out,hz'.out,hb'.out⟩
    case measure => simp [intOf];omega
  · obtain rfl : k = 4:=by omega
    have hz':=lhi hz
    have hb':=lhi hb
    have hs':=lhi hs
    clear hz hb hs
    go_wp2_with (first
     | (refine wpList_load_row rfl 41 (.tmp 1) rfl w.heap.size rfl 41 _ (0,0) _ hs'.out Tryz.underlying41 rfl (set_size _) ?_)
     | (refine wpList_store_row rfl 41 (.tmp 2) (.tmp 15) rfl (w.heap.size + 1) (setC (notS f 4)) rfl rfl 41 _ hz'.out (set_size _) (set_hold _ _) (set_cells _) ?_))
    refine bodyPost_ret (v:=setV (notS f 4)) (results_cell_row Tryz.results81 _ _ (w.heap.size + 1) 41 (setC (notS f 4)) (0,0) _ rfl (hz'.out.put _) Tryz.underlying41 rfl (set_size _)) rfl ⟨by rw [(notS_end f).setV],below_put hb'.out (by omega) _⟩
def Sets (w : World) (B : Nat) (A : Option Addr) (ss : List (Nat → Bool)) : Prop :=
 ∀ (k : Nat) (h : k < ss.length),∃ ad,A = some ad ∧ ad.block < B ∧ ∀ j,j < 4 → w.cell? (ad.add (k * 4 + j)) = some (.int .u64 ((wd (ss[k]'h) j : Nat) : Int))
theorem add_off (a : Addr) (i j : Nat) : (⟨(a.add i).block,(a.add i).off + j,none⟩ : Addr) = if j = 0 then ⟨(a.add i).block,(a.add i).off,none⟩ else a.add (i + j):=by
 by_cases h : j = 0
 · simp [h]
 · rw [if_neg h]
   unfold Addr.add;split <;> split <;> simp_all <;> omega
section
variable {w w' : World} {B B' : Nat} {A : Option Addr} {ss : List (Nat → Bool)}
theorem Sets.at_ (h : Sets w B A ss) {k : Nat} (hk : k < ss.length) : ∃ ad,A = some ad ∧ ad.block < B ∧ w.cell? (ad.add (k * 4)) = some (.int .u64 ((wd (ss[k]'hk) 0 : Nat) : Int)) ∧
    w.cell? ⟨(ad.add (k * 4)).block,(ad.add (k * 4)).off + 1,none⟩ = some (.int .u64 ((wd (ss[k]'hk) 1 : Nat) : Int)) ∧ w.cell? ⟨(ad.add (k * 4)).block,(ad.add (k * 4)).off + 2,none⟩ = some (.int .u64 ((wd (ss[k]'hk) 2 : Nat) : Int)) ∧
    w.cell? ⟨(ad.add (k * 4)).block,(ad.add (k * 4)).off + 3,none⟩ = some (.int .u64 ((wd (ss[k]'hk) 3 : Nat) : Int)):=by
 obtain ⟨ad,h1,h2,h3⟩:=h k hk
 refine ⟨ad,h1,h2,h3 0 (by decide),?_,?_,?_⟩
 · rw [add_off,if_neg (by decide)];exact h3 1 (by decide)
 · rw [add_off,if_neg (by decide)];exact h3 2 (by decide)
 · rw [add_off,if_neg (by decide)];exact h3 3 (by decide)
theorem Sets.keep (h : Sets w B A ss) (hk : ∀ p : Addr,p.block < B → w'.cell? p = w.cell? p) : Sets w' B A ss:=by
 intro k hlt
 obtain ⟨ad,hA,hb,hc⟩:=h k hlt
 exact ⟨ad,hA,hb,fun j hj => (hk _ (by rw [block_add];exact hb)).trans (hc j hj)⟩
theorem Sets.below (h : Sets w B A ss) (hb : Below B w w') : Sets w' B A ss:=h.keep fun _ hp => hb.cell hp
theorem Sets.more (h : Sets w B A ss) (hB : B ≤ B') : Sets w B' A ss:=fun k hk =>
 let ⟨ad,hA,hb,hc⟩:=h k hk;⟨ad,hA,nll hb hB,hc⟩
theorem Sets.none_ (w : World) (B : Nat) (A : Option Addr) : Sets w B A []:=fun _ h => absurd h (by simp)
end
def anyS (ss : List (Nat → Bool)) : Nat → Bool:=fun c => ss.any fun s => s c
theorem anyS_next (ss : List (Nat → Bool)) (k : Nat) (h : k < ss.length) : (fun c => anyS (ss.take k) c || (ss[k]'h) c) = anyS (ss.take (k + 1)):=by
 funext x
 have e : ss.take (k + 1) = ss.take k ++ [ss[k]'h]:=by simp
 unfold anyS
 rw [e,List.any_append]
 simp
def orS (u s : Nat → Bool) (j : Nat) : Nat → Bool:=fun c => u c || (decide (c < 64 * j) && s c)
theorem orS_zero (u s : Nat → Bool) : orS u s 0 = u:=by funext c;simp [orS]
theorem orS_end (u s : Nat → Bool) : alike (orS u s 4) (fun c => u c || s c):=fun c hc => by
 have : c < 64 * 4:=hc
 simp [orS,this]
theorem orS_at (u s : Nat → Bool) (j : Nat) : wd (orS u s j) j = wd u j:=wd_congr fun i hi => by
 have : ¬ 64 * j + i < 64 * j:=by omega
 simp [orS,this]
theorem orS_next (u s : Nat → Bool) (j : Nat) : wd (orS u s (j + 1)) j = wd u j ||| wd s j:=by
 rw [wd_or2]
 exact wd_congr fun i hi => by
  have : 64 * j + i < 64 * (j + 1):=by omega
  simp [orS,this]
theorem orS_other (u s : Nat → Bool) (j k : Nat) (h : k ≠ j) : wd (orS u s (j + 1)) k = wd (orS u s j) k:=wd_congr fun i hi => by
 have : (64 * k + i < 64 * (j + 1)) = (64 * k + i < 64 * j):=by apply propext;omega
 simp [orS,this]
theorem SetAt.ored {w : World} {g k : Nat} {u s : Nat → Bool} (h : SetAt w g (orS u s k)) (hk : k = 0 ∨ k = 1 ∨ k = 2 ∨ k = 3) :
    SetAt (w.setCell ⟨g,k,none⟩ (.int .u64 (bits .or .u64 ((wd u k : Nat) : Int) ((wd s k : Nat) : Int)))) g (orS u s (k + 1)):=by
 unfold SetAt at h ⊢
 rw [heap_setCell_same w g k _ _ _ h,u64_or_nat _ _ (wd_lt _ _) (wd_lt _ _),← orS_next]
 unfold setC
 rcases hk with rfl | rfl | rfl | rfl
 · rw [← orS_other u s 0 1 (by decide),← orS_other u s 0 2 (by decide),← orS_other u s 0 3 (by decide)];rfl
 · rw [← orS_other u s 1 0 (by decide),← orS_other u s 1 2 (by decide),← orS_other u s 1 3 (by decide)];rfl
 · rw [← orS_other u s 2 0 (by decide),← orS_other u s 2 1 (by decide),← orS_other u s 2 3 (by decide)];rfl
 · rw [← orS_other u s 3 0 (by decide),← orS_other u s 3 1 (by decide),← orS_other u s 3 2 (by decide)];rfl
theorem alike.setC {f g : Nat → Bool} (h : alike f g) : Go.Proofs.YtonjnagcdnmcpaaGreatDoor.setC f = Go.Proofs.YtonjnagcdnmcpaaGreatDoor.setC g:=by
 unfold Go.Proofs.YtonjnagcdnmcpaaGreatDoor.setC;rw [h.wd 0 (by decide),h.wd 1 (by decide),h.wd 2 (by decide),h.wd 3 (by decide)]
theorem SetAt.alike {w : World} {g : Nat} {f f' : Nat → Bool} (h : SetAt w g f) (ha : Go.Proofs.YtonjnagcdnmcpaaGreatDoor.alike f f') : SetAt w g f':=by
 unfold SetAt at h ⊢;rw [← ha.setC];exact h
def RelU (w : World) (ss : List (Nat → Bool)) (n : Nat) (i : Value) (wr : World) : Prop :=
 ∃ k : Nat,k ≤ n ∧ i = .int .i64 (k : Nat) ∧ SetAt wr w.heap.size (fun _ => false) ∧ SetAt wr (w.heap.size + 1) (anyS (ss.take k)) ∧ Below w.heap.size w wr
theorem RelU.mk {w : World} {ss : List (Nat → Bool)} {n : Nat} {i : Value} {wr : World} (h : ∃ k : Nat,k ≤ n ∧ i = .int .i64 (k : Nat) ∧ SetAt wr w.heap.size (fun _ => false) ∧ SetAt wr (w.heap.size + 1) (anyS (ss.take k)) ∧ Below w.heap.size w wr) : RelU w ss n i wr:=h
def RelU2 (w : World) (u s : Nat → Bool) (i : Value) (wr : World) : Prop :=
 ∃ k : Nat,k ≤ 4 ∧ i = .int .i64 (k : Nat) ∧ SetAt wr w.heap.size (fun _ => false) ∧ SetAt wr (w.heap.size + 1) (orS u s k) ∧ Below w.heap.size w wr
theorem RelU2.mk {w : World} {u s : Nat → Bool} {i : Value} {wr : World} (h : ∃ k : Nat,k ≤ 4 ∧ i = .int .i64 (k : Nat) ∧ SetAt wr w.heap.size (fun _ => false) ∧ SetAt wr (w.heap.size + 1) (orS u s k) ∧ Below w.heap.size w wr) : RelU2 w u s i wr:=h
theorem union_any (A : Option Addr) (n c : Nat) (ss : List (Nat → Bool)) (B : Nat) (w : World) (hn : n = ss.length) (hnc : n ≤ c) (hm : c ≤ maxLen) (hB : B ≤ w.heap.size) (h : Sets w B A ss) :
    Calls Tryz.prog 148 #[.slice A n c] w fun e w' => e = .returned (setV (anyS ss)) ∧ Below w.heap.size w w':=by
 unfold maxLen at hm
 have hn':=lhi hn
 clear hn
 have hB':=lhi hB
 clear hB
 go_enter Tryz.func148,Tryz.ntmps148
 go_wp2
 go_loopw [10] (RelU w ss n) (fun i _ => n - (intOf i).toNat)
 case atStart => exact RelU.mk ⟨0,by omega,rfl,(set_zero w).alloc _,set_zero_at _ _ (by simp),((Below.refl _ _).alloc (nlr _) _).alloc (by simp) _⟩
 case round =>
  obtain ⟨k,hk,rfl,hz,hs,hb⟩:=hrel
  rename World => w1
  by_cases hlt : k < n
  · have hkl : k < ss.length:=by have:=hn'.out;omega
    obtain ⟨ad,hA,hadB,hd0,hd1,hd2,hd3⟩:=(h.below (hb.mono hB'.out)).at_ hkl
    subst hA
    have hnx:=lhi (anyS_next ss k hkl)
    generalize ss[k]'hkl = s at hd0 hd1 hd2 hd3 hnx
    generalize hu : anyS (ss.take k) = u at hs hnx
    clear hu
    have hs':=lhi hs
    have hz':=lhi hz
    have hb':=lhi hb
    clear hz hb hs
    go_wp2
    go_loopw [15] (RelU2 w u s) (fun i _ => 4 - (intOf i).toNat)
    case atStart =>
     exact RelU2.mk ⟨0,by omega,rfl,hz'.out.alloc _,by rw [orS_zero];exact hs'.out.alloc _,hb'.out.alloc (hb'.out.size) _⟩
    case round =>
     obtain ⟨j,hj,rfl,hz2,hs2,hb2⟩:=hrel
     rename World => w2
     by_cases hjt : j < 4
     · have hK : j = 0 ∨ j = 1 ∨ j = 2 ∨ j = 3:=by omega
       have hix:=run_index s j hK
       unfold setC at hix
       have hs3:=lhi (hs2.ored hK)
       have hz3:=lhi (hz2.set_other (a:=⟨w.heap.size + 1,j,none⟩) (v:=.int .u64 (bits .or .u64 ((wd u j : Nat) : Int) ((wd s j : Nat) : Int))) (by show w.heap.size ≠ w.heap.size + 1;omega))
       have hb3:=lhi (hb2.setCell (p:=⟨w.heap.size + 1,j,none⟩) (by show w.heap.size ≤ w.heap.size + 1;omega) (.int .u64 (bits .or .u64 ((wd u j : Nat) : Int) ((wd s j : Nat) : Int))))
       have c0:=hs2.cell' hK
       rw [orS_at] at c0
       have f0:=hs2.thawed j
       have k0 : (0 : Int) ≤ (j : Int):=by omega
       have k1 : (j : Int) < 4:=by omega
       clear hs2 hz2 hb2 hK
       go_wp2
       go_roundw
       case rel => exact RelU2.mk ⟨j + 1,by omega,by go_num,hz3.out,hs3.out,hb3.out⟩
       case measure => simp [intOf];omega
     · obtain rfl : j = 4:=by omega
       have hs3:=lhi (hs2.alike (orS_end u s))
       have hz3:=lhi hz2
       have hb3:=lhi hb2
       clear hs2 hz2 hb2
       go_wp2
       go_roundw
       case rel => exact RelU.mk ⟨k + 1,by omega,by go_num,hz3.out,by have:=hs3.out;rw [hnx.out] at this;exact this,hb3.out⟩
       case measure => simp [intOf];omega
  · have hz':=lhi hz
    have hb':=lhi hb
    have hs':=lhi hs
    clear hz hb hs
    go_wp2_with (first
     | (refine wpList_load_row rfl 41 (.tmp 3) rfl (w.heap.size + 1) rfl 41 _ (0,0) _ hs'.out Tryz.underlying41 rfl (set_size _) ?_)
     | (refine wpList_store_row rfl 41 (.tmp 2) (.tmp 27) rfl w.heap.size (setC (anyS (ss.take k))) rfl rfl 41 _ hz'.out (set_size _) (set_hold _ _) (set_cells _) ?_))
    have e : ss.take k = ss:=List.take_of_length_le (by have:=hn'.out;omega)
    refine bodyPost_ret (v:=setV (anyS (ss.take k))) (results_cell_row Tryz.results148 _ _ w.heap.size 41 (setC (anyS (ss.take k))) (0,0) _ rfl (hz'.out.put _) Tryz.underlying41 rfl (set_size _)) rfl ⟨by rw [e],below_put hb'.out (nlr _) _⟩
def nmS (s : ByteArray) (k : Nat) : Nat → Bool:=fun x => decide (x < k) && (clsOf s.toList (x : Int)).getD false
theorem nmS_none (s : ByteArray) : nmS s 0 = fun _ => false:=by funext x;simp [nmS]
theorem nmS_in (s : ByteArray) (k : Nat) (h : (clsOf s.toList (k : Int)).getD false = true) : (fun x => nmS s k x || decide (x = k)) = nmS s (k + 1):=by
 funext x;unfold nmS
 by_cases hx : x = k
 · subst hx;simp [h]
 · have : (x < k + 1) = (x < k):=by apply propext;omega
   simp [hx,this]
theorem nmS_out (s : ByteArray) (k : Nat) (h : (clsOf s.toList (k : Int)).getD false = false) : nmS s k = nmS s (k + 1):=by
 funext x;unfold nmS
 by_cases hx : x = k
 · subst hx;simp [h]
 · have : (x < k + 1) = (x < k):=by apply propext;omega
   simp [this]
theorem nmS_end (s : ByteArray) : alike (nmS s 256) (fun x => (clsOf s.toList (x : Int)).getD false):=fun c hc => by simp [nmS,hc]
theorem ite_some (b : Bool) (x : Bool) (y : Option Bool) : (if b = true then some x else y).isSome = (b || y.isSome):=by cases b <;> rfl
theorem cls_some (l : List UInt8) (c d : Int) : (clsOf l c).isSome = (clsOf l d).isSome:=by
 unfold clsOf
 simp only [ite_some]
theorem cls_step (b : Bool) (x : Int → Bool) (y : Int → Option Bool) (h : ∃ c : Int,(0 ≤ c ∧ c < 256) ∧ x c = true) (k : (∃ c : Int,(0 ≤ c ∧ c < 256) ∧ (y c).getD false = true) ↔ (y 0).isSome = true) :
    (∃ c : Int,(0 ≤ c ∧ c < 256) ∧ (if b = true then some (x c) else y c).getD false = true) ↔ (if b = true then some (x 0) else y 0).isSome = true:=by
 cases b
 · exact k
 · exact ⟨fun _ => rfl,fun _ => h⟩
theorem cls_any' (l : List UInt8) : (∃ c : Int,(0 ≤ c ∧ c < 256) ∧ (clsOf l c).getD false = true) ↔ (clsOf l 0).isSome = true:=by
 unfold clsOf
 refine cls_step _ _ _ ⟨65,by decide⟩ ?_
 refine cls_step _ _ _ ⟨97,by decide⟩ ?_
 refine cls_step _ _ _ ⟨48,by decide⟩ ?_
 refine cls_step _ _ _ ⟨97,by decide⟩ ?_
 refine cls_step _ _ _ ⟨97,by decide⟩ ?_
 refine cls_step _ _ _ ⟨32,by decide⟩ ?_
 refine cls_step _ _ _ ⟨32,by decide⟩ ?_
 refine cls_step _ _ _ ⟨0,by decide⟩ ?_
 refine cls_step _ _ _ ⟨97,by decide⟩ ?_
 refine cls_step _ _ _ ⟨97,by decide⟩ ?_
 refine cls_step _ _ _ ⟨33,by decide⟩ ?_
 refine cls_step _ _ (fun _ => none) ⟨48,by decide⟩ ?_
 simp
theorem cls_any (l : List UInt8) : (∃ c : Nat,c < 256 ∧ (clsOf l (c : Int)).getD false = true) ↔ (clsOf l 0).isSome = true:=by
 rw [← cls_any']
 constructor
 · rintro ⟨c,h1,h2⟩
   exact ⟨c,by omega,h2⟩
 · rintro ⟨c,h1,h2⟩
   obtain ⟨y,rfl⟩:=Int.eq_ofNat_of_zero_le h1.1
   exact ⟨y,by omega,h2⟩
theorem SetAt.four {w : World} {g : Nat} {f : Nat → Bool} (h : SetAt w g f) (f' : Nat → Bool) :
    SetAt ((((w.setCell ⟨g,0,none⟩ (.int .u64 ((wd f' 0 : Nat) : Int))).setCell ⟨g,1,none⟩ (.int .u64 ((wd f' 1 : Nat) : Int))).setCell ⟨g,2,none⟩ (.int .u64 ((wd f' 2 : Nat) : Int))).setCell ⟨g,3,none⟩ (.int .u64 ((wd f' 3 : Nat) : Int))) g f':=by
 unfold SetAt at h ⊢
 rw [heap_setCell_same _ g 3 _ _ _ (heap_setCell_same _ g 2 _ _ _ (heap_setCell_same _ g 1 _ _ _ (heap_setCell_same _ g 0 _ _ _ h)))]
 rfl
def RelNm (w : World) (s : ByteArray) (i : Value) (wr : World) : Prop :=
 ∃ k : Nat,k ≤ 256 ∧ i = .int .i64 (k : Nat) ∧ SetAt wr w.heap.size (fun _ => false) ∧ SetAt wr (w.heap.size + 1) (nmS s k) ∧ Below w.heap.size w wr
theorem RelNm.mk {w : World} {s : ByteArray} {i : Value} {wr : World} (h : ∃ k : Nat,k ≤ 256 ∧ i = .int .i64 (k : Nat) ∧ SetAt wr w.heap.size (fun _ => false) ∧ SetAt wr (w.heap.size + 1) (nmS s k) ∧ Below w.heap.size w wr) : RelNm w s i wr:=h
theorem nm_flag (l : List UInt8) : (!sameS (fun x : Nat => (clsOf l (x : Int)).getD false) (ofL [])) = (clsOf l 0).isSome:=by
 cases h : (clsOf l 0).isSome
 · have : sameS (fun x : Nat => (clsOf l (x : Int)).getD false) (ofL []) = true:=sameS_of fun c hc => by
     cases hx : (clsOf l (c : Int)).getD false
     · rfl
     · have:=(cls_any l).1 ⟨c,hc,hx⟩
       rw [h] at this;exact absurd this (by decide)
   rw [this];rfl
 · obtain ⟨c,hc,hx⟩:=(cls_any l).2 h
   have : sameS (fun x : Nat => (clsOf l (x : Int)).getD false) (ofL []) = false:=sameS_not fun ha => by
    have:=ha c hc
    simp only [hx] at this
    exact absurd this (by simp [ofL])
   rw [this];rfl
attribute [local go_sem] setV setC guard_set run_equalIn_lit
theorem named_any (s : ByteArray) (w : World) :
    Calls Tryz.prog 175 #[.string s] w fun e w' => e = .returned (.tuple #[setV (fun x => (clsOf s.toList (x : Int)).getD false),.bool (clsOf s.toList 0).isSome]) ∧ Below w.heap.size w w':=by
 go_enter Tryz.func175,Tryz.ntmps175
 go_wp2
 go_loopw [8] (RelNm w s) (fun i _ => 256 - (intOf i).toNat)
 case atStart => exact RelNm.mk ⟨0,by omega,rfl,(set_zero w).alloc _,by rw [nmS_none];exact set_zero_at _ _ (by simp),((Below.refl _ _).alloc (nlr _) _).alloc (by simp) _⟩
 case round =>
  obtain ⟨k,hk,rfl,hz,hs,hb⟩:=hrel
  by_cases hlt : k < 256
  · have k3 : IntKind.u8.wrap (k : Int) = (k : Int):=IntWalk.u8_in _ (by omega)
    have k4 : (k : Int) % 256 = (k : Int):=by omega
    cases hc : (clsOf s.toList (k : Int)).getD false
    · have hnx:=nmS_out s k hc
      rw [hnx] at hs
      have hs':=lhi hs
      have hz':=lhi hz
      have hb':=lhi hb
      have hc':=lhi hc
      clear hz hs hb hnx hc
      go_wp2_with (go_at_call 150;refine (is_any s (k : Int) _).mono ?_;rintro e w' ⟨rfl,rfl⟩;rw [hc'.out])
      clear k4
      go_roundw
      case rel => exact RelNm.mk ⟨k + 1,by omega,by go_num,hz'.out,hs'.out,hb'.out⟩
      case measure => simp [intOf];omega
    · have hnx:=nmS_in s k hc
      obtain ⟨K,i,he,hi,hK⟩:=byte_parts k hlt
      have h0:=tdiv_of he hi
      have h1:=ediv_of he hi
      have hs1:=hs.more he hi hK
      rw [hnx] at hs1
      have hs':=lhi hs1
      have hz':=lhi (hz.set_other (a:=⟨w.heap.size + 1,K,none⟩) (v:=.int .u64 (bits .or .u64 ((wd (nmS s k) K : Nat) : Int) ((bitN k : Nat) : Int))) (by show w.heap.size ≠ w.heap.size + 1;omega))
      have hb':=lhi (hb.setCell (p:=⟨w.heap.size + 1,K,none⟩) (by show w.heap.size ≤ w.heap.size + 1;omega) (.int .u64 (bits .or .u64 ((wd (nmS s k) K : Nat) : Int) ((bitN k : Nat) : Int))))
      have hc':=lhi hc
      have hlt':=lhi hlt
      have c0:=hs.cell' hK
      have f0:=hs.thawed K
      have k0 : (0 : Int) ≤ (K : Int):=by omega
      have k1 : (K : Int) < 4:=by omega
      have k2 : IntKind.i64.wrap (K : Int) = (K : Int):=IntWalk.i64_in _ (by omega)
      clear he hi hz hb hs hs1 hK hc hnx
      go_wp2_with (first
       | (go_at_call 150;refine (is_any s (k : Int) _).mono ?_;rintro e w' ⟨rfl,rfl⟩;rw [hc'.out])
       | (go_region_with ((go_at_call 102;refine (bit_any k _ hlt'.out).mono ?_;rintro e w' ⟨rfl,rfl⟩))) | fail)
      all_goals
       clear k4
       go_roundw
       case rel => exact RelNm.mk ⟨k + 1,hlt'.out,by go_num,hz'.out,hs'.out,hb'.out.drew⟩
       case measure => simp [intOf];omega
  · obtain rfl : k = 256:=by omega
    have hz':=lhi hz
    have hb':=lhi hb
    have hs':=lhi (hs.alike (nmS_end s))
    clear hz hb hs
    generalize hg : (fun x : Nat => (clsOf s.toList (x : Int)).getD false) = g at *
    have hF:=lhi (nm_flag s.toList)
    rw [hg] at hF
    replace hg:=lhi hg
    have c0:=hs'.out.cell 0 (by decide)
    have c1:=hs'.out.cell 1 (by decide)
    have c2:=hs'.out.cell 2 (by decide)
    have c3:=hs'.out.cell 3 (by decide)
    go_wp2
    go_region_with ((go_at_call 82;refine (of_any none 0 0 [] 0 _ rfl (nlr _) (by decide) (Nat.zero_le _) (Byt.none_ _ _ _)).mono ?_;rintro e w2 ⟨rfl,hb2⟩;have z2 : SetAt w2 w.heap.size (fun _ => false):=(hb2.block w.heap.size hz'.out.lt).trans hz'.out;have z0c:=z2.cell 0 (by decide);have z1c:=z2.cell 1 (by decide);have z2c:=z2.cell 2 (by decide);have z3c:=z2.cell 3 (by decide);have z0f:=z2.thawed 0;have z1f:=z2.thawed 1;have z2f:=z2.thawed 2;have z3f:=z2.thawed 3;have y2 : SetAt w2 (w.heap.size + 1) g:=(hb2.block (w.heap.size + 1) hs'.out.lt).trans hs'.out;have y0c:=y2.cell 0 (by decide);have y1c:=y2.cell 1 (by decide);have y2c:=y2.cell 2 (by decide);have y3c:=y2.cell 3 (by decide);replace y2:=lhi y2;replace z2:=lhi z2))
    all_goals
     go_wp2
     exact bodyPost_ret (v:=.tuple #[.agg (setC g),.bool (!sameS g (ofL []))]) (results_cell_two Tryz.results175 _ _ w.heap.size 41 (setC g) (0,0) _ rfl rfl (z2.out.four g) Tryz.underlying41 rfl (set_size _)) rfl
      ⟨by rw [hF.out,hg.out];rfl,((((hb'.out.drew.trans (hb2.mono hb'.out.size)).setCell (nlr _) _).setCell (nlr _) _).setCell (nlr _) _).setCell (nlr _) _⟩
end Go.Proofs.YtonjnagcdnmcpaaGreatDoor
