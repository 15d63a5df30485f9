/- Contracts and plain facts: M33. -/
import Derived.Lib.MinMax
import Derived.Test.YtbdfhmefjfaofaaM32
import Derived.RangeFuncNested
import Derived.RangeFuncBound
import Derived.RangeFuncCalls
import Derived.Shelf.RegionOpen
import Derived.OwnWalkIn
import Derived.TacticsInMore
import Derived.LoopNIn
import Derived.LoopIn
import Derived.Laws.Tables
set_option linter.unusedVariables false
set_option linter.unusedSimpArgs false
set_option maxRecDepth 100000
set_option maxHeartbeats 32000000
namespace Go.Proofs.Ytbdfhmefjfaofaa
open Go.RowKit
def leastI (n : Nod) (f : Nat → Int) : Int :=
 if n.kind = 1 then 1 else if n.kind = 2 then f n.a.toNat + f n.b.toNat else if n.kind = 3 then min (f n.a.toNat) (f n.b.toNat) else if n.kind = 4 then n.lo * f n.a.toNat else if n.kind = 5 then f n.a.toNat else 0
structure Lst (n : Nod) (m : Nat) : Prop where
 pa : ∀ p ∈ partsN n,0 ≤ p ∧ p < (m : Int)
 lo : n.kind = 4 → 0 ≤ n.lo ∧ n.lo ≤ 255
theorem fits_lst {n : Nod} {t : Nat} {g : Int} {m : Nat} (h : fitsN n (t : Int) g = true) (hm : t ≤ m) : Lst n m:=by
 refine ⟨fun p hp => by have:=fits_part h hp;omega,fun hk => ?_⟩
 unfold fitsN at h
 simp only [Bool.and_eq_true,Bool.or_eq_true,decide_eq_true_eq] at h
 rcases h.2.1 with h1 | h1
 · exact absurd hk h1
 · unfold timesN at h1
   simp only [Bool.and_eq_true,decide_eq_true_eq] at h1
   exact ⟨h1.1,h1.2.1⟩
def LowF (f : Nat → Int) : Prop:=∀ i,0 ≤ f i ∧ f i ≤ 65537
theorem mul_low {a b : Int} (h0 : 0 ≤ a) (h1 : a ≤ 255) (h2 : 0 ≤ b) (h3 : b ≤ 65537) : 0 ≤ a * b ∧ a * b ≤ 16711935 :=
 ⟨Int.mul_nonneg h0 h2,Int.le_trans (Int.mul_le_mul h1 h3 h2 (by omega)) (by omega)⟩
theorem least_low {n : Nod} {m : Nat} {f : Nat → Int} (hf : LowF f) (h : Lst n m) : 0 ≤ leastI n f ∧ leastI n f ≤ 16711935:=by
 have h1:=hf n.a.toNat
 have h2:=hf n.b.toNat
 unfold leastI
 split
 · omega
 split
 · omega
 split
 · omega
 split
 · have:=h.lo ‹_›
   exact mul_low this.1 this.2 h1.1 h1.2
 split
 · omega
 · omega
theorem leastOf_any (n : Nod) (m g : Nat) (f : Nat → Int) (w : World) (hr : Held w g 3 (rowC m f)) (hf : LowF f) (hL : Lst n m) (hm : m ≤ 1000) :
    Calls Try.prog 52 #[nodV n,.slice (some ⟨g,0,none⟩) m m] w fun e w' => e = .returned (.int .i64 (leastI n f)) ∧ Below w.heap.size w w':=by
 have hb:=lhi ((Below.refl w.heap.size w).alloc (nlr _) (.cells (nodC n) 54))
 have hR:=hr.alloc (.cells (nodC n) 54)
 by_cases h1 : n.kind = 1
 · rw [show leastI n f = 1 by simp [leastI,h1]]
   obtain ⟨k,a,b,lo,hi,gr,s⟩:=n
   simp only at h1
   subst h1
   rw [nodV_lit]
   clear hR hr hf hL
   go_enter Try.func52,Try.ntmps52
   go_wp2
   go_ret
   exact ⟨rfl,hb.out⟩
 by_cases h2 : n.kind = 2
 · have ha:=hL.pa n.a (by rw [partsN_2 h2];simp)
   have hbb:=hL.pa n.b (by rw [partsN_2 h2];simp)
   rw [show leastI n f = f n.a.toNat + f n.b.toNat by simp [leastI,h2]]
   obtain ⟨k,a,b,lo,hi,gr,s⟩:=n
   simp only at h2 ha hbb ⊢
   subst h2
   obtain ⟨x,rfl⟩:=Int.eq_ofNat_of_zero_le ha.1
   obtain ⟨y,rfl⟩:=Int.eq_ofNat_of_zero_le hbb.1
   rw [Int.toNat_natCast,Int.toNat_natCast]
   have cx:=hR.at_ (rowC_get m f x (by omega))
   have cy:=hR.at_ (rowC_get m f y (by omega))
   have gx:=hf x
   have gy:=hf y
   rw [show nodC ⟨2,(x : Int),(y : Int),lo,hi,gr,s⟩ = #[.int .i64 2,.int .i64 (x : Int),.int .i64 (y : Int),.int .i64 lo,.int .i64 hi,.int .i64 gr,.int .u64 (wd s 0 : Nat),.int .u64 (wd s 1 : Nat),.int .u64 (wd s 2 : Nat),.int .u64 (wd s 3 : Nat)] from rfl] at cx cy hb
   rw [nodV_lit]
   have hx1:=ha.2
   have hy1:=hbb.2
   have hx0:=ha.1
   have hy0:=hbb.1
   obtain ⟨gx0,gx1⟩:=gx
   obtain ⟨gy0,gy1⟩:=gy
   clear hR hr hf hL h1 ha hbb
   generalize f x = fx at *
   generalize f y = fy at *
   have hs : IntKind.i64.wrap (fx + fy) = fx + fy:=IntWalk.i64_in _ (by omega)
   go_enter Try.func52,Try.ntmps52
   go_wp2
   go_quiet (fail)
   go_wp2
   go_ret
   exact ⟨rfl,below_drewN hb.out _⟩
 by_cases h3 : n.kind = 3
 · have ha:=hL.pa n.a (by rw [partsN_3 h3];simp)
   have hbb:=hL.pa n.b (by rw [partsN_3 h3];simp)
   rw [show leastI n f = min (f n.a.toNat) (f n.b.toNat) by simp [leastI,h3]]
   obtain ⟨k,a,b,lo,hi,gr,s⟩:=n
   simp only at h3 ha hbb ⊢
   subst h3
   obtain ⟨x,rfl⟩:=Int.eq_ofNat_of_zero_le ha.1
   obtain ⟨y,rfl⟩:=Int.eq_ofNat_of_zero_le hbb.1
   rw [Int.toNat_natCast,Int.toNat_natCast]
   have cx:=hR.at_ (rowC_get m f x (by omega))
   have cy:=hR.at_ (rowC_get m f y (by omega))
   have gx:=hf x
   have gy:=hf y
   rw [show nodC ⟨3,(x : Int),(y : Int),lo,hi,gr,s⟩ = #[.int .i64 3,.int .i64 (x : Int),.int .i64 (y : Int),.int .i64 lo,.int .i64 hi,.int .i64 gr,.int .u64 (wd s 0 : Nat),.int .u64 (wd s 1 : Nat),.int .u64 (wd s 2 : Nat),.int .u64 (wd s 3 : Nat)] from rfl] at cx cy hb
   rw [nodV_lit]
   have hx1:=ha.2
   have hy1:=hbb.2
   have hx0:=ha.1
   have hy0:=hbb.1
   obtain ⟨gx0,gx1⟩:=gx
   obtain ⟨gy0,gy1⟩:=gy
   clear hR hr hf hL h1 h2 ha hbb
   generalize f x = fx at *
   generalize f y = fy at *
   have hs : min fx fy = min fx fy:=rfl
   generalize hmn : min fx fy = mn at *
   clear hs
   go_enter Try.func52,Try.ntmps52
   go_wp2
   go_quiet (fail)
   go_wp2
   go_ret
   exact ⟨rfl,below_drewN hb.out _⟩
 by_cases h4 : n.kind = 4
 · have ha:=hL.pa n.a (by rw [partsN_4 h4];simp)
   have hlo:=hL.lo h4
   rw [show leastI n f = n.lo * f n.a.toNat by simp [leastI,h4]]
   obtain ⟨k,a,b,lo,hi,gr,s⟩:=n
   simp only at h4 ha hlo ⊢
   subst h4
   obtain ⟨x,rfl⟩:=Int.eq_ofNat_of_zero_le ha.1
   rw [Int.toNat_natCast]
   have cx:=hR.at_ (rowC_get m f x (by omega))
   have gx:=hf x
   rw [show nodC ⟨4,(x : Int),b,lo,hi,gr,s⟩ = #[.int .i64 4,.int .i64 (x : Int),.int .i64 b,.int .i64 lo,.int .i64 hi,.int .i64 gr,.int .u64 (wd s 0 : Nat),.int .u64 (wd s 1 : Nat),.int .u64 (wd s 2 : Nat),.int .u64 (wd s 3 : Nat)] from rfl] at cx hb
   rw [nodV_lit]
   have hx1:=ha.2
   have hx0:=ha.1
   obtain ⟨gx0,gx1⟩:=gx
   clear hR hr hf hL h1 h2 h3 ha
   generalize f x = fx at *
   have hmul:=mul_low hlo.1 hlo.2 gx0 gx1
   have hs : IntKind.i64.wrap (lo * fx) = lo * fx:=IntWalk.i64_in _ (by omega)
   clear hmul hlo
   go_enter Try.func52,Try.ntmps52
   go_wp2
   go_quiet (fail)
   go_wp2
   go_ret
   exact ⟨rfl,below_drewN hb.out _⟩
 by_cases h5 : n.kind = 5
 · have ha:=hL.pa n.a (by rw [partsN_5 h5];simp)
   rw [show leastI n f = f n.a.toNat by simp [leastI,h5]]
   obtain ⟨k,a,b,lo,hi,gr,s⟩:=n
   simp only at h5 ha ⊢
   subst h5
   obtain ⟨x,rfl⟩:=Int.eq_ofNat_of_zero_le ha.1
   rw [Int.toNat_natCast]
   have cx:=hR.at_ (rowC_get m f x (by omega))
   have gx:=hf x
   rw [show nodC ⟨5,(x : Int),b,lo,hi,gr,s⟩ = #[.int .i64 5,.int .i64 (x : Int),.int .i64 b,.int .i64 lo,.int .i64 hi,.int .i64 gr,.int .u64 (wd s 0 : Nat),.int .u64 (wd s 1 : Nat),.int .u64 (wd s 2 : Nat),.int .u64 (wd s 3 : Nat)] from rfl] at cx hb
   rw [nodV_lit]
   have hx1:=ha.2
   have hx0:=ha.1
   obtain ⟨gx0,gx1⟩:=gx
   clear hR hr hf hL h1 h2 h3 h4 ha
   generalize f x = fx at *
   go_enter Try.func52,Try.ntmps52
   go_wp2
   go_ret
   exact ⟨rfl,hb.out⟩
 · rw [show leastI n f = 0 by simp [leastI,h1,h2,h3,h4,h5]]
   obtain ⟨k,a,b,lo,hi,gr,s⟩:=n
   replace h1:=beq_no h1
   replace h2:=beq_no h2
   replace h3:=beq_no h3
   replace h4:=beq_no h4
   replace h5:=beq_no h5
   simp only at h1 h2 h3 h4 h5
   rw [nodV_lit]
   clear hR hr hf hL
   go_enter Try.func52,Try.ntmps52
   go_wp2
   go_ret
   exact ⟨rfl,hb.out⟩
def leastTo (ns : List Nod) : Nat → Nat → Int
 | 0 => fun _ => 0
 | k + 1 => fun i => if i = k then (match ns[k]? with | some n => min (leastI n (leastTo ns k)) 65537 | none => 0) else leastTo ns k i
theorem leastTo_next (ns : List Nod) (k : Nat) (h : k < ns.length) : leastTo ns (k + 1) = fun i => if i = k then min (leastI (ns[k]'h) (leastTo ns k)) 65537 else leastTo ns k i:=by
 show (fun i => if i = k then (match ns[k]? with | some n => min (leastI n (leastTo ns k)) 65537 | none => 0) else leastTo ns k i) = _
 rw [List.getElem?_eq_getElem h]
noncomputable def leastNs (ns : List Nod) (g : Int) : Int:=if rightN ns g = true then leastTo ns ns.length (ns.length - 1) else 0
theorem rightN_all {ns : List Nod} {g : Int} (h : rightN ns g = true) : (1 ≤ ns.length ∧ ns.length ≤ 1000 ∧ 0 ≤ g ∧ g ≤ 9) ∧ ∀ k (hk : k < ns.length),fitsN (ns[k]'hk) (k : Int) g = true:=by
 unfold rightN at h
 rw [Bool.and_eq_true] at h
 obtain ⟨h1,h2⟩:=h
 rw [Bool.and_eq_true] at h2
 replace h2:=h2.1
 simp only [Bool.and_eq_true,decide_eq_true_eq] at h1
 exact ⟨⟨h1.1.1.1,h1.1.1.2,h1.1.2,h1.2⟩,@of_decide_eq_true _ (Classical.propDecidable _) h2⟩
theorem leastTo_low (ns : List Nod) (hl : ∀ k (hk : k < ns.length),Lst (ns[k]'hk) ns.length) (k : Nat) (hk : k ≤ ns.length) : LowF (leastTo ns k):=by
 induction k with
 | zero => intro i;exact ⟨Int.le_refl _,by show (0 : Int) ≤ 65537;omega⟩
 | succ k ih =>
  have ih:=ih (by omega)
  rw [leastTo_next ns k (by omega)]
  intro i
  have h1:=least_low ih (hl k (by omega))
  by_cases hi : i = k
  · simp only [hi,if_true];omega
  · simp only [hi,if_false];exact ih i
def RelLs (w : World) (ns : List Nod) (n R : Nat) (i : Value) (wr : World) : Prop :=
 ∃ k : Nat,k ≤ n ∧ i = .int .i64 (k : Nat) ∧ Held wr R 3 (rowC n (leastTo ns k)) ∧ Below w.heap.size w wr
theorem RelLs.mk {w : World} {ns : List Nod} {n R : Nat} {i : Value} {wr : World} (h : ∃ k : Nat,k ≤ n ∧ i = .int .i64 (k : Nat) ∧ Held wr R 3 (rowC n (leastTo ns k)) ∧ Below w.heap.size w wr) : RelLs w ns n R i wr:=h
theorem treeLeast_any (A : Option Addr) (n c : Nat) (ns : List Nod) (g : Int) (B : Nat) (w : World) (hn : n = ns.length) (hnc : n ≤ c) (hm : c ≤ maxLen) (hB : B ≤ w.heap.size) (h : Nods w B A ns) :
    Calls Try.prog 43 #[.agg #[.slice A n c,.int .i64 g]] w fun e w' => e = .returned (.int .i64 (leastNs ns g)) ∧ Below w.heap.size w w':=by
 have hb0 : Below w.heap.size w (w.alloc (.cells #[.slice A n c,.int .i64 g] 24)):=(Below.refl _ _).alloc (nlr _) _
 have hX0:=lhi (held_new w 24 #[.slice A n c,.int .i64 g])
 have hRt:=lhi (right_any A n c ns g B (w.alloc (.cells #[.slice A n c,.int .i64 g] 24)) hn hnc hm (Nat.le_trans hB hb0.size) (h.below (hb0.mono hB)))
 replace hb0:=lhi hb0
 by_cases hr : rightN ns g = true
 · rw [show leastNs ns g = leastTo ns ns.length (ns.length - 1) by simp [leastNs,hr]]
   rw [hr] at hRt
   obtain ⟨⟨h1,h2,-,-⟩,hfit⟩:=rightN_all hr
   have hL : ∀ k (hk : k < ns.length),Lst (ns[k]'hk) ns.length:=fun k hk => fits_lst (hfit k hk) (by omega)
   have hLow:=lhi (leastTo_low ns hL)
   replace hL:=lhi hL
   clear hr hfit
   rw [← hn] at h1 h2 ⊢
   unfold maxLen at hm
   have hMk1:=make_ints n (by omega)
   have hH:=lhi hn
   have hh:=lhi h
   have hBB:=lhi hB
   clear hn h hB
   go_enter Try.func43,Try.ntmps43
   go_wp2_with (go_at_call 21;refine (hRt.out).mono ?_;rintro e w1 ⟨rfl,hb1⟩;have hX1:=hX0.out.keep hb1;have hcx:=hX1.at_ (i:=0) rfl;have hcy:=(hX1.alloc (.cells (rowC n fun _ => 0) 3)).at_ (i:=0) rfl)
   have hbW:=hb0.out.trans (hb1.mono hb0.out.size)
   clear hX0 hRt hb0 hb1 hMk1 hcx hcy hX1
   have hRow:=held_new w1 3 (rowC n fun _ => 0)
   have hbW2:=hbW.alloc hbW.size (.cells (rowC n fun _ => 0) 3)
   have hRge:=lhi hbW.size
   generalize w1.alloc (.cells (rowC n fun _ => 0) 3) = w2 at *
   generalize w1.heap.size = R at *
   clear hbW
   replace hRow:=lhi hRow
   replace hbW2:=lhi hbW2
   go_loopw [4,5,16] (fun _ _ i wr => RelLs w ns n R i wr) (fun _ _ i _ => n - (intOf i).toNat)
   case atStart => exact RelLs.mk ⟨0,by omega,rfl,hRow.out,hbW2.out⟩
   case round =>
    obtain ⟨k,hk,rfl,hR,hb⟩:=hrel
    by_cases hlt : k < n
    · have hkl : k < ns.length:=by have:=hH.out;omega
      obtain ⟨ad,b,o,hA,hp,-,hd⟩:=(hh.out.below (hb.mono hBB.out)).at_ hkl
      subst hA
      have hLk:=lhi (hL.out k hkl)
      rw [← hH.out] at hLk
      have hnx:=lhi (leastTo_next ns k hkl)
      have hlo:=hLow.out k (by have:=hH.out;omega)
      have hli:=least_low hlo hLk.out
      have hlI:=lhi (fun wr' (h : Held wr' R 3 (rowC n (leastTo ns k))) => leastOf_any (ns[k]'hkl) n R (leastTo ns k) wr' h hlo hLk.out h2)
      generalize ns[k]'hkl = nd at *
      obtain ⟨hli0,hli1⟩:=hli
      generalize leastI nd (leastTo ns k) = x at *
      have hS3:=lhi (hR.alloc (.cells (nodC nd) 54))
      have hb3:=lhi (hb.alloc hb.size (.cells (nodC nd) 54))
      have hN3:=lhi (held_new wr 54 (nodC nd))
      replace hd:=lhi hd
      clear hR hb hlo hLk
      go_wp2_with (first
       | (refine wpList_load_mid rfl 54 (.tmp 19) rfl b o rfl (nodL nd) _ hd.out under_nod rfl (nod_info nd) ?_)
       | (refine wpList_store_row rfl 54 (.tmp 5) (.tmp 20) rfl wr.heap.size (nodC nd) rfl rfl 54 _ (nod_zero_lit wr) (nod_size nd) rfl (nod_cells nd) ?_
          rw [World.setRow_alloc_new]
          generalize wr.alloc (.cells (nodC nd) 54) = w3 at *
          generalize wr.heap.size = G at *)
       | (refine wpList_load_row rfl 54 (.tmp 5) rfl G rfl 54 _ (0,0) _ hN3.out under_nod rfl (nod_size nd) ?_)
       | (go_at_call 52;refine (hlI.out w3 hS3.out).mono ?_;rintro e w4 ⟨rfl,hb4⟩;have hS4:=lhi (hS3.out.keep hb4);have hb5:=lhi (hb3.out.trans (hb4.mono hb3.out.size));have hcell:=hS4.out.at_ (rowC_get n _ k hlt);have hthaw:=hS4.out.thawed k))
      go_roundw
      case rel =>
       refine RelLs.mk ⟨k + 1,by omega,by go_num,?_,hb5.out.setCell hRge.out _⟩
       have:=hS4.out.put k (.int .i64 (min x 65537))
       rw [rowC_set] at this
       rw [hnx.out]
       exact this
      case measure => simp [intOf];omega
    · obtain rfl : k = n:=by omega
      obtain ⟨m,rfl⟩ : ∃ m,k = m + 1:=⟨k - 1,by omega⟩
      have hcell:=hR.at_ (rowC_get (m + 1) _ m (by omega))
      have hb':=lhi hb
      obtain ⟨x,hx⟩ : ∃ x,x = leastTo ns (m + 1) m:=⟨_,rfl⟩
      rw [← hx] at hcell
      replace hx:=lhi hx
      clear hR hb hLow hL hh
      go_wp2
      go_ret
      exact ⟨ret_int hx.out,hb'.out⟩
 · rw [show leastNs ns g = 0 by simp [leastNs,hr]]
   have hr' : rightN ns g = false:=by simpa using hr
   rw [hr'] at hRt
   clear hr hr' h hn hB
   go_enter Try.func43,Try.ntmps43
   go_wp2_with (go_at_call 21;refine (hRt.out).mono ?_;rintro e w1 ⟨rfl,hb1⟩)
   go_ret
   exact ⟨rfl,hb0.out.trans (hb1.mono hb0.out.size)⟩
end Go.Proofs.Ytbdfhmefjfaofaa
namespace Go.Proofs.Ytbdfhmefjfaofaa
open Go.RowKit Go.Shelf
theorem told_span {ns : List Nod} {t : List UInt8} {g : Int} (hr : Rt ns g) (h1 : 1 ≤ ns.length) {a : Nat} (ha : a ≤ t.length) {M left : Int} {m : Spn} (hx : Told11 ns t ((ns.length : Int) - 1) a M (some (some m,left))) : Spans a g t.length m:=by
 generalize hy : (some (some m,left) : Option (Option Spn × Int)) = y at hx
 cases hx with
 | @fin c hs h hc =>
  simp only [Option.some.injEq,Prod.mk.injEq] at hy
  exact stk_spans hr (by omega) (by omega) ha h hy.1.symm
 | over h => cases hy
theorem told_left {ns : List Nod} {t : List UInt8} {n : Int} {a : Nat} {M left : Int} {b : Option Spn} (hx : Told11 ns t n a M (some (b,left))) : left ≤ M:=by
 generalize hy : (some (b,left) : Option (Option Spn × Int)) = y at hx
 cases hx with
 | fin h hc =>
  simp only [Option.some.injEq,Prod.mk.injEq] at hy
  omega
 | over h => cases hy
structure Kpt (X : Nat → Prop) (W W' : World) : Prop where
 os : W'.os = W.os
 tape : W'.tape = W.tape
 output : W'.output = W.output
 size : W.heap.size ≤ W'.heap.size
 block : ∀ k,k < W.heap.size → ¬ X k → W'.heap[k]? = W.heap[k]?
section
variable {w w' w1 : World} {X : Nat → Prop} {B S : Nat} {An : Option Addr} {nn cn : Nat} {At : Option Addr} {nt ct : Nat} {ns : List Nod} {t : List UInt8} {g left : Int} {short : Bool}
theorem Kpt.held (h : Kpt X w w') {b : Nat} {ty : TypeId} {cs : Array Value} (hb : Held w b ty cs) (hx : ¬ X b) : Held w' b ty cs:=(h.block b hb.lt hx).trans hb
theorem Kpt.below (h : Kpt X w w') (hX : ∀ k,k < B → ¬ X k) (hB : B ≤ w.heap.size) : Below B w w':=⟨h.os,h.tape,h.output,h.size,fun k hk => h.block k (nll hk hB) (hX k hk)⟩
theorem Srf.kpt (h : Srf w B S An nn cn At nt ct ns t g left short) (hk : Kpt X w w') (hX : ∀ k,k < B → ¬ X k) (hS : ¬ X S) : Srf w' B S An nn cn At nt ct ns t g left short:=⟨hk.held h.held hS,h.inn.below (hk.below hX h.inn.base),h.base⟩
noncomputable def lastP (ns : List Nod) (t : List UInt8) (g : Int) : Int:=(t.length : Int) - leastNs ns g
def Yld (ns : List Nod) (t : List UInt8) (g : Int) (a0 : Nat) (M0 : Int) (pre : List Spn) (s : Spn) (left : Int) : Prop :=
 ∃ (a : Nat) (e M : Int),Pre12 ns t ((ns.length : Int) - 1) (lastP ns t g) a0 (-1) M0 pre a e M ∧ (a : Int) ≤ lastP ns t g ∧ Told11 ns t ((ns.length : Int) - 1) a M (some (some s,left)) ∧ e < (s 0).2
def Done12 (ns : List Nod) (t : List UInt8) (g : Int) (a0 : Nat) (M0 : Int) (xs : List Spn) (left : Int) (sh : Bool) : Prop :=
 ∃ (a : Nat) (e M : Int),Pre12 ns t ((ns.length : Int) - 1) (lastP ns t g) a0 (-1) M0 xs a e M ∧ ((sh = false ∧ lastP ns t g < (a : Int) ∧ left = M) ∨ (sh = true ∧ (a : Int) ≤ lastP ns t g ∧ Told11 ns t ((ns.length : Int) - 1) a M none))
theorem Done12.all {a0 : Nat} {M0 : Int} {xs : List Spn} (h : Done12 ns t g a0 M0 xs left false) : All12 ns t ((ns.length : Int) - 1) (lastP ns t g) a0 (-1) M0 (some (xs,left)):=by
 obtain ⟨a,e,M,hp,⟨-,hl,rfl⟩ | ⟨h0,-⟩⟩:=h
 · have:=hp.all _ (.ends hl)
   simpa using this
 · cases h0
theorem Done12.over {a0 : Nat} {M0 : Int} {xs : List Spn} (h : Done12 ns t g a0 M0 xs left true) : All12 ns t ((ns.length : Int) - 1) (lastP ns t g) a0 (-1) M0 none:=by
 obtain ⟨a,e,M,hp,⟨h0,-⟩ | ⟨-,hl,hx⟩⟩:=h
 · cases h0
 · exact hp.all none (.over hl hx)
theorem least_bounds {ns : List Nod} {g : Int} : 0 ≤ leastNs ns g ∧ leastNs ns g ≤ 65537:=by
 unfold leastNs
 split
 · rename_i hr
   obtain ⟨⟨h1,h2,-,-⟩,hfit⟩:=rightN_all hr
   exact leastTo_low ns (fun k hk => fits_lst (hfit k hk) (by omega)) _ (nlr _) _
 · omega
def RelFi (wz : World) (B S b1 b2 : Nat) (An : Option Addr) (nn cn : Nat) (At : Option Addr) (nt ct : Nat) (ns : List Nod) (t : List UInt8) (g : Int) (a0 : Nat) (M0 : Int) (J : List Spn → World → Prop) (ve va : Value) (wr : World) : Prop :=
 ∃ (pre : List Spn) (a : Nat) (e M : Int),ve = .int .i64 e ∧ va = .int .i64 (a : Int) ∧ Pre12 ns t ((ns.length : Int) - 1) (lastP ns t g) a0 (-1) M0 pre a e M ∧ a ≤ t.length + 1 ∧ (-1 ≤ e ∧ e ≤ t.length) ∧ (0 ≤ M ∧ M ≤ 999999) ∧ Srf wr B S An nn cn At nt ct ns t g M false ∧ Held wr b1 98 #[.pointer (some ⟨S,0,none⟩)] ∧ J pre wr
theorem RelFi.mk {wz : World} {B S b1 b2 : Nat} {a0 : Nat} {M0 : Int} {J : List Spn → World → Prop} {ve va : Value} {wr : World} (h : ∃ (pre : List Spn) (a : Nat) (e M : Int),ve = .int .i64 e ∧ va = .int .i64 (a : Int) ∧ Pre12 ns t ((ns.length : Int) - 1) (lastP ns t g) a0 (-1) M0 pre a e M ∧ a ≤ t.length + 1 ∧ (-1 ≤ e ∧ e ≤ t.length) ∧ (0 ≤ M ∧ M ≤ 999999) ∧ Srf wr B S An nn cn At nt ct ns t g M false ∧ Held wr b1 98 #[.pointer (some ⟨S,0,none⟩)] ∧ J pre wr) : RelFi wz B S b1 b2 An nn cn At nt ct ns t g a0 M0 J ve va wr:=h
end
end Go.Proofs.Ytbdfhmefjfaofaa
namespace Go.Proofs.Ytbdfhmefjfaofaa
open Go.RowKit
theorem wpListIn_load_blk {F : Fence} {n : Nat} {P : Program} {ops : Array Oper} {rest : List Oper} {o : Oper} {a : Act} {w : World} {Q : Exit → Act → World → Prop} (hgd : o.guard = none) (ty : TypeId) (x : Operand) (ho : o.op = .load ty x)
    (g : Nat) (hx : a.eval x = .pointer (some ⟨g,0,none⟩)) (t : TypeId) (cs : Array Value) (d : TypeDesc) (hg : Held w g t cs)
    (hu : P.underlying ty = some d) (hd : (match d with | .struct _ | .array _ _ => true | _ => false) = true) (hi : (P.info? ty).map (·.size) = some cs.size)
    (h : wpListIn F n P ops Q rest (a.put o.dst (.agg cs)) w) : wpListIn F n P ops Q (o :: rest) a w :=
 wpListIn_plain hgd fun K hK => by
  refine ⟨fun f hf => by simp [Oper.about,ho] at hf,?_⟩
  rw [Oper.semAt_eq _ _ _ (by rw [ho];intro c hc;cases hc)]
  unfold execOp
  simp only [ho,hx,Instr.loadAt,Instr.sureAddr,Sem.run_bind,Sem.run_pure,Result.andThen_ok,run_loadVar_row w g t ty cs (0,0) d hg hu hd hi]
  exact hK _ _ h
theorem wpListIn_store_blk {F : Fence} {n : Nat} {P : Program} {ops : Array Oper} {rest : List Oper} {o : Oper} {a : Act} {w : World} {Q : Exit → Act → World → Prop} (hgd : o.guard = none) (ty : TypeId) (x y : Operand) (ho : o.op = .store ty x y)
    (g : Nat) (cells : Array Value) (hx : a.eval x = .pointer (some ⟨g,0,none⟩)) (hy : a.eval y = .agg cells)
    (t : TypeId) (old : Array Value) (hg : Held w g t old) (hi : (P.info? ty).map (·.size) = some cells.size)
    (hold : old.size = cells.size) (h1 : cells.all (·.oneCell') = true)
    (h : wpListIn F n P ops Q rest (a.put o.dst undef) (w.setRow g cells)) : wpListIn F n P ops Q (o :: rest) a w :=
 wpListIn_plain hgd fun K hK => by
  refine ⟨fun f hf => by simp [Oper.about,ho] at hf,?_⟩
  rw [Oper.semAt_eq _ _ _ (by rw [ho];intro c hc;cases hc)]
  unfold execOp
  simp only [ho,hx,hy,Instr.storeAt,Instr.sureAddr,Sem.run_bind,Sem.run_pure,Result.andThen_ok,run_storeVar_row w g t ty old cells hg hi hold h1]
  exact hK _ _ h
end Go.Proofs.Ytbdfhmefjfaofaa
