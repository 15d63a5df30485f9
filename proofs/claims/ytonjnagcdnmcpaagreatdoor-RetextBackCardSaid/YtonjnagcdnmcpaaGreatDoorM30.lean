/- Contracts and plain facts: M30. -/
import Derived.Test.YtonjnagcdnmcpaaGreatDoorM04
import Derived.Deep.WholeRow
import Derived.Lib.SlBytesConst
set_option linter.unusedVariables false
set_option linter.unusedSimpArgs false
set_option maxRecDepth 100000
set_option maxHeartbeats 32000000
namespace Go.Proofs.YtonjnagcdnmcpaaGreatDoor
open Go.RowKit
def boolsC (f : Nat → Bool) : Array Value:=((List.range 256).map fun c => Value.bool (f c)).toArray
theorem bools_get (f : Nat → Bool) (c : Nat) (hc : c < 256) : (boolsC f)[c]? = some (.bool (f c)):=by
 unfold boolsC
 rw [List.getElem?_toArray,List.getElem?_map,List.getElem?_range hc];rfl
theorem bools_size (f : Nat → Bool) : (boolsC f).size = 256:=by simp [boolsC]
def BoolsAt (w : World) (g : Nat) (f : Nat → Bool) : Prop:=w.heap[g]? = some (.cells (boolsC f) 143 (0,0))
section
variable {w w' : World} {g : Nat} {f : Nat → Bool}
theorem BoolsAt.lt (h : BoolsAt w g f) : g < w.heap.size:=by
 unfold BoolsAt at h
 exact (Array.getElem?_eq_some_iff.1 h).1
theorem BoolsAt.cell (h : BoolsAt w g f) {k : Nat} (hk : k < 256) : w.cell? ⟨g,k,none⟩ = some (.bool (f k)):=by
 rw [cell_of_row w g k _ _ _ h,bools_get f k hk]
theorem BoolsAt.thawed (h : BoolsAt w g f) (k : Nat) : w.frozen? ⟨g,k,none⟩ = false:=frozen_of_row w g k _ _ h
theorem BoolsAt.below {B : Nat} (h : BoolsAt w g f) (hb : Below B w w') (hg : g < B) : BoolsAt w' g f:=by
 unfold BoolsAt at h ⊢;rw [hb.block g hg];exact h
theorem BoolsAt.set_other {a : Addr} {v : Value} (h : BoolsAt w g f) (hne : g ≠ a.block) : BoolsAt (w.setCell a v) g f:=by
 unfold BoolsAt at h ⊢;rw [heap_setCell_other w a g v hne];exact h
theorem BoolsAt.alloc (h : BoolsAt w g f) (o : Obj) : BoolsAt (w.alloc o) g f:=by
 have hl:=h.lt
 unfold BoolsAt at h ⊢;rw [Below.heap_alloc w o g hl];exact h
theorem bools_new (w : World) (f : Nat → Bool) : BoolsAt (w.alloc (.cells (boolsC f) 143)) w.heap.size f:=heap_alloc_new _ _
theorem SetAt.store {f' : Nat → Bool} {k x : Nat} (h : SetAt w g f) (hk : k = 0 ∨ k = 1 ∨ k = 2 ∨ k = 3) (hx : wd f' k = x) (ho : ∀ j,j < 4 → j ≠ k → wd f' j = wd f j) :
    SetAt (w.setCell ⟨g,k,none⟩ (.int .u64 (x : Int))) g f':=by
 subst hx
 unfold SetAt at h ⊢
 rw [heap_setCell_same w g k _ _ _ h]
 unfold setC
 rcases hk with rfl | rfl | rfl | rfl
 · rw [ho 1 (by decide) (by decide),ho 2 (by decide) (by decide),ho 3 (by decide) (by decide)];rfl
 · rw [ho 0 (by decide) (by decide),ho 2 (by decide) (by decide),ho 3 (by decide) (by decide)];rfl
 · rw [ho 0 (by decide) (by decide),ho 1 (by decide) (by decide),ho 3 (by decide) (by decide)];rfl
 · rw [ho 0 (by decide) (by decide),ho 1 (by decide) (by decide),ho 2 (by decide) (by decide)];rfl
theorem SetAt.any {k x : Nat} (h : SetAt w g f) (hk : k = 0 ∨ k = 1 ∨ k = 2 ∨ k = 3) (hx : x < 18446744073709551616) :
    ∃ G,SetAt (w.setCell ⟨g,k,none⟩ (.int .u64 (x : Int))) g G ∧ wd G k = x ∧ ∀ j,j < 4 → j ≠ k → wd G j = wd f j:=by
 have hw:=fun j => wd_lt f j
 have hy : ∀ j,(if j = k then x else wd f j) < 18446744073709551616:=fun j => by split <;> simp [hx,hw]
 obtain ⟨G,g0,g1,g2,g3⟩:=set_of _ _ _ _ (hy 0) (hy 1) (hy 2) (hy 3)
 have hG : ∀ j,j < 4 → wd G j = if j = k then x else wd f j:=by
  intro j hj
  have : j = 0 ∨ j = 1 ∨ j = 2 ∨ j = 3:=by omega
  rcases this with rfl | rfl | rfl | rfl
  · exact g0
  · exact g1
  · exact g2
  · exact g3
 have e1 : wd G k = x:=by rw [hG k (by omega),if_pos rfl]
 have e2 : ∀ j,j < 4 → j ≠ k → wd G j = wd f j:=fun j hj hne => by rw [hG j hj,if_neg hne]
 exact ⟨G,h.store hk e1 e2,e1,e2⟩
end
def dn (f : Nat → Bool) (k : Nat) : Nat → Bool:=fun c => decide (max k (64 * (c / 64)) + c % 64 < 64 * (c / 64 + 1)) && f (max k (64 * (c / 64)) + c % 64)
theorem dn_all (f : Nat → Bool) : alike (fun _ => false) (dn f 256):=fun c hc => by
 have : ¬ max 256 (64 * (c / 64)) + c % 64 < 64 * (c / 64 + 1):=by omega
 simp [dn,this]
theorem dn_zero (f : Nat → Bool) : alike (dn f 0) f:=fun c _ => by
 have h1 : max 0 (64 * (c / 64)) + c % 64 = c:=by omega
 have h2 : c < 64 * (c / 64 + 1):=by omega
 simp only [dn,h1,h2,decide_true,Bool.true_and]
theorem dn_wd (f : Nat → Bool) (k j i : Nat) (hi : i < 64) : dn f k (64 * j + i) = (decide (max k (64 * j) + i < 64 * (j + 1)) && f (max k (64 * j) + i)):=by
 have h1 : (64 * j + i) / 64 = j:=by omega
 have h2 : (64 * j + i) % 64 = i:=by omega
 simp only [dn,h1,h2]
theorem dn_other (f : Nat → Bool) (k j K i : Nat) (he : k = 64 * K + i) (hi : i < 64) (hj : j ≠ K) : wd (dn f k) j = wd (dn f (k + 1)) j:=wd_congr fun x hx => by
 rw [dn_wd f k j x hx,dn_wd f (k + 1) j x hx]
 by_cases h : K < j
 · have h1 : max k (64 * j) = 64 * j:=by omega
   have h2 : max (k + 1) (64 * j) = 64 * j:=by omega
   rw [h1,h2]
 · have h1 : ¬ max k (64 * j) + x < 64 * (j + 1):=by omega
   have h2 : ¬ max (k + 1) (64 * j) + x < 64 * (j + 1):=by omega
   simp [h1,h2]
theorem dn_half (f : Nat → Bool) (k K i : Nat) (he : k = 64 * K + i) (hi : i < 64) :
    wd (dn f (k + 1)) K < 9223372036854775808 ∧ wd (dn f k) K = wd (dn f (k + 1)) K * 2 + (if f k then 1 else 0):=by
 have e1 : wd (dn f (k + 1)) K = num (fun x => dn f (k + 1) (64 * K + x)) 63:=by
  unfold wd
  show num _ 63 + (if dn f (k + 1) (64 * K + 63) = true then 2 ^ 63 else 0) = _
  have : dn f (k + 1) (64 * K + 63) = false:=by
   rw [dn_wd f (k + 1) K 63 (by decide)]
   have : ¬ max (k + 1) (64 * K) + 63 < 64 * (K + 1):=by omega
   simp [this]
  rw [this];simp
 have e2 : wd (dn f k) K = 2 * num (fun x => dn f k (64 * K + (x + 1))) 63 + (if dn f k (64 * K + 0) then 1 else 0):=num_cons _ 63
 have e3 : num (fun x => dn f k (64 * K + (x + 1))) 63 = num (fun x => dn f (k + 1) (64 * K + x)) 63:=num_congr fun x hx => by
  rw [dn_wd f k K (x + 1) (by omega),dn_wd f (k + 1) K x (by omega)]
  have h1 : max k (64 * K) + (x + 1) = k + 1 + x:=by omega
  have h2 : max (k + 1) (64 * K) + x = k + 1 + x:=by omega
  rw [h1,h2]
 have e4 : dn f k (64 * K + 0) = f k:=by
  rw [dn_wd f k K 0 (by decide)]
  have h1 : max k (64 * K) + 0 = k:=by omega
  have h2 : k < 64 * (K + 1):=by omega
  rw [h1];simp [h2]
 rw [e2,e3,e4,← e1]
 have hl:=num_lt (fun x => dn f (k + 1) (64 * K + x)) 63
 rw [← e1] at hl
 exact ⟨hl,by omega⟩
def RelR (w : World) (f : Nat → Bool) (i : Value) (wr : World) : Prop :=
 ∃ k : Nat,k ≤ 256 ∧ i = .int .i64 ((k : Int) - 1) ∧ BoolsAt wr w.heap.size f ∧ SetAt wr (w.heap.size + 1) (fun _ => false) ∧ SetAt wr (w.heap.size + 2) (dn f k) ∧ Below w.heap.size w wr
theorem RelR.mk {w : World} {f : Nat → Bool} {i : Value} {wr : World} (h : ∃ k : Nat,k ≤ 256 ∧ i = .int .i64 ((k : Int) - 1) ∧ BoolsAt wr w.heap.size f ∧ SetAt wr (w.heap.size + 1) (fun _ => false) ∧ SetAt wr (w.heap.size + 2) (dn f k) ∧ Below w.heap.size w wr) : RelR w f i wr:=h
theorem refOf_any (f : Nat → Bool) (w : World) :
    Calls Tryz.prog 122 #[.agg (boolsC f)] w fun e w' => e = .returned (setV f) ∧ Below w.heap.size w w':=by
 go_enter Tryz.func122,Tryz.ntmps122
 go_wp2
 go_loopw [4] (RelR w f) (fun i _ => (intOf i + 1).toNat)
 case atStart =>
  exact RelR.mk ⟨256,by omega,rfl,((bools_new w f).alloc _).alloc _,(set_zero_at _ _ (by simp)).alloc _,(set_zero_at _ _ (by simp)).alike (dn_all f),(((Below.refl _ _).alloc (nlr _) _).alloc (by simp) _).alloc (by simp;omega) _⟩
 case round =>
  obtain ⟨k,hk,rfl,hbo,hz,hs,hb⟩:=hrel
  obtain rfl | ⟨m,rfl⟩ : k = 0 ∨ ∃ m,k = m + 1:=by cases k with
   | zero => exact .inl rfl
   | succ m => exact .inr ⟨m,rfl⟩
  · have hz':=lhi hz
    have hb':=lhi hb
    have hs':=lhi (hs.alike (dn_zero f))
    clear hz hb hs hbo
    have e0 : (((0 : Nat) : Int) - 1) = -1:=rfl
    rw [e0]
    clear e0
    go_wp2_with (first
     | (refine wpList_load_row rfl 41 (.tmp 3) rfl (w.heap.size + 2) rfl 41 _ (0,0) _ hs'.out Tryz.underlying41 rfl (set_size _) ?_)
     | (refine wpList_store_row rfl 41 (.tmp 2) (.tmp 28) rfl (w.heap.size + 1) (setC f) rfl rfl 41 _ hz'.out (set_size _) (set_hold _ _) (set_cells _) ?_))
    refine bodyPost_ret (v:=setV f) (results_cell_row Tryz.results122 _ _ (w.heap.size + 1) 41 (setC f) (0,0) _ rfl (hz'.out.put _) Tryz.underlying41 rfl (set_size _)) rfl ⟨rfl,below_put hb'.out (by omega) _⟩
  · have hi0 : (((m + 1 : Nat) : Int) - 1) = (m : Int):=by omega
    rw [hi0]
    obtain ⟨K,i,he,hi,hK⟩:=byte_parts m (by omega)
    have h0:=tdiv_of he hi
    have h1:=ediv_of he hi
    obtain ⟨hx63,hxd⟩:=dn_half f m K i he hi
    have hoth:=fun j (_ : j < 4) hj => dn_other f m j K i he hi hj
    have hcell:=hbo.cell (k:=m) (by omega)
    have c0:=hs.cell' hK
    have f0:=hs.thawed K
    generalize hX : wd (dn f (m + 1)) K = x at *
    clear hX
    obtain ⟨G,hG,hGk,hGo⟩:=hs.any (x:=x * 2) hK (by omega)
    have c1:=hG.cell' hK
    rw [hGk] at c1
    have f1:=hG.thawed K
    have hbo1:=hbo.set_other (a:=⟨w.heap.size + 2,K,none⟩) (v:=.int .u64 ((x * 2 : Nat) : Int)) (by show w.heap.size ≠ w.heap.size + 2;omega)
    have hcell1:=hbo1.cell (k:=m) (by omega)
    have hz1:=hz.set_other (a:=⟨w.heap.size + 2,K,none⟩) (v:=.int .u64 ((x * 2 : Nat) : Int)) (by show w.heap.size + 1 ≠ w.heap.size + 2;omega)
    have hb1:=hb.setCell (p:=⟨w.heap.size + 2,K,none⟩) (by show w.heap.size ≤ w.heap.size + 2;omega) (.int .u64 ((x * 2 : Nat) : Int))
    have hD : (x : Int) * 2 = ((x * 2 : Nat) : Int):=by omega
    have hDl : x * 2 < 18446744073709551615:=by omega
    have k0 : (0 : Int) ≤ (K : Int):=by omega
    have k1 : (K : Int) < 4:=by omega
    have k2 : IntKind.i64.wrap (K : Int) = (K : Int):=IntWalk.i64_in _ (by omega)
    have m0 : (m : Int) < 256:=by omega
    have hm:=lhi hk
    generalize x * 2 = D at *
    cases hfk : f m
    · rw [hfk] at hcell hcell1
      have hse:=lhi (hs.store (x:=D) (f':=dn f m) hK (by rw [hxd,hfk];rfl) hoth)
      replace hbo1:=lhi hbo1
      replace hz1:=lhi hz1
      replace hb1:=lhi hb1
      clear he hi hi0 hx63 hxd hoth hG hGk hGo hbo hz hs hb hfk hK
      go_wp2
      go_round
      case rel => exact RelR.mk ⟨m,by have:=hm.out;omega,by go_num,hbo1.out,hz1.out,hse.out,hb1.out⟩
      case measure => simp [intOf]
    · rw [hfk] at hcell hcell1
      have hse:=lhi (hG.store (x:=D + 1) (f':=dn f m) hK (by rw [hxd,hfk];rfl) (fun j hj hne => (hoth j hj hne).trans (hGo j hj hne).symm))
      have hbo2:=lhi (hbo1.set_other (a:=⟨w.heap.size + 2,K,none⟩) (v:=.int .u64 ((D + 1 : Nat) : Int)) (by show w.heap.size ≠ w.heap.size + 2;omega))
      have hz2:=lhi (hz1.set_other (a:=⟨w.heap.size + 2,K,none⟩) (v:=.int .u64 ((D + 1 : Nat) : Int)) (by show w.heap.size + 1 ≠ w.heap.size + 2;omega))
      have hb2:=lhi (hb1.setCell (p:=⟨w.heap.size + 2,K,none⟩) (by show w.heap.size ≤ w.heap.size + 2;omega) (.int .u64 ((D + 1 : Nat) : Int)))
      clear he hi hi0 hx63 hxd hoth hG hGk hGo hbo hz hs hb hfk hK hbo1 hz1 hb1
      go_wp2
      go_round
      case rel => exact RelR.mk ⟨m,by have:=hm.out;omega,by go_num,hbo2.out,hz2.out,hse.out,hb2.out⟩
      case measure => simp [intOf]
def boolsL (f : Nat → Bool) : List Value:=(List.range 256).map fun c => Value.bool (f c)
theorem boolsL_C (f : Nat → Bool) : (boolsL f).toArray = boolsC f:=rfl
theorem boolsL_len (f : Nat → Bool) : (boolsL f).length = 256:=by simp [boolsL]
theorem bools_one (f : Nat → Bool) : ∀ v ∈ boolsL f,v.oneCell' = true:=by
 intro v hv
 obtain ⟨c,_,rfl⟩:=List.mem_map.1 hv
 rfl
theorem size_bools : (Tryz.prog.info? 143).map (·.size) = some 256:=by kernel_rfl
theorem zero_bools' : (Tryz.prog.info? 143).map (fun i => (i.zero,i.size)) = some (some (.agg (boolsC fun _ => false)),256):=by kernel_rfl
theorem zero_bools (w : World) : (zeroValue 143).run Tryz.prog w = .ok (.agg (boolsC fun _ => false)) w:=(zero_of_info zero_bools').1 w
theorem BoolsAt.range {w : World} {g : Nat} {f : Nat → Bool} (h : BoolsAt w g f) : w.rangeAt g 0 (boolsL f):=by
 intro j v hj
 rw [Nat.zero_add,cell_of_row w g j _ _ _ h,← boolsL_C,List.getElem?_toArray];exact hj
theorem SetAt.range {w : World} {g : Nat} {f : Nat → Bool} (h : SetAt w g f) : w.rangeAt g 0 (setC f).toList:=by
 intro j v hj
 rw [Nat.zero_add,cell_of_row w g j _ _ _ h];simpa using hj
def putB (f : Nat → Bool) (x : Nat) (b : Bool) : Nat → Bool:=fun c => if c = x then b else f c
theorem BoolsAt.store {w : World} {g : Nat} {f : Nat → Bool} (h : BoolsAt w g f) {x : Nat} (hx : x < 256) (b : Bool) : BoolsAt (w.setCell ⟨g,x,none⟩ (.bool b)) g (putB f x b):=by
 unfold BoolsAt at h ⊢
 rw [heap_setCell_same w g x _ _ _ h]
 congr 2
 apply Array.ext_getElem?
 intro i
 rw [Array.getElem?_setIfInBounds]
 by_cases hi : x = i
 · subst hi
   rw [if_pos rfl,if_pos (by rw [bools_size];exact hx),bools_get _ _ hx]
   simp [putB]
 · rw [if_neg hi]
   by_cases hl : i < 256
   · rw [bools_get _ _ hl,bools_get _ _ hl]
     have : ¬ i = x:=fun e => hi e.symm
     simp [putB,this]
   · rw [Array.getElem?_eq_none (by rw [bools_size];omega),Array.getElem?_eq_none (by rw [bools_size];omega)]
theorem BoolsAt.alike {w : World} {g : Nat} {f f' : Nat → Bool} (h : BoolsAt w g f) (ha : Go.Proofs.YtonjnagcdnmcpaaGreatDoor.alike f f') : BoolsAt w g f':=by
 unfold BoolsAt at h ⊢
 rw [h]
 congr 2
 apply Array.ext_getElem?
 intro i
 by_cases hl : i < 256
 · rw [bools_get _ _ hl,bools_get _ _ hl,ha i hl]
 · rw [Array.getElem?_eq_none (by rw [bools_size];omega),Array.getElem?_eq_none (by rw [bools_size];omega)]
theorem bools_zero_at (w : World) (g : Nat) (hg : g = w.heap.size) : BoolsAt (w.alloc (.cells (boolsC fun _ => false) 143)) g (fun _ => false):=hg ▸ bools_new w _
def upto (F : Nat → Bool) (k : Nat) : Nat → Bool:=fun x => decide (x < k) && F x
theorem upto_zero (F : Nat → Bool) : upto F 0 = fun _ => false:=by funext x;simp [upto]
theorem upto_end (F : Nat → Bool) : alike (upto F 256) F:=fun c hc => by simp [upto,hc]
theorem upto_next (F : Nat → Bool) (k : Nat) : putB (upto F k) k (F k) = upto F (k + 1):=by
 funext x
 unfold putB upto
 by_cases hx : x = k
 · subst hx;simp
 · have : (x < k + 1) = (x < k):=by apply propext;omega
   simp [hx,this]
def atV (l : List UInt8) (k : Nat) : Int:=match l[k]? with | some x => (x.toNat : Int) | none => -1
theorem atV_in {l : List UInt8} {k : Nat} (h : k < l.length) : atV l k = ((l[k]'h).toNat : Int):=by unfold atV;rw [List.getElem?_eq_getElem h]
theorem atV_out {l : List UInt8} {k : Nat} (h : l.length ≤ k) : atV l k = -1:=by unfold atV;rw [List.getElem?_eq_none h]
theorem atV_is {l : List UInt8} {k : Nat} {x : UInt8} : (atV l k = (x.toNat : Int)) ↔ bg [x] (l.drop k) = true:=by
 by_cases h : k < l.length
 · rw [atV_in h,List.drop_eq_getElem_cons h,bg_cons,bg_nil,Bool.and_true,beq_iff_eq]
   constructor
   · intro e;exact UInt8.toNat_inj.1 (by omega)
   · intro e;rw [e]
 · rw [atV_out (by omega),List.drop_of_length_le (by omega)]
   constructor
   · intro e;omega
   · intro e;cases e
theorem bg_two (x y : UInt8) (l : List UInt8) (k : Nat) : bg [x,y] (l.drop k) = (bg [x] (l.drop k) && bg [y] (l.drop (k + 1))):=by
 by_cases h : k < l.length
 · rw [List.drop_eq_getElem_cons h,bg_cons,bg_cons,bg_nil,Bool.and_true]
 · rw [List.drop_of_length_le (show l.length ≤ k by omega)];rfl
theorem at_any (A : Option Addr) (n c : Nat) (l : List UInt8) (B : Nat) (w : World) (hn : n = l.length) (h : Byt w B A l) (k : Nat) (hk : k ≤ 9223372036854775807) :
    Calls Tryz.prog 120 #[.slice A n c,.int .i64 (k : Int)] w fun e w' => e = .returned (.int .i64 (atV l k)) ∧ w = w':=by
 by_cases hlt : k < l.length
 · obtain ⟨ad,rfl,_,hd⟩:=h.at_ hlt
   rw [atV_in hlt]
   have hc : (l[k]'hlt).toNat < 256:=UInt8.toNat_lt _
   generalize (l[k]'hlt).toNat = x at hd hc ⊢
   replace hn:=lhi hn
   have hkn : k < n:=by have:=hn.out;omega
   go_enter Tryz.func120,Tryz.ntmps120
   go_wp2
   go_ret
   exact ⟨rfl,rfl⟩
 · rw [atV_out (by omega)]
   have hkn : n ≤ k:=by omega
   replace hn:=lhi hn
   go_enter Tryz.func120,Tryz.ntmps120
   go_wp2
   go_ret
   exact ⟨rfl,rfl⟩
def itmL (C : Int) (f : Nat → Bool) (cl : Bool) (nx E : Int) : List Value:=.int .i64 C :: (boolsL f ++ [.bool cl,.int .i64 nx,.int .i64 E])
def itmC (C : Int) (f : Nat → Bool) (cl : Bool) (nx E : Int) : Array Value:=(itmL C f cl nx E).toArray
theorem itm_len (C : Int) (f : Nat → Bool) (cl : Bool) (nx E : Int) : (itmL C f cl nx E).length = 260:=by simp [itmL,boolsL_len]
theorem itm_size (C : Int) (f : Nat → Bool) (cl : Bool) (nx E : Int) : (itmC C f cl nx E).size = 260:=by simp [itmC,itm_len]
theorem itm_0 (C : Int) (f : Nat → Bool) (cl : Bool) (nx E : Int) : (itmC C f cl nx E)[0]? = some (.int .i64 C):=by simp [itmC,itmL]
theorem itm_in (C : Int) (f : Nat → Bool) (cl : Bool) (nx E : Int) {k : Nat} (h : k < 256) : (itmC C f cl nx E)[k + 1]? = some (.bool (f k)):=by
 unfold itmC itmL
 rw [List.getElem?_toArray,List.getElem?_cons_succ,List.getElem?_append_left (by rw [boolsL_len];exact h)]
 unfold boolsL
 rw [List.getElem?_map,List.getElem?_range h];rfl
theorem itm_hi (C : Int) (f : Nat → Bool) (cl : Bool) (nx E : Int) (k : Nat) : (itmC C f cl nx E)[k + 257]? = [Value.bool cl,.int .i64 nx,.int .i64 E][k]?:=by
 unfold itmC itmL
 rw [List.getElem?_toArray,show k + 257 = (k + 256) + 1 by omega,List.getElem?_cons_succ,List.getElem?_append_right (by rw [boolsL_len];omega),boolsL_len,Nat.add_sub_cancel]
theorem itm_one (C : Int) (f : Nat → Bool) (cl : Bool) (nx E : Int) : ∀ v ∈ itmL C f cl nx E,v.oneCell' = true:=by
 intro v hv
 simp only [itmL,List.mem_cons,List.mem_append,List.not_mem_nil,or_false] at hv
 rcases hv with rfl | hv | rfl | rfl | rfl
 · rfl
 · exact bools_one f v hv
 · rfl
 · rfl
 · rfl
def ItmAt (w : World) (g : Nat) (C : Int) (f : Nat → Bool) (cl : Bool) (nx E : Int) : Prop:=w.heap[g]? = some (.cells (itmC C f cl nx E) 145 (0,0))
section
variable {w w' : World} {g : Nat} {C : Int} {f : Nat → Bool} {cl : Bool} {nx E : Int}
theorem ItmAt.lt (h : ItmAt w g C f cl nx E) : g < w.heap.size:=by
 unfold ItmAt at h
 exact (Array.getElem?_eq_some_iff.1 h).1
theorem ItmAt.c0 (h : ItmAt w g C f cl nx E) : w.cell? ⟨g,0,none⟩ = some (.int .i64 C):=by rw [cell_of_row w g 0 _ _ _ h,itm_0]
theorem ItmAt.cin (h : ItmAt w g C f cl nx E) {k : Nat} (hk : k < 256) : w.cell? ⟨g,1 + k,none⟩ = some (.bool (f k)):=by rw [Nat.add_comm,cell_of_row w g (k + 1) _ _ _ h,itm_in _ _ _ _ _ hk]
theorem ItmAt.c2 (h : ItmAt w g C f cl nx E) : w.cell? ⟨g,257,none⟩ = some (.bool cl):=by rw [cell_of_row w g 257 _ _ _ h,itm_hi _ _ _ _ _ 0];rfl
theorem ItmAt.c3 (h : ItmAt w g C f cl nx E) : w.cell? ⟨g,258,none⟩ = some (.int .i64 nx):=by rw [cell_of_row w g 258 _ _ _ h,itm_hi _ _ _ _ _ 1];rfl
theorem ItmAt.c4 (h : ItmAt w g C f cl nx E) : w.cell? ⟨g,259,none⟩ = some (.int .i64 E):=by rw [cell_of_row w g 259 _ _ _ h,itm_hi _ _ _ _ _ 2];rfl
theorem ItmAt.thawed (h : ItmAt w g C f cl nx E) (k : Nat) : w.frozen? ⟨g,k,none⟩ = false:=frozen_of_row w g k _ _ h
theorem ItmAt.below {B : Nat} (h : ItmAt w g C f cl nx E) (hb : Below B w w') (hg : g < B) : ItmAt w' g C f cl nx E:=by
 unfold ItmAt at h ⊢;rw [hb.block g hg];exact h
theorem ItmAt.set_other {a : Addr} {v : Value} (h : ItmAt w g C f cl nx E) (hne : g ≠ a.block) : ItmAt (w.setCell a v) g C f cl nx E:=by
 unfold ItmAt at h ⊢;rw [heap_setCell_other w a g v hne];exact h
theorem ItmAt.alloc (h : ItmAt w g C f cl nx E) (o : Obj) : ItmAt (w.alloc o) g C f cl nx E:=by
 have hl:=h.lt
 unfold ItmAt at h ⊢;rw [Below.heap_alloc w o g hl];exact h
theorem itm_new (w : World) (C : Int) (f : Nat → Bool) (cl : Bool) (nx E : Int) : ItmAt (w.alloc (.cells (itmC C f cl nx E) 145)) w.heap.size C f cl nx E:=heap_alloc_new _ _
theorem ItmAt.range (h : ItmAt w g C f cl nx E) : w.rangeAt g 0 (itmL C f cl nx E):=by
 intro j v hj
 rw [Nat.zero_add,cell_of_row w g j _ _ _ h]
 unfold itmC
 rw [List.getElem?_toArray];exact hj
end
theorem size_itm : (Tryz.prog.info? 145).map (·.size) = some 260:=by kernel_rfl
theorem zero_itm' : (Tryz.prog.info? 145).map (fun i => (i.zero,i.size)) = some (some (.agg (itmC 0 noneF false 0 0)),260):=by kernel_rfl
theorem zero_itm (w : World) : (zeroValue 145).run Tryz.prog w = .ok (.agg (itmC 0 noneF false 0 0)) w:=(zero_of_info zero_itm').1 w
theorem build_E (e : Int) (w : World) : (Instr.build 145 #[(4,.int .i64 e)]).run Tryz.prog w = .ok (.agg (itmC 0 noneF false 0 e)) w:=run_build w _ _ _ (by kernel_rfl)
theorem build_CN (c k : Int) (w : World) : (Instr.build 145 #[(0,.int .i64 c),(3,.int .i64 k)]).run Tryz.prog w = .ok (.agg (itmC c noneF false k 0)) w:=run_build w _ _ _ (by kernel_rfl)
theorem build_N (k : Int) (w : World) : (Instr.build 145 #[(3,.int .i64 k)]).run Tryz.prog w = .ok (.agg (itmC 0 noneF false k 0)) w:=run_build w _ _ _ (by kernel_rfl)
theorem ba_toList (l : List UInt8) : (⟨l.toArray⟩ : ByteArray).toList = l:=by rw [ByteArray.toList_eq]
theorem conv_any {w : World} {B : Nat} {A : Option Addr} {l : List UInt8} {n c : Nat} (h : Byt w B A l) (hn : n = l.length) :
    (convert 22 9 (.slice A n c)).run Tryz.prog w = .ok (.string ⟨l.toArray⟩) w:=by
 subst hn
 cases hl : l with
 | nil => exact run_convert_bytes_zero (P:=Tryz.prog) w 22 5 Tryz.underlying22 Tryz.underlying5 A c 9 Tryz.underlying9
 | cons x r =>
  obtain ⟨ad,rfl,_,_⟩:=h.at_ (k:=0) (by rw [hl];simp)
  rw [← hl]
  exact run_convert_bytes_back (P:=Tryz.prog) w 22 9 5 ad c l Tryz.underlying22 Tryz.underlying5 Tryz.underlying9 (fun j hj => by
   obtain ⟨ad',he,_,hc⟩:=h.at_ hj
   obtain rfl:=Option.some.inj he
   exact hc)
theorem boolsL_alike {f g : Nat → Bool} (h : alike f g) : boolsL f = boolsL g:=by
 unfold boolsL
 refine List.map_congr_left fun c hc => ?_
 rw [h c (List.mem_range.1 hc)]
theorem itm_alike {C : Int} {f g : Nat → Bool} {cl : Bool} {nx E : Int} (h : alike f g) : itmC C f cl nx E = itmC C g cl nx E:=by
 unfold itmC itmL;rw [boolsL_alike h]
def pcC (p : Pc) (k : Nat) : Array Value :=
 match p with
 | .bad e => itmC 0 noneF false 0 e
 | .one c n => itmC (c.toNat : Int) noneF false ((k + n : Nat) : Int) 0
 | .cls nm n => itmC 0 (clsF nm) true ((k + n : Nat) : Int) 0
theorem itm_hold (C C' : Int) (f f' : Nat → Bool) (cl cl' : Bool) (nx nx' E E' : Int) : (itmC C f cl nx E).size = (itmC C' f' cl' nx' E').size:=by rw [itm_size,itm_size]
theorem itm_cells (C : Int) (f : Nat → Bool) (cl : Bool) (nx E : Int) : (itmC C f cl nx E).all (·.oneCell') = true:=by
 unfold itmC
 rw [List.all_toArray,List.all_eq_true]
 exact itm_one C f cl nx E
theorem itm_sz (C : Int) (f : Nat → Bool) (cl : Bool) (nx E : Int) : (Tryz.prog.info? 145).map (·.size) = some (itmC C f cl nx E).size:=by rw [itm_size];exact size_itm
section
variable {w : World} {g : Nat} {C : Int} {f : Nat → Bool} {cl : Bool} {nx E : Int}
theorem ItmAt.put (h : ItmAt w g C f cl nx E) (C' : Int) (f' : Nat → Bool) (cl' : Bool) (nx' E' : Int) : ItmAt (w.setRow g (itmC C' f' cl' nx' E')) g C' f' cl' nx' E':=setRow_heap w g _ _ _ _ h
end
theorem read_out (A : Option Addr) (n c : Nat) (l : List UInt8) (w : World) (hn : n = l.length) (k : Nat) (hk : l.length ≤ k) :
    Calls Tryz.prog 121 #[.slice A n c,.int .i64 (k : Int)] w fun e w' => e = .returned (.agg (pcC (piece (l.drop k)) k)) ∧ Below w.heap.size w w':=by
 have hp : piece (l.drop k) = .bad 11:=by rw [List.drop_of_length_le hk];rfl
 rw [hp]
 have hz:=zero_itm
 have hb:=build_E 11
 have hkn : n ≤ k:=by omega
 clear hp hn hk
 go_enter Tryz.func121,Tryz.ntmps121
 go_wp2_with (refine wpList_store_row rfl 145 (.tmp 4) (.tmp 15) rfl w.heap.size (itmC 0 noneF false 0 11) rfl rfl 145 _ (itm_new w 0 noneF false 0 0) (itm_sz _ _ _ _ _) (itm_hold _ _ _ _ _ _ _ _ _ _) (itm_cells _ _ _ _ _) ?_)
 refine bodyPost_ret (v:=.agg (itmC 0 noneF false 0 11)) (results_cell_row Tryz.results121 _ _ w.heap.size 145 (itmC 0 noneF false 0 11) (0,0) _ rfl ((itm_new w 0 noneF false 0 0).put _ _ _ _ _) Tryz.underlying145 rfl (itm_sz _ _ _ _ _)) rfl ⟨rfl,below_put ((Below.refl _ _).alloc (nlr _) _) (nlr _) _⟩
theorem bg_at (x y : UInt8) {l : List UInt8} {k : Nat} (h : k < l.length) : bg [x,y] (l.drop k) = (decide (((l[k]'h).toNat : Int) = (x.toNat : Int)) && decide (atV l (k + 1) = (y.toNat : Int))):=by
 rw [bg_two,Bool.eq_iff_iff]
 simp only [Bool.and_eq_true,decide_eq_true_eq,← atV_is,atV_in h]
theorem piece_plain {l : List UInt8} {k : Nat} (h : k < l.length) (h1 : ((l[k]'h).toNat : Int) = 91 → atV l (k + 1) ≠ 58 ∧ atV l (k + 1) ≠ 46 ∧ atV l (k + 1) ≠ 61) :
    piece (l.drop k) = if ((l[k]'h).toNat : Int) = 92 ∧ atV l (k + 1) = 110 then .one 10 2 else .one (l[k]'h) 1:=by
 have e1 : bg [91,58] (l.drop k) = false:=by rw [bg_at 91 58 h];by_cases e : ((l[k]'h).toNat : Int) = 91 <;> simp [e];exact (h1 e).1
 have e2 : bg [91,46] (l.drop k) = false:=by rw [bg_at 91 46 h];by_cases e : ((l[k]'h).toNat : Int) = 91 <;> simp [e];exact (h1 e).2.1
 have e3 : bg [91,61] (l.drop k) = false:=by rw [bg_at 91 61 h];by_cases e : ((l[k]'h).toNat : Int) = 91 <;> simp [e];exact (h1 e).2.2
 have e4 : bg [92,110] (l.drop k) = decide (((l[k]'h).toNat : Int) = 92 ∧ atV l (k + 1) = 110):=by rw [bg_at 92 110 h];simp
 unfold piece endP
 rw [e1,e2,e3,e4]
 simp only [Bool.false_eq_true,if_false,decide_eq_true_eq]
 split
 · rfl
 · rw [List.drop_eq_getElem_cons h]
theorem read_nl (A : Option Addr) (n c : Nat) (l : List UInt8) (B : Nat) (w : World) (hn : n = l.length) (hB : B ≤ w.heap.size) (hbt : Byt w B A l) (k : Nat) (hk : k < l.length) (hs : l.length ≤ 1000000) (hx : ((l[k]'hk).toNat : Int) = 92) (hy : atV l (k + 1) = 110) :
    Calls Tryz.prog 121 #[.slice A n c,.int .i64 (k : Int)] w fun e w' => e = .returned (.agg (pcC (piece (l.drop k)) k)) ∧ Below w.heap.size w w':=by
 have hp : piece (l.drop k) = .one 10 2:=by rw [piece_plain hk (fun e => by omega),if_pos ⟨hx,hy⟩]
 rw [hp]
 have hz:=zero_itm
 have hb:=build_CN 10 ((k : Int) + 2)
 replace hbt:=(hbt.more hB).below ((Below.refl _ _).alloc (nlr _) (.cells (itmC 0 noneF false 0 0) 145))
 have hat:=at_any A n c l w.heap.size _ hn hbt (k + 1) (by omega)
 rw [hy] at hat
 replace hat:=lhi hat
 obtain ⟨ad,rfl,hadB,hd⟩:=hbt.at_ hk
 rw [hx] at hd
 have hkn : k < n:=by omega
 have hks : k < 1000000:=by omega
 clear hp hn hk hx hy hbt hs hB
 go_enter Tryz.func121,Tryz.ntmps121
 go_wp2_with (first
  | (go_at_call 120;refine (hat.out).mono ?_;rintro e w' ⟨rfl,rfl⟩)
  | (refine wpList_store_row rfl 145 (.tmp 4) (.tmp 31) rfl w.heap.size (itmC 10 noneF false ((k : Int) + 2) 0) rfl rfl 145 _ (itm_new w 0 noneF false 0 0) (itm_sz _ _ _ _ _) (itm_hold _ _ _ _ _ _ _ _ _ _) (itm_cells _ _ _ _ _) ?_))
 refine bodyPost_ret (v:=.agg (itmC 10 noneF false ((k : Int) + 2) 0)) (results_cell_row Tryz.results121 _ _ w.heap.size 145 (itmC 10 noneF false ((k : Int) + 2) 0) (0,0) _ rfl ((itm_new w 0 noneF false 0 0).put _ _ _ _ _) Tryz.underlying145 rfl (itm_sz _ _ _ _ _)) rfl ⟨rfl,below_put ((Below.refl _ _).alloc (nlr _) _) (nlr _) _⟩
theorem read_one (A : Option Addr) (n c : Nat) (l : List UInt8) (B : Nat) (w : World) (hn : n = l.length) (hB : B ≤ w.heap.size) (hbt : Byt w B A l) (k : Nat) (hk : k < l.length) (hs : l.length ≤ 1000000)
    (h1 : ((l[k]'hk).toNat : Int) = 91 → atV l (k + 1) ≠ 58 ∧ atV l (k + 1) ≠ 46 ∧ atV l (k + 1) ≠ 61) (h2 : ¬ (((l[k]'hk).toNat : Int) = 92 ∧ atV l (k + 1) = 110)) :
    Calls Tryz.prog 121 #[.slice A n c,.int .i64 (k : Int)] w fun e w' => e = .returned (.agg (pcC (piece (l.drop k)) k)) ∧ Below w.heap.size w w':=by
 have hp : piece (l.drop k) = .one (l[k]'hk) 1:=by rw [piece_plain hk h1,if_neg h2]
 rw [hp]
 show Calls _ _ _ _ fun e w' => e = .returned (.agg (itmC ((l[k]'hk).toNat : Int) noneF false ((k : Int) + 1) 0)) ∧ Below w.heap.size w w'
 have hz:=zero_itm
 have hb:=build_CN ((l[k]'hk).toNat : Int) ((k : Int) + 1)
 replace hbt:=(hbt.more hB).below ((Below.refl _ _).alloc (nlr _) (.cells (itmC 0 noneF false 0 0) 145))
 have hat:=at_any A n c l w.heap.size _ hn hbt (k + 1) (by omega)
 have hX : (l[k]'hk).toNat < 256:=UInt8.toNat_lt _
 obtain ⟨ad,rfl,hadB,hd⟩:=hbt.at_ hk
 generalize (l[k]'hk).toNat = X at *
 generalize atV l (k + 1) = y at *
 replace hat:=lhi hat
 have hkn : k < n:=by omega
 have hks : k < 1000000:=by omega
 have fin : ∀ w' v,w' = (w.alloc (.cells (itmC 0 noneF false 0 0) 145)).setRow w.heap.size (itmC (X : Int) noneF false ((k : Int) + 1) 0) → v = .agg (itmC (X : Int) noneF false ((k : Int) + 1) 0) → Ending.returned v = .returned (.agg (itmC (X : Int) noneF false ((k : Int) + 1) 0)) ∧ Below w.heap.size w w':=by
  rintro w' v rfl rfl
  exact ⟨rfl,below_put ((Below.refl _ _).alloc (nlr _) _) (nlr _) _⟩
 clear hp hn hk hbt hs hB
 by_cases h92 : X = 92
 · subst h92
   have g1 : (y == 110) = false:=by simpa using fun e => h2 ⟨rfl,e⟩
   clear h1 h2
   go_enter Tryz.func121,Tryz.ntmps121
   go_wp2_with (first
    | (go_at_call 120;refine (hat.out).mono ?_;rintro e w' ⟨rfl,rfl⟩)
    | (refine wpList_store_row rfl 145 (.tmp 4) (.tmp 56) rfl w.heap.size (itmC 92 noneF false ((k : Int) + 1) 0) rfl rfl 145 _ (itm_new w 0 noneF false 0 0) (itm_sz _ _ _ _ _) (itm_hold _ _ _ _ _ _ _ _ _ _) (itm_cells _ _ _ _ _) ?_))
   exact bodyPost_ret (v:=.agg (itmC 92 noneF false ((k : Int) + 1) 0)) (results_cell_row Tryz.results121 _ _ w.heap.size 145 (itmC 92 noneF false ((k : Int) + 1) 0) (0,0) _ rfl ((itm_new w 0 noneF false 0 0).put _ _ _ _ _) Tryz.underlying145 rfl (itm_sz _ _ _ _ _)) rfl (fin _ _ rfl rfl)
 · by_cases h91 : X = 91
   · subst h91
     obtain ⟨m1,m2,m3⟩:=h1 rfl
     have g2 : (y != 58) = true:=by simpa using m1
     have g3 : (y != 46) = true:=by simpa using m2
     have g4 : (y != 61) = true:=by simpa using m3
     clear h1 h2 h92 m1 m2 m3
     go_enter Tryz.func121,Tryz.ntmps121
     go_wp2_with (first
      | (go_at_call 120;refine (hat.out).mono ?_;rintro e w' ⟨rfl,rfl⟩)
      | (refine wpList_store_row rfl 145 (.tmp 4) (.tmp 56) rfl w.heap.size (itmC 91 noneF false ((k : Int) + 1) 0) rfl rfl 145 _ (itm_new w 0 noneF false 0 0) (itm_sz _ _ _ _ _) (itm_hold _ _ _ _ _ _ _ _ _ _) (itm_cells _ _ _ _ _) ?_))
     exact bodyPost_ret (v:=.agg (itmC 91 noneF false ((k : Int) + 1) 0)) (results_cell_row Tryz.results121 _ _ w.heap.size 145 (itmC 91 noneF false ((k : Int) + 1) 0) (0,0) _ rfl ((itm_new w 0 noneF false 0 0).put _ _ _ _ _) Tryz.underlying145 rfl (itm_sz _ _ _ _ _)) rfl (fin _ _ rfl rfl)
   · have g0 : ((X : Int) == 92) = false:=by simp;omega
     have g1 : ((X : Int) != 91) = true:=by simp;omega
     clear h1 h2 h92 h91
     go_enter Tryz.func121,Tryz.ntmps121
     go_wp2_with (first
      | (go_at_call 120;refine (hat.out).mono ?_;rintro e w' ⟨rfl,rfl⟩)
      | (refine wpList_store_row rfl 145 (.tmp 4) (.tmp 56) rfl w.heap.size (itmC X noneF false ((k : Int) + 1) 0) rfl rfl 145 _ (itm_new w 0 noneF false 0 0) (itm_sz _ _ _ _ _) (itm_hold _ _ _ _ _ _ _ _ _ _) (itm_cells _ _ _ _ _) ?_))
     exact bodyPost_ret (v:=.agg (itmC X noneF false ((k : Int) + 1) 0)) (results_cell_row Tryz.results121 _ _ w.heap.size 145 (itmC X noneF false ((k : Int) + 1) 0) (0,0) _ rfl ((itm_new w 0 noneF false 0 0).put _ _ _ _ _) Tryz.underlying145 rfl (itm_sz _ _ _ _ _)) rfl (fin _ _ rfl rfl)
end Go.Proofs.YtonjnagcdnmcpaaGreatDoor
