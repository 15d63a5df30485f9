/- Contracts and plain facts: M05. -/
import Derived.Test.YtbdfhmefjfaofaaM04
import Derived.Shelf.Abstract
set_option linter.unusedVariables false
set_option linter.unusedSimpArgs false
set_option maxRecDepth 100000
set_option maxHeartbeats 32000000
namespace Go.Proofs.Ytbdfhmefjfaofaa
open Go.RowKit
def onceL (l : List Int) : Bool:=l.all fun x => decide (x = 1)
theorem onceL_no {l : List Int} {k : Nat} (hk : k < l.length) (h : l[k]'hk ≠ 1) : onceL l = false:=by
 unfold onceL
 rw [List.all_eq_false]
 exact ⟨_,List.getElem_mem hk,by simpa using h⟩
theorem onceL_yes {l : List Int} (h : ∀ k (hk : k < l.length),l[k]'hk = 1) : onceL l = true:=by
 unfold onceL
 rw [List.all_eq_true]
 intro x hx
 obtain ⟨k,hk,rfl⟩:=List.getElem_of_mem hx
 simpa using h k hk
theorem notOne_any (x : Int) (w : World) : Calls Try.prog 49 #[.int .i64 x] w fun e w' => e = .returned (.bool (x != 1)) ∧ w = w':=by
 go_enter Try.func49,Try.ntmps49
 go_wp2
 go_ret
 exact ⟨rfl,rfl⟩
def IdxRet (l : List Int) (w : World) (e : Ending) (w' : World) : Prop:=∃ z : Int,e = .returned (.int .i64 z) ∧ decide (0 ≤ z) = !onceL l ∧ w = w'
theorem IdxRet.mk {l : List Int} {w w' : World} {z : Int} (h : decide (0 ≤ z) = !onceL l) (hw : w = w') : IdxRet l w (.returned (.int .i64 z)) w':=⟨z,rfl,h,hw⟩
theorem indexNot_any (A : Option Addr) (n c : Nat) (l : List Int) (B : Nat) (w : World) (hn : n = l.length) (hnc : n ≤ c) (hm : c ≤ maxLen) (h : Vals w B A (l.map (Value.int .i64))) :
    Calls Try.prog 53 #[.slice A n c,.func (.func 49) #[] #[]] w (IdxRet l w):=by
 unfold maxLen at hm
 have eg : ∀ args w,(callFunc 49 args).run Try.prog w = .ok (.enter 49 args) w:=enters_of Try.func49 (by kernel_rfl) rfl
 have hH:=lhi hn
 clear hn
 go_enter Try.func53,Try.ntmps53
 go_wp2
 go_loop [5,8] (fun _ i => ∃ k : Nat,k ≤ n ∧ i = .int .i64 (k : Nat) ∧ Hid (∀ j (hj : j < l.length),j < k → l[j]'hj = 1)) (fun _ i => n - (intOf i).toNat)
 case atStart => exact ⟨0,by omega,rfl,lhi fun j hj h => absurd h (by omega)⟩
 case round =>
  obtain ⟨k,hk,rfl,hr⟩:=hrel
  by_cases hlt : k < n
  · have hkl : k < l.length:=by have:=hH.out;omega
    obtain ⟨ad,hA,-,hd⟩:=h.at_ (k:=k) (by rw [List.length_map];exact hkl)
    subst hA
    rw [List.getElem_map] at hd
    by_cases he : l[k]'hkl = 1
    · have hN:=lhi (show ∀ j (hj : j < l.length),j < k + 1 → l[j]'hj = 1 from fun j hj hl => by
        rcases Nat.lt_or_ge j k with h1 | h1
        · exact hr.out j hj h1
        · obtain rfl : j = k:=by omega
          exact he)
      rw [he] at hd
      clear he
      have hS:=lhi (notOne_any 1 w)
      go_wp2_with (go_at_fn 49;refine (hS.out).mono ?_;rintro e w' ⟨rfl,rfl⟩)
      go_round
      case rel => exact ⟨k + 1,by omega,by go_num,hN⟩
      case measure => simp [intOf];omega
    · have hP:=lhi (onceL_no hkl he)
      have hS:=lhi (show Calls Try.prog 49 #[.int .i64 (l[k]'hkl)] w fun e w' => e = .returned (.bool true) ∧ w = w' by
       have:=notOne_any (l[k]'hkl) w
       rw [show (l[k]'hkl != 1) = true by rw [bne_iff_ne];exact he] at this;exact this)
      generalize l[k]'hkl = x at *
      clear he
      go_wp2_with (go_at_fn 49;refine (hS.out).mono ?_;rintro e w' ⟨rfl,rfl⟩)
      go_ret
      exact IdxRet.mk (by rw [hP.out];simp) rfl
  · obtain rfl : k = n:=by omega
    go_wp2
    go_ret
    exact IdxRet.mk (by rw [onceL_yes fun j hj => hr.out j hj (by have:=hH.out;omega)];decide) rfl
theorem containsNot_any (A : Option Addr) (n c : Nat) (l : List Int) (B : Nat) (w : World) (hn : n = l.length) (hnc : n ≤ c) (hm : c ≤ maxLen) (h : Vals w B A (l.map (Value.int .i64))) :
    Calls Try.prog 48 #[.slice A n c,.func (.func 49) #[] #[]] w fun e w' => e = .returned (.bool (!onceL l)) ∧ w = w':=by
 have hI:=lhi (indexNot_any A n c l B w hn hnc hm h)
 clear hn h hnc hm
 go_enter Try.func48,Try.ntmps48
 go_wp2_with (go_at_call 53;refine (hI.out).mono ?_;rintro e w' ⟨z,rfl,hz,rfl⟩;have hz':=lhi hz;clear hz)
 go_ret
 exact ⟨ret_bool hz'.out,rfl⟩
theorem allOnce_any (A : Option Addr) (n c : Nat) (l : List Int) (B : Nat) (w : World) (hn : n = l.length) (hnc : n ≤ c) (hm : c ≤ maxLen) (h : Vals w B A (l.map (Value.int .i64))) :
    Calls Try.prog 32 #[.slice A n c] w fun e w' => e = .returned (.bool (onceL l)) ∧ w = w':=by
 have hI:=lhi (containsNot_any A n c l B w hn hnc hm h)
 clear hn h hnc hm
 generalize onceL l = b at *
 go_enter Try.func32,Try.ntmps32
 go_wp2_with (go_at_call 48;refine (hI.out).mono ?_;rintro e w' ⟨rfl,rfl⟩)
 go_ret
 exact ⟨ret_bool (by simp),rfl⟩
def rowC (m : Nat) (f : Nat → Int) : Array Value:=((List.range m).map fun i => Value.int .i64 (f i)).toArray
theorem rowC_get (m : Nat) (f : Nat → Int) (i : Nat) (h : i < m) : (rowC m f)[i]? = some (.int .i64 (f i)):=by
 unfold rowC
 rw [List.getElem?_toArray,List.getElem?_map,List.getElem?_range h];rfl
theorem rowC_size (m : Nat) (f : Nat → Int) : (rowC m f).size = m:=by simp [rowC]
theorem rowC_set (m : Nat) (f : Nat → Int) (p : Nat) (x : Int) : (rowC m f).setIfInBounds p (.int .i64 x) = rowC m (fun i => if i = p then x else f i):=by
 apply Array.ext_getElem?
 intro i
 rw [Array.getElem?_setIfInBounds]
 by_cases hi : p = i
 · subst hi
   rw [if_pos rfl,rowC_size]
   by_cases hp : p < m
   · rw [if_pos hp,rowC_get _ _ _ hp];simp
   · rw [if_neg hp,Array.getElem?_eq_none (by rw [rowC_size];omega)]
 · rw [if_neg hi]
   by_cases hl : i < m
   · have : ¬ i = p:=fun e => hi e.symm
     rw [rowC_get _ _ _ hl,rowC_get _ _ _ hl];simp [this]
   · rw [Array.getElem?_eq_none (by rw [rowC_size];omega),Array.getElem?_eq_none (by rw [rowC_size];omega)]
theorem rowC_zero (m : Nat) : (madeCells #[.int .i64 0] m) = rowC m (fun _ => 0):=by
 apply Array.toList_inj.1
 rw [toList_madeCells_one]
 simp [rowC,List.map_const']
theorem int_info : (Try.prog.info? 3).map (fun i => (i.zero,i.size,i.bytes)) = some (some (.int .i64 0),1,8):=by kernel_rfl
theorem make_ints (m : Nat) (h : m ≤ 1000000) (w : World) :
    (Instr.makeSlice 59 (.int .i64 (m : Int)) (.int .i64 (m : Int))).run Try.prog w = .ok (.slice (some ⟨w.heap.size,0,none⟩) m m) (w.alloc (.cells (rowC m (fun _ => 0)) 3)):=by
 obtain ⟨i,hi,hh⟩:=Option.map_eq_some_iff.1 int_info
 simp only [Prod.mk.injEq] at hh
 obtain ⟨h1,h2,h3⟩:=hh
 have hr:=run_make (P:=Try.prog) w 59 3 i (.int .i64 0) Try.underlying59 hi h1 .i64 .i64 (m : Int) (m : Int) (by omega) (Int.le_refl _) (by rw [h3];omega) (by omega)
 rw [hr,h2]
 simp only [Int.toNat_natCast,Nat.mul_one]
 rw [show (Value.int .i64 0).cells = #[.int .i64 0] from rfl,rowC_zero]
theorem Held.rowVals {w : World} {g m : Nat} {t : TypeId} {f : Nat → Int} (h : Held w g t (rowC m f)) (k : Nat) (hk : k ≤ m) : Vals w (g + 1) (some ⟨g,0,none⟩) (((List.range k).map f).map (Value.int .i64)):=by
 intro j hj
 have hj' : j < k:=by simpa using hj
 refine ⟨_,rfl,Nat.lt_succ_self _,?_⟩
 rw [add_zero_off,h.at_ (rowC_get m f j (by omega))]
 simp
theorem Held.rowVals1 {w : World} {g m : Nat} {t : TypeId} {f : Nat → Int} (h : Held w g t (rowC (m + 1) f)) : Vals w (g + 1) (some ⟨g,1,none⟩) (((List.range m).map fun i => f (i + 1)).map (Value.int .i64)):=by
 intro j hj
 have hj' : j < m:=by simpa using hj
 refine ⟨_,rfl,Nat.lt_succ_self _,?_⟩
 rw [Addr.add_mid,Nat.add_comm,h.at_ (rowC_get (m + 1) f (j + 1) (by omega))]
 simp
def cntI (l : List Int) (i : Nat) : Int:=(l.countP (fun x => decide (x = (i : Int))) : Nat)
theorem cntI_snoc (l : List Int) (p : Nat) (i : Nat) : cntI (l ++ [(p : Int)]) i = if i = p then cntI l p + 1 else cntI l i:=by
 unfold cntI
 rw [List.countP_append]
 by_cases h : i = p
 · subst h;simp
 · have : ¬ (p : Int) = (i : Int):=by omega
   simp [h,this]
theorem cntI_le (l : List Int) (i : Nat) : 0 ≤ cntI l i ∧ cntI l i ≤ l.length:=by
 unfold cntI
 have:=List.countP_le_length (p:=fun x => decide (x = (i : Int))) (l:=l)
 omega
def usesN (ns : List Nod) : Nat → Int:=cntI (ns.flatMap partsN)
def grpsN (ns : List Nod) : Nat → Int:=cntI ((ns.filter fun n => decide (n.kind = 5)).map Nod.grp)
theorem partsN_len (n : Nod) : (partsN n).length ≤ 2:=by unfold partsN;split <;> (try split) <;> simp
theorem flat_len (ns : List Nod) : (ns.flatMap partsN).length ≤ 2 * ns.length:=by
 induction ns with
 | nil => simp
 | cons n ns ih => have:=partsN_len n;simp only [List.flatMap_cons,lla,List.length_cons];omega
theorem grp_len (ns : List Nod) : ((ns.filter fun n => decide (n.kind = 5)).map Nod.grp).length ≤ ns.length:=by
 rw [List.length_map];exact List.length_filter_le _ _
noncomputable def rightN (ns : List Nod) (g : Int) : Bool :=
 (decide (1 ≤ ns.length) && decide (ns.length ≤ 1000) && decide (0 ≤ g) && decide (g ≤ 9)) &&
  (@decide (∀ k (hk : k < ns.length),fitsN (ns[k]'hk) (k : Int) g = true) (Classical.propDecidable _) &&
  (onceL ((List.range (ns.length - 1)).map (usesN ns)) && onceL ((List.range g.toNat).map fun i => grpsN ns (i + 1))))
theorem rightN_size {ns : List Nod} {g : Int} (h : ¬ (1 ≤ ns.length ∧ ns.length ≤ 1000 ∧ 0 ≤ g ∧ g ≤ 9)) : rightN ns g = false:=by
 unfold rightN
 have : (decide (1 ≤ ns.length) && decide (ns.length ≤ 1000) && decide (0 ≤ g) && decide (g ≤ 9)) = false:=by
  rw [Bool.eq_false_iff]
  intro e
  simp only [Bool.and_eq_true,decide_eq_true_eq] at e
  exact h ⟨e.1.1.1,e.1.1.2,e.1.2,e.2⟩
 rw [this];rfl
theorem rightN_fits {ns : List Nod} {g : Int} {k : Nat} (hk : k < ns.length) (h : fitsN (ns[k]'hk) (k : Int) g = false) : rightN ns g = false:=by
 unfold rightN
 have : @decide (∀ k (hk : k < ns.length),fitsN (ns[k]'hk) (k : Int) g = true) (Classical.propDecidable _) = false:=by
  refine @decide_eq_false _ (Classical.propDecidable _) fun e => ?_
  rw [e k hk] at h;cases h
 rw [this];simp
theorem rightN_end {ns : List Nod} {g : Int} (h : 1 ≤ ns.length ∧ ns.length ≤ 1000 ∧ 0 ≤ g ∧ g ≤ 9) (hf : ∀ k (hk : k < ns.length),fitsN (ns[k]'hk) (k : Int) g = true) :
    rightN ns g = (onceL ((List.range (ns.length - 1)).map (usesN ns)) && onceL ((List.range g.toNat).map fun i => grpsN ns (i + 1))):=by
 unfold rightN
 rw [@decide_eq_true _ (Classical.propDecidable _) hf,decide_eq_true h.1,decide_eq_true h.2.1,decide_eq_true h.2.2.1,decide_eq_true h.2.2.2];simp
theorem fits_part {n : Nod} {t g p : Int} (h : fitsN n t g = true) (hp : p ∈ partsN n) : 0 ≤ p ∧ p < t:=by
 unfold fitsN at h
 rw [Bool.and_eq_true,List.all_eq_true] at h
 have:=h.1 p hp
 simpa [okP] using this
theorem fits_grp {n : Nod} {t g : Int} (h : fitsN n t g = true) (hk : n.kind = 5) : 1 ≤ n.grp ∧ n.grp ≤ g:=by
 unfold fitsN at h
 simp only [Bool.and_eq_true,Bool.or_eq_true,decide_eq_true_eq] at h
 rcases h.2.2.1 with h1 | h1
 · exact absurd hk h1.1
 · exact h1
theorem right_small (A : Option Addr) (n c : Nat) (ns : List Nod) (g : Int) (w : World) (hn : n = ns.length) (hm : n ≤ maxLen) (h : ¬ (1 ≤ ns.length ∧ ns.length ≤ 1000 ∧ 0 ≤ g ∧ g ≤ 9)) :
    Calls Try.prog 21 #[.agg #[.slice A n c,.int .i64 g]] w fun e w' => e = .returned (.bool false) ∧ Below w.heap.size w w':=by
 unfold maxLen at hm
 have hb:=lhi ((Below.refl w.heap.size w).alloc (nlr _) (.cells #[.slice A n c,.int .i64 g] 24))
 rw [← hn] at h
 clear hn
 by_cases h1 : n < 1
 · clear h
   go_enter Try.func21,Try.ntmps21
   go_wp2
   go_ret
   exact ⟨rfl,hb.out⟩
 by_cases h2 : 1000 < n
 · clear h
   go_enter Try.func21,Try.ntmps21
   go_wp2
   go_ret
   exact ⟨rfl,hb.out⟩
 by_cases h3 : g < 0
 · clear h
   go_enter Try.func21,Try.ntmps21
   go_wp2
   go_ret
   exact ⟨rfl,hb.out⟩
 by_cases h4 : 9 < g
 · clear h
   go_enter Try.func21,Try.ntmps21
   go_wp2
   go_ret
   exact ⟨rfl,hb.out⟩
 · exact absurd ⟨by omega,by omega,by omega,by omega⟩ h
end Go.Proofs.Ytbdfhmefjfaofaa
