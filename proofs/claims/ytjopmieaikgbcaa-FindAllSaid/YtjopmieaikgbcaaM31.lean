/- Contracts and plain facts: M31. -/
import Derived.Test.YtjopmieaikgbcaaM28
set_option linter.unusedVariables false
set_option linter.unusedSimpArgs false
set_option maxRecDepth 100000
set_option maxHeartbeats 32000000
namespace Go.Proofs.Ytjopmieaikgbcaa
open Go.RowKit
def LV (ns : List Nod) (i : Nat) : Int:=leastTo ns (i + 1) i
theorem lv_lt (ns : List Nod) : ∀ (k a : Nat),a < k → leastTo ns k a = LV ns a
 | 0,a,h => absurd h (Nat.not_lt_zero a)
 | k + 1,a,h => by
  by_cases e : a = k
  · subst e;rfl
  · have : leastTo ns (k + 1) a = leastTo ns k a:=by
      show (if a = k then _ else _) = _
      rw [if_neg e]
    rw [this]
    exact lv_lt ns k a (by omega)
theorem lv_eq {ns : List Nod} {i : Nat} (h : i < ns.length) : LV ns i = min (leastI (ndA ns (i : Int)) (leastTo ns i)) 65537:=by
 unfold LV
 rw [leastTo_next ns i h,ndA_at (by simpa using h)]
 show (if i = i then _ else _) = _
 rw [if_pos rfl]
 rfl
theorem lv_low {ns : List Nod} {g : Int} (hr : rightN ns g = true) (i : Nat) (h : i < ns.length) : 0 ≤ LV ns i ∧ LV ns i ≤ 65537:=by
 obtain ⟨⟨h1,h2,-,-⟩,hfit⟩:=rightN_all hr
 exact leastTo_low ns (fun k hk => fits_lst (hfit k hk) (by omega)) (i + 1) (by omega) i
def LeastOK (B : Nat) (A : Option Addr) (n c : Nat) (ns : List Nod) (i : Nat) : Prop :=
 ∀ (w' : World) (j : Nat),j < i → Nods w' B A ns → B ≤ w'.heap.size → Calls Try.prog 45 #[.slice A n c,.int .i64 (j : Int)] w' fun e w'' => e = .returned (.int .i64 (LV ns j)) ∧ Below w'.heap.size w' w''
def SLe (KN : Nat) (CN : Array Value) (w' : World) : Prop:=Held w' KN 54 CN
theorem SLe.below {KN : Nat} {CN : Array Value} {w1 w2 : World} (h : SLe KN CN w1) (hb : Below w1.heap.size w1 w2) : SLe KN CN w2:=Held.keep h hb
theorem nod_at0 (N : Nod) : (nodC N)[0]? = some (.int .i64 N.kind) ∧ (nodC N)[1]? = some (.int .i64 N.a) ∧ (nodC N)[2]? = some (.int .i64 N.b) ∧ (nodC N)[3]? = some (.int .i64 N.lo) ∧ (nodC N)[4]? = some (.int .i64 N.hi) ∧ (nodC N)[5]? = some (.int .i64 N.grp):=⟨rfl,rfl,rfl,rfl,rfl,rfl⟩
theorem nod_zero_litL (w : World) : Held (w.alloc (.cells #[.int .i64 0,.int .i64 0,.int .i64 0,.int .i64 0,.int .i64 0,.int .i64 0,.int .u64 0,.int .u64 0,.int .u64 0,.int .u64 0] 54)) w.heap.size 54 #[.int .i64 0,.int .i64 0,.int .i64 0,.int .i64 0,.int .i64 0,.int .i64 0,.int .u64 0,.int .u64 0,.int .u64 0,.int .u64 0]:=held_new w _ _
section
variable {w : World} {B : Nat} {A : Option Addr} {n c : Nat} {ns : List Nod} {g : Int}
theorem rleast_1 (i : Nat) (hn : n = ns.length) (hnc : n ≤ c) (hm : c ≤ maxLen) (hB : B ≤ w.heap.size) (h : Nods w B A ns) (hr : rightN ns g = true) (hi : i < ns.length) (hI : LeastOK B A n c ns i) (hk : (ndA ns (i : Int)).kind = 1) :
    Calls Try.prog 45 #[.slice A n c,.int .i64 (i : Int)] w fun e w' => e = .returned (.int .i64 (LV ns i)) ∧ Below w.heap.size w w':=by
 have hrt:=right_rt hr
 have hlow:=lv_low hr
 have hLe:=lv_eq hi
 have hki:=hrt.2.2 (i : Int) (by omega) (by omega)
 have hin : i < n:=by omega
 have hiI : (i : Int) < (n : Int):=by omega
 have hi0 : (0 : Int) ≤ (i : Int):=by omega
 obtain ⟨ad,bb,oo,rfl,hp,hbb,hrn⟩ : ∃ ad bb oo,A = some ad ∧ ad.add (i * 10) = ⟨bb,oo,none⟩ ∧ bb < B ∧ w.rangeAt bb oo (nodL (ndA ns (i : Int))):=by
  obtain ⟨ad,bb,oo,h1,h2,h3,h4⟩:=h.at_ hi
  exact ⟨ad,bb,oo,h1,h2,h3,by rwa [ndA_at (by simpa using hi)]⟩
 have hrnh:=lhi hrn
 have hb1:=lhi ((Below.refl w.heap.size w).alloc (nlr _) (.cells (nodC (ndA ns (i : Int))) 54))
 have hN1:=lhi (held_new w 54 (nodC (ndA ns (i : Int))))
 have ⟨N0,N1,N2,N3,N4,_⟩:=nod_at0 (ndA ns (i : Int))
 have hNd:=lhi (fun w' (hb : Below w.heap.size w w') => h.below (hb.mono hB))
 have hBh:=lhi hB
 have hNl:=lhi (nod_size (ndA ns (i : Int)))
 have hNo:=lhi (nod_cells (ndA ns (i : Int)))
 have hnz:=lhi (nod_zero_litL w)
 have hval : LV ns i = 1:=by rw [hLe];unfold leastI;rw [hk];rfl
 clear h hrn hlow hki hrt hr hn hnc hm hB
 go_enter Try.func45,Try.ntmps45
 go_upto_region 3 with (first
  | (refine wpList_load_mid rfl 54 (.tmp 9) rfl bb oo rfl (nodL (ndA ns (i : Int))) _ hrnh.out Try.underlying54 rfl (by rw [nodL_len];kernel_rfl) ?_)
  | (refine wpList_store_row rfl 54 (.tmp 5) (.tmp 10) rfl w.heap.size (nodC (ndA ns (i : Int))) rfl rfl 54 _ hnz.out hNl.out rfl hNo.out ?_))
 rw [World.setRow_alloc_new]
 generalize hw1 : w.alloc (.cells (nodC (ndA ns (i : Int))) 54) = w1 at *
 clear hw1 hNl hNo hnz hrnh hp
 have c0 : w1.cell? ⟨w.heap.size,0,none⟩ = some (.int .i64 (ndA ns (i : Int)).kind):=hN1.out.at_ N0
 have c1 : w1.cell? ⟨w.heap.size,1,none⟩ = some (.int .i64 (ndA ns (i : Int)).a):=hN1.out.at_ N1
 have c2 : w1.cell? ⟨w.heap.size,2,none⟩ = some (.int .i64 (ndA ns (i : Int)).b):=hN1.out.at_ N2
 have c3 : w1.cell? ⟨w.heap.size,3,none⟩ = some (.int .i64 (ndA ns (i : Int)).lo):=hN1.out.at_ N3
 rw [hk] at c0
 replace hk:=lhi hk
 replace hval:=lhi hval
 clear N0 N1 N2 N3 N4 hI
 go_wp2
 go_ret
 exact ⟨ret_int (by rw [hval.out];rfl),hb1.out⟩
theorem rleast_0 (i : Nat) (hn : n = ns.length) (hnc : n ≤ c) (hm : c ≤ maxLen) (hB : B ≤ w.heap.size) (h : Nods w B A ns) (hr : rightN ns g = true) (hi : i < ns.length) (hI : LeastOK B A n c ns i) (hk : (ndA ns (i : Int)).kind = 0) :
    Calls Try.prog 45 #[.slice A n c,.int .i64 (i : Int)] w fun e w' => e = .returned (.int .i64 (LV ns i)) ∧ Below w.heap.size w w':=by
 have hrt:=right_rt hr
 have hlow:=lv_low hr
 have hLe:=lv_eq hi
 have hki:=hrt.2.2 (i : Int) (by omega) (by omega)
 have hin : i < n:=by omega
 have hiI : (i : Int) < (n : Int):=by omega
 have hi0 : (0 : Int) ≤ (i : Int):=by omega
 obtain ⟨ad,bb,oo,rfl,hp,hbb,hrn⟩ : ∃ ad bb oo,A = some ad ∧ ad.add (i * 10) = ⟨bb,oo,none⟩ ∧ bb < B ∧ w.rangeAt bb oo (nodL (ndA ns (i : Int))):=by
  obtain ⟨ad,bb,oo,h1,h2,h3,h4⟩:=h.at_ hi
  exact ⟨ad,bb,oo,h1,h2,h3,by rwa [ndA_at (by simpa using hi)]⟩
 have hrnh:=lhi hrn
 have hb1:=lhi ((Below.refl w.heap.size w).alloc (nlr _) (.cells (nodC (ndA ns (i : Int))) 54))
 have hN1:=lhi (held_new w 54 (nodC (ndA ns (i : Int))))
 have ⟨N0,N1,N2,N3,N4,_⟩:=nod_at0 (ndA ns (i : Int))
 have hNd:=lhi (fun w' (hb : Below w.heap.size w w') => h.below (hb.mono hB))
 have hBh:=lhi hB
 have hNl:=lhi (nod_size (ndA ns (i : Int)))
 have hNo:=lhi (nod_cells (ndA ns (i : Int)))
 have hnz:=lhi (nod_zero_litL w)
 have hval : LV ns i = 0:=by rw [hLe];unfold leastI;rw [hk];rfl
 clear h hrn hlow hki hrt hr hn hnc hm hB
 go_enter Try.func45,Try.ntmps45
 go_upto_region 3 with (first
  | (refine wpList_load_mid rfl 54 (.tmp 9) rfl bb oo rfl (nodL (ndA ns (i : Int))) _ hrnh.out Try.underlying54 rfl (by rw [nodL_len];kernel_rfl) ?_)
  | (refine wpList_store_row rfl 54 (.tmp 5) (.tmp 10) rfl w.heap.size (nodC (ndA ns (i : Int))) rfl rfl 54 _ hnz.out hNl.out rfl hNo.out ?_))
 rw [World.setRow_alloc_new]
 generalize hw1 : w.alloc (.cells (nodC (ndA ns (i : Int))) 54) = w1 at *
 clear hw1 hNl hNo hnz hrnh hp
 have c0 : w1.cell? ⟨w.heap.size,0,none⟩ = some (.int .i64 (ndA ns (i : Int)).kind):=hN1.out.at_ N0
 have c1 : w1.cell? ⟨w.heap.size,1,none⟩ = some (.int .i64 (ndA ns (i : Int)).a):=hN1.out.at_ N1
 have c2 : w1.cell? ⟨w.heap.size,2,none⟩ = some (.int .i64 (ndA ns (i : Int)).b):=hN1.out.at_ N2
 have c3 : w1.cell? ⟨w.heap.size,3,none⟩ = some (.int .i64 (ndA ns (i : Int)).lo):=hN1.out.at_ N3
 rw [hk] at c0
 replace hk:=lhi hk
 replace hval:=lhi hval
 clear N0 N1 N2 N3 N4 hI
 go_wp2
 go_ret
 exact ⟨ret_int (by rw [hval.out];rfl),hb1.out⟩
theorem rleast_6 (i : Nat) (hn : n = ns.length) (hnc : n ≤ c) (hm : c ≤ maxLen) (hB : B ≤ w.heap.size) (h : Nods w B A ns) (hr : rightN ns g = true) (hi : i < ns.length) (hI : LeastOK B A n c ns i) (hk : (ndA ns (i : Int)).kind = 6) :
    Calls Try.prog 45 #[.slice A n c,.int .i64 (i : Int)] w fun e w' => e = .returned (.int .i64 (LV ns i)) ∧ Below w.heap.size w w':=by
 have hrt:=right_rt hr
 have hlow:=lv_low hr
 have hLe:=lv_eq hi
 have hki:=hrt.2.2 (i : Int) (by omega) (by omega)
 have hin : i < n:=by omega
 have hiI : (i : Int) < (n : Int):=by omega
 have hi0 : (0 : Int) ≤ (i : Int):=by omega
 obtain ⟨ad,bb,oo,rfl,hp,hbb,hrn⟩ : ∃ ad bb oo,A = some ad ∧ ad.add (i * 10) = ⟨bb,oo,none⟩ ∧ bb < B ∧ w.rangeAt bb oo (nodL (ndA ns (i : Int))):=by
  obtain ⟨ad,bb,oo,h1,h2,h3,h4⟩:=h.at_ hi
  exact ⟨ad,bb,oo,h1,h2,h3,by rwa [ndA_at (by simpa using hi)]⟩
 have hrnh:=lhi hrn
 have hb1:=lhi ((Below.refl w.heap.size w).alloc (nlr _) (.cells (nodC (ndA ns (i : Int))) 54))
 have hN1:=lhi (held_new w 54 (nodC (ndA ns (i : Int))))
 have ⟨N0,N1,N2,N3,N4,_⟩:=nod_at0 (ndA ns (i : Int))
 have hNd:=lhi (fun w' (hb : Below w.heap.size w w') => h.below (hb.mono hB))
 have hBh:=lhi hB
 have hNl:=lhi (nod_size (ndA ns (i : Int)))
 have hNo:=lhi (nod_cells (ndA ns (i : Int)))
 have hnz:=lhi (nod_zero_litL w)
 have hval : LV ns i = 0:=by rw [hLe];unfold leastI;rw [hk];rfl
 clear h hrn hlow hki hrt hr hn hnc hm hB
 go_enter Try.func45,Try.ntmps45
 go_upto_region 3 with (first
  | (refine wpList_load_mid rfl 54 (.tmp 9) rfl bb oo rfl (nodL (ndA ns (i : Int))) _ hrnh.out Try.underlying54 rfl (by rw [nodL_len];kernel_rfl) ?_)
  | (refine wpList_store_row rfl 54 (.tmp 5) (.tmp 10) rfl w.heap.size (nodC (ndA ns (i : Int))) rfl rfl 54 _ hnz.out hNl.out rfl hNo.out ?_))
 rw [World.setRow_alloc_new]
 generalize hw1 : w.alloc (.cells (nodC (ndA ns (i : Int))) 54) = w1 at *
 clear hw1 hNl hNo hnz hrnh hp
 have c0 : w1.cell? ⟨w.heap.size,0,none⟩ = some (.int .i64 (ndA ns (i : Int)).kind):=hN1.out.at_ N0
 have c1 : w1.cell? ⟨w.heap.size,1,none⟩ = some (.int .i64 (ndA ns (i : Int)).a):=hN1.out.at_ N1
 have c2 : w1.cell? ⟨w.heap.size,2,none⟩ = some (.int .i64 (ndA ns (i : Int)).b):=hN1.out.at_ N2
 have c3 : w1.cell? ⟨w.heap.size,3,none⟩ = some (.int .i64 (ndA ns (i : Int)).lo):=hN1.out.at_ N3
 rw [hk] at c0
 replace hk:=lhi hk
 replace hval:=lhi hval
 clear N0 N1 N2 N3 N4 hI
 go_wp2
 go_ret
 exact ⟨ret_int (by rw [hval.out];rfl),hb1.out⟩
theorem rleast_7 (i : Nat) (hn : n = ns.length) (hnc : n ≤ c) (hm : c ≤ maxLen) (hB : B ≤ w.heap.size) (h : Nods w B A ns) (hr : rightN ns g = true) (hi : i < ns.length) (hI : LeastOK B A n c ns i) (hk : (ndA ns (i : Int)).kind = 7) :
    Calls Try.prog 45 #[.slice A n c,.int .i64 (i : Int)] w fun e w' => e = .returned (.int .i64 (LV ns i)) ∧ Below w.heap.size w w':=by
 have hrt:=right_rt hr
 have hlow:=lv_low hr
 have hLe:=lv_eq hi
 have hki:=hrt.2.2 (i : Int) (by omega) (by omega)
 have hin : i < n:=by omega
 have hiI : (i : Int) < (n : Int):=by omega
 have hi0 : (0 : Int) ≤ (i : Int):=by omega
 obtain ⟨ad,bb,oo,rfl,hp,hbb,hrn⟩ : ∃ ad bb oo,A = some ad ∧ ad.add (i * 10) = ⟨bb,oo,none⟩ ∧ bb < B ∧ w.rangeAt bb oo (nodL (ndA ns (i : Int))):=by
  obtain ⟨ad,bb,oo,h1,h2,h3,h4⟩:=h.at_ hi
  exact ⟨ad,bb,oo,h1,h2,h3,by rwa [ndA_at (by simpa using hi)]⟩
 have hrnh:=lhi hrn
 have hb1:=lhi ((Below.refl w.heap.size w).alloc (nlr _) (.cells (nodC (ndA ns (i : Int))) 54))
 have hN1:=lhi (held_new w 54 (nodC (ndA ns (i : Int))))
 have ⟨N0,N1,N2,N3,N4,_⟩:=nod_at0 (ndA ns (i : Int))
 have hNd:=lhi (fun w' (hb : Below w.heap.size w w') => h.below (hb.mono hB))
 have hBh:=lhi hB
 have hNl:=lhi (nod_size (ndA ns (i : Int)))
 have hNo:=lhi (nod_cells (ndA ns (i : Int)))
 have hnz:=lhi (nod_zero_litL w)
 have hval : LV ns i = 0:=by rw [hLe];unfold leastI;rw [hk];rfl
 clear h hrn hlow hki hrt hr hn hnc hm hB
 go_enter Try.func45,Try.ntmps45
 go_upto_region 3 with (first
  | (refine wpList_load_mid rfl 54 (.tmp 9) rfl bb oo rfl (nodL (ndA ns (i : Int))) _ hrnh.out Try.underlying54 rfl (by rw [nodL_len];kernel_rfl) ?_)
  | (refine wpList_store_row rfl 54 (.tmp 5) (.tmp 10) rfl w.heap.size (nodC (ndA ns (i : Int))) rfl rfl 54 _ hnz.out hNl.out rfl hNo.out ?_))
 rw [World.setRow_alloc_new]
 generalize hw1 : w.alloc (.cells (nodC (ndA ns (i : Int))) 54) = w1 at *
 clear hw1 hNl hNo hnz hrnh hp
 have c0 : w1.cell? ⟨w.heap.size,0,none⟩ = some (.int .i64 (ndA ns (i : Int)).kind):=hN1.out.at_ N0
 have c1 : w1.cell? ⟨w.heap.size,1,none⟩ = some (.int .i64 (ndA ns (i : Int)).a):=hN1.out.at_ N1
 have c2 : w1.cell? ⟨w.heap.size,2,none⟩ = some (.int .i64 (ndA ns (i : Int)).b):=hN1.out.at_ N2
 have c3 : w1.cell? ⟨w.heap.size,3,none⟩ = some (.int .i64 (ndA ns (i : Int)).lo):=hN1.out.at_ N3
 rw [hk] at c0
 replace hk:=lhi hk
 replace hval:=lhi hval
 clear N0 N1 N2 N3 N4 hI
 go_wp2
 go_ret
 exact ⟨ret_int (by rw [hval.out];rfl),hb1.out⟩
theorem rleast_8 (i : Nat) (hn : n = ns.length) (hnc : n ≤ c) (hm : c ≤ maxLen) (hB : B ≤ w.heap.size) (h : Nods w B A ns) (hr : rightN ns g = true) (hi : i < ns.length) (hI : LeastOK B A n c ns i) (hk : (ndA ns (i : Int)).kind = 8) :
    Calls Try.prog 45 #[.slice A n c,.int .i64 (i : Int)] w fun e w' => e = .returned (.int .i64 (LV ns i)) ∧ Below w.heap.size w w':=by
 have hrt:=right_rt hr
 have hlow:=lv_low hr
 have hLe:=lv_eq hi
 have hki:=hrt.2.2 (i : Int) (by omega) (by omega)
 have hin : i < n:=by omega
 have hiI : (i : Int) < (n : Int):=by omega
 have hi0 : (0 : Int) ≤ (i : Int):=by omega
 obtain ⟨ad,bb,oo,rfl,hp,hbb,hrn⟩ : ∃ ad bb oo,A = some ad ∧ ad.add (i * 10) = ⟨bb,oo,none⟩ ∧ bb < B ∧ w.rangeAt bb oo (nodL (ndA ns (i : Int))):=by
  obtain ⟨ad,bb,oo,h1,h2,h3,h4⟩:=h.at_ hi
  exact ⟨ad,bb,oo,h1,h2,h3,by rwa [ndA_at (by simpa using hi)]⟩
 have hrnh:=lhi hrn
 have hb1:=lhi ((Below.refl w.heap.size w).alloc (nlr _) (.cells (nodC (ndA ns (i : Int))) 54))
 have hN1:=lhi (held_new w 54 (nodC (ndA ns (i : Int))))
 have ⟨N0,N1,N2,N3,N4,_⟩:=nod_at0 (ndA ns (i : Int))
 have hNd:=lhi (fun w' (hb : Below w.heap.size w w') => h.below (hb.mono hB))
 have hBh:=lhi hB
 have hNl:=lhi (nod_size (ndA ns (i : Int)))
 have hNo:=lhi (nod_cells (ndA ns (i : Int)))
 have hnz:=lhi (nod_zero_litL w)
 have hval : LV ns i = 0:=by rw [hLe];unfold leastI;rw [hk];rfl
 clear h hrn hlow hki hrt hr hn hnc hm hB
 go_enter Try.func45,Try.ntmps45
 go_upto_region 3 with (first
  | (refine wpList_load_mid rfl 54 (.tmp 9) rfl bb oo rfl (nodL (ndA ns (i : Int))) _ hrnh.out Try.underlying54 rfl (by rw [nodL_len];kernel_rfl) ?_)
  | (refine wpList_store_row rfl 54 (.tmp 5) (.tmp 10) rfl w.heap.size (nodC (ndA ns (i : Int))) rfl rfl 54 _ hnz.out hNl.out rfl hNo.out ?_))
 rw [World.setRow_alloc_new]
 generalize hw1 : w.alloc (.cells (nodC (ndA ns (i : Int))) 54) = w1 at *
 clear hw1 hNl hNo hnz hrnh hp
 have c0 : w1.cell? ⟨w.heap.size,0,none⟩ = some (.int .i64 (ndA ns (i : Int)).kind):=hN1.out.at_ N0
 have c1 : w1.cell? ⟨w.heap.size,1,none⟩ = some (.int .i64 (ndA ns (i : Int)).a):=hN1.out.at_ N1
 have c2 : w1.cell? ⟨w.heap.size,2,none⟩ = some (.int .i64 (ndA ns (i : Int)).b):=hN1.out.at_ N2
 have c3 : w1.cell? ⟨w.heap.size,3,none⟩ = some (.int .i64 (ndA ns (i : Int)).lo):=hN1.out.at_ N3
 rw [hk] at c0
 replace hk:=lhi hk
 replace hval:=lhi hval
 clear N0 N1 N2 N3 N4 hI
 go_wp2
 go_ret
 exact ⟨ret_int (by rw [hval.out];rfl),hb1.out⟩
end
section
variable {w : World} {B : Nat} {A : Option Addr} {n c : Nat} {ns : List Nod} {g : Int}
theorem rleast_5 (i : Nat) (hn : n = ns.length) (hnc : n ≤ c) (hm : c ≤ maxLen) (hB : B ≤ w.heap.size) (h : Nods w B A ns) (hr : rightN ns g = true) (hi : i < ns.length) (hI : LeastOK B A n c ns i) (hk : (ndA ns (i : Int)).kind = 5) :
    Calls Try.prog 45 #[.slice A n c,.int .i64 (i : Int)] w fun e w' => e = .returned (.int .i64 (LV ns i)) ∧ Below w.heap.size w w':=by
 have hrt:=right_rt hr
 have hlow:=lv_low hr
 have hLe:=lv_eq hi
 have hki:=hrt.2.2 (i : Int) (by omega) (by omega)
 have hin : i < n:=by omega
 have hiI : (i : Int) < (n : Int):=by omega
 have hi0 : (0 : Int) ≤ (i : Int):=by omega
 obtain ⟨ad,bb,oo,rfl,hp,hbb,hrn⟩ : ∃ ad bb oo,A = some ad ∧ ad.add (i * 10) = ⟨bb,oo,none⟩ ∧ bb < B ∧ w.rangeAt bb oo (nodL (ndA ns (i : Int))):=by
  obtain ⟨ad,bb,oo,h1,h2,h3,h4⟩:=h.at_ hi
  exact ⟨ad,bb,oo,h1,h2,h3,by rwa [ndA_at (by simpa using hi)]⟩
 have hrnh:=lhi hrn
 have hb1:=lhi ((Below.refl w.heap.size w).alloc (nlr _) (.cells (nodC (ndA ns (i : Int))) 54))
 have hN1:=lhi (held_new w 54 (nodC (ndA ns (i : Int))))
 have ⟨N0,N1,N2,N3,N4,_⟩:=nod_at0 (ndA ns (i : Int))
 have hNd:=lhi (fun w' (hb : Below w.heap.size w w') => h.below (hb.mono hB))
 have hBh:=lhi hB
 have hNl:=lhi (nod_size (ndA ns (i : Int)))
 have hNo:=lhi (nod_cells (ndA ns (i : Int)))
 have hnz:=lhi (nod_zero_litL w)
 obtain ⟨a0,a1⟩:=hki.2.2.1 (.inr hk)
 obtain ⟨na,hna⟩:=Int.eq_ofNat_of_zero_le a0
 have hnai : na < i:=by omega
 have hval : LV ns i = min (LV ns na) 65537:=by rw [hLe];unfold leastI;rw [hk];show min (leastTo ns i (ndA ns (i : Int)).a.toNat) 65537 = _;rw [hna];show min (leastTo ns i na) 65537 = _;rw [lv_lt ns i na hnai]
 clear h hrn hlow hki hrt hr hn hnc hm hB
 go_enter Try.func45,Try.ntmps45
 go_upto_region 3 with (first
  | (refine wpList_load_mid rfl 54 (.tmp 9) rfl bb oo rfl (nodL (ndA ns (i : Int))) _ hrnh.out Try.underlying54 rfl (by rw [nodL_len];kernel_rfl) ?_)
  | (refine wpList_store_row rfl 54 (.tmp 5) (.tmp 10) rfl w.heap.size (nodC (ndA ns (i : Int))) rfl rfl 54 _ hnz.out hNl.out rfl hNo.out ?_))
 rw [World.setRow_alloc_new]
 generalize hw1 : w.alloc (.cells (nodC (ndA ns (i : Int))) 54) = w1 at *
 clear hw1 hNl hNo hnz hrnh hp
 have c0 : w1.cell? ⟨w.heap.size,0,none⟩ = some (.int .i64 (ndA ns (i : Int)).kind):=hN1.out.at_ N0
 have c1 : w1.cell? ⟨w.heap.size,1,none⟩ = some (.int .i64 (ndA ns (i : Int)).a):=hN1.out.at_ N1
 have c2 : w1.cell? ⟨w.heap.size,2,none⟩ = some (.int .i64 (ndA ns (i : Int)).b):=hN1.out.at_ N2
 have c3 : w1.cell? ⟨w.heap.size,3,none⟩ = some (.int .i64 (ndA ns (i : Int)).lo):=hN1.out.at_ N3
 rw [hk] at c0
 rw [hna] at c1
 have hCna:=lhi (fun w' (hb : Below w1.heap.size w1 w') => hI w' na hnai (hNd.out w' (hb1.out.trans (hb.mono hb1.out.size))) (Nat.le_trans hBh.out (Nat.le_trans hb1.out.size hb.size)))
 replace hk:=lhi hk
 replace hval:=lhi hval
 clear N0 N1 N2 N3 N4 hI a0 a1 hna
 go_wp2_with (go_at_call 45;refine (hCna.out w1 (Below.refl _ _)).mono ?_;rintro e w2 ⟨rfl,hb2⟩)
 go_ret
 exact ⟨ret_int hval.out.symm,hb1.out.trans (hb2.mono hb1.out.size)⟩
theorem rleast_4 (i : Nat) (hn : n = ns.length) (hnc : n ≤ c) (hm : c ≤ maxLen) (hB : B ≤ w.heap.size) (h : Nods w B A ns) (hr : rightN ns g = true) (hi : i < ns.length) (hI : LeastOK B A n c ns i) (hk : (ndA ns (i : Int)).kind = 4) :
    Calls Try.prog 45 #[.slice A n c,.int .i64 (i : Int)] w fun e w' => e = .returned (.int .i64 (LV ns i)) ∧ Below w.heap.size w w':=by
 have hrt:=right_rt hr
 have hlow:=lv_low hr
 have hLe:=lv_eq hi
 have hki:=hrt.2.2 (i : Int) (by omega) (by omega)
 have hin : i < n:=by omega
 have hiI : (i : Int) < (n : Int):=by omega
 have hi0 : (0 : Int) ≤ (i : Int):=by omega
 obtain ⟨ad,bb,oo,rfl,hp,hbb,hrn⟩ : ∃ ad bb oo,A = some ad ∧ ad.add (i * 10) = ⟨bb,oo,none⟩ ∧ bb < B ∧ w.rangeAt bb oo (nodL (ndA ns (i : Int))):=by
  obtain ⟨ad,bb,oo,h1,h2,h3,h4⟩:=h.at_ hi
  exact ⟨ad,bb,oo,h1,h2,h3,by rwa [ndA_at (by simpa using hi)]⟩
 have hrnh:=lhi hrn
 have hb1:=lhi ((Below.refl w.heap.size w).alloc (nlr _) (.cells (nodC (ndA ns (i : Int))) 54))
 have hN1:=lhi (held_new w 54 (nodC (ndA ns (i : Int))))
 have ⟨N0,N1,N2,N3,N4,_⟩:=nod_at0 (ndA ns (i : Int))
 have hNd:=lhi (fun w' (hb : Below w.heap.size w w') => h.below (hb.mono hB))
 have hBh:=lhi hB
 have hNl:=lhi (nod_size (ndA ns (i : Int)))
 have hNo:=lhi (nod_cells (ndA ns (i : Int)))
 have hnz:=lhi (nod_zero_litL w)
 obtain ⟨a0,a1⟩:=hki.2.2.1 (.inl hk)
 obtain ⟨⟨l0,l1⟩,-⟩:=hki.2.2.2.1 hk
 obtain ⟨na,hna⟩:=Int.eq_ofNat_of_zero_le a0
 have hnai : na < i:=by omega
 have hlw:=hlow na (by omega)
 have hmu:=mul_low l0 l1 hlw.1 hlw.2
 have hwm : IntKind.i64.wrap ((ndA ns (i : Int)).lo * LV ns na) = (ndA ns (i : Int)).lo * LV ns na:=IntWalk.i64_in _ (by omega)
 have hval : LV ns i = min ((ndA ns (i : Int)).lo * LV ns na) 65537:=by rw [hLe];unfold leastI;rw [hk];show min ((ndA ns (i : Int)).lo * leastTo ns i (ndA ns (i : Int)).a.toNat) 65537 = _;rw [hna];show min ((ndA ns (i : Int)).lo * leastTo ns i na) 65537 = _;rw [lv_lt ns i na hnai]
 clear h hrn hlow hki hrt hr hn hnc hm hB
 go_enter Try.func45,Try.ntmps45
 go_upto_region 3 with (first
  | (refine wpList_load_mid rfl 54 (.tmp 9) rfl bb oo rfl (nodL (ndA ns (i : Int))) _ hrnh.out Try.underlying54 rfl (by rw [nodL_len];kernel_rfl) ?_)
  | (refine wpList_store_row rfl 54 (.tmp 5) (.tmp 10) rfl w.heap.size (nodC (ndA ns (i : Int))) rfl rfl 54 _ hnz.out hNl.out rfl hNo.out ?_))
 rw [World.setRow_alloc_new]
 generalize hw1 : w.alloc (.cells (nodC (ndA ns (i : Int))) 54) = w1 at *
 clear hw1 hNl hNo hnz hrnh hp
 have c0 : w1.cell? ⟨w.heap.size,0,none⟩ = some (.int .i64 (ndA ns (i : Int)).kind):=hN1.out.at_ N0
 have c1 : w1.cell? ⟨w.heap.size,1,none⟩ = some (.int .i64 (ndA ns (i : Int)).a):=hN1.out.at_ N1
 have c2 : w1.cell? ⟨w.heap.size,2,none⟩ = some (.int .i64 (ndA ns (i : Int)).b):=hN1.out.at_ N2
 have c3 : w1.cell? ⟨w.heap.size,3,none⟩ = some (.int .i64 (ndA ns (i : Int)).lo):=hN1.out.at_ N3
 rw [hk] at c0 N0
 rw [hna] at c1 N1
 have hCna:=lhi (fun w' (hb : Below w1.heap.size w1 w') => hI w' na hnai (hNd.out w' (hb1.out.trans (hb.mono hb1.out.size))) (Nat.le_trans hBh.out (Nat.le_trans hb1.out.size hb.size)))
 have c0h:=lhi N0
 have c1h:=lhi N1
 have c3h:=lhi N3
 have hSd:=lhi (show SLe w.heap.size (nodC (ndA ns (i : Int))) w1.drew from hN1.out.drew)
 replace hk:=lhi hk
 replace hval:=lhi hval
 replace hlw:=lhi hlw
 replace hmu:=lhi hmu
 clear N0 N1 N2 N3 N4 hI a0 a1 hna l0 l1
 generalize LV ns na = va at *
 generalize (ndA ns (i : Int)).lo = lo at *
 go_wp2
 refine wp_region_held_drew (S:=SLe w.heap.size (nodC (ndA ns (i : Int)))) (by kernel_rfl) hSd.out (fun hS => ?_)
 refine wpAnyH_take (i:=0) (v:=?_) rfl (by kernel_rfl) (by kernel_rfl) (by kernel_rfl) (fun _ _ _ h => h) (Or.inl ⟨by rfl,?_⟩) hS ?_
 rotate_left
 · (intro w' hS';go_simp;try with_reducible rfl)
 (try simp only [Act.put,List.getElem_toArray,List.getElem_cons_zero,List.getElem_cons_succ,List.setIfInBounds_toArray,List.set_cons_zero,List.set_cons_succ])
 refine wpAnyH_take (i:=1) (v:=?_) rfl (by kernel_rfl) (by kernel_rfl) (by kernel_rfl) (fun _ _ _ h => h) (Or.inl ⟨by rfl,?_⟩) hS ?_
 rotate_left
 · (intro w' hS';have hc : w'.cell? ⟨w.heap.size,3,none⟩ = some (.int .i64 lo):=hS'.at_ c3h.out;go_simp;try with_reducible rfl)
 (try simp only [Act.put,List.getElem_toArray,List.getElem_cons_zero,List.getElem_cons_succ,List.setIfInBounds_toArray,List.set_cons_zero,List.set_cons_succ])
 refine wpAnyH_take (i:=2) (v:=?_) rfl (by kernel_rfl) (by kernel_rfl) (by kernel_rfl) (fun _ _ _ h => h) (Or.inl ⟨by rfl,?_⟩) hS ?_
 rotate_left
 · (intro w' hS';go_simp;try with_reducible rfl)
 (try simp only [Act.put,List.getElem_toArray,List.getElem_cons_zero,List.getElem_cons_succ,List.setIfInBounds_toArray,List.set_cons_zero,List.set_cons_succ])
 refine wpAnyH_take (i:=3) (v:=?_) rfl (by kernel_rfl) (by kernel_rfl) (by kernel_rfl) (fun _ _ _ h => h) (Or.inl ⟨by rfl,?_⟩) hS ?_
 rotate_left
 · (intro w' hS';go_simp;try with_reducible rfl)
 (try simp only [Act.put,List.getElem_toArray,List.getElem_cons_zero,List.getElem_cons_succ,List.setIfInBounds_toArray,List.set_cons_zero,List.set_cons_succ])
 refine wpAnyH_take (i:=4) (v:=?_) rfl (by kernel_rfl) (by kernel_rfl) (by kernel_rfl) (fun _ _ _ h => h) (Or.inl ⟨by rfl,?_⟩) hS ?_
 rotate_left
 · (intro w' hS';have hc : w'.cell? ⟨w.heap.size,1,none⟩ = some (.int .i64 (na : Int)):=hS'.at_ c1h.out;go_simp;try with_reducible rfl)
 (try simp only [Act.put,List.getElem_toArray,List.getElem_cons_zero,List.getElem_cons_succ,List.setIfInBounds_toArray,List.set_cons_zero,List.set_cons_succ])
 refine wpAnyH_ready (rs:=[5]) (by kernel_rfl) (by simp) ?_
 refine AllReadyH.cons rfl (fun K hK => ?_) AllReadyH.nil
 go_simp
 refine (hCna.out _ ((Below.refl w1.heap.size w1).drew)).mono ?_
 rintro e w2 ⟨rfl,hb2⟩
 go_simp
 refine hK.out _ _ (hS.below hb2) (fun _ => ?_)
 clear hK K
 replace hS:=hS.below hb2
 (try simp only [Act.put,List.getElem_toArray,List.getElem_cons_zero,List.getElem_cons_succ,List.setIfInBounds_toArray,List.set_cons_zero,List.set_cons_succ])
 refine wpAnyH_take (i:=6) (v:=?_) rfl (by kernel_rfl) (by kernel_rfl) (by kernel_rfl) (fun _ _ _ h => h) (Or.inl ⟨by rfl,?_⟩) hS ?_
 rotate_left
 · (intro w' hS';go_simp;try with_reducible rfl)
 (try simp only [Act.put,List.getElem_toArray,List.getElem_cons_zero,List.getElem_cons_succ,List.setIfInBounds_toArray,List.set_cons_zero,List.set_cons_succ])
 refine wpAnyH_take (i:=7) (v:=?_) rfl (by kernel_rfl) (by kernel_rfl) (by kernel_rfl) (fun _ _ _ h => h) (Or.inl ⟨by rfl,?_⟩) hS ?_
 rotate_left
 · (intro w' hS';go_simp;try with_reducible rfl)
 (try simp only [Act.put,List.getElem_toArray,List.getElem_cons_zero,List.getElem_cons_succ,List.setIfInBounds_toArray,List.set_cons_zero,List.set_cons_succ])
 refine wpAnyH_done (by kernel_rfl) ?_ _
 have c0' : w2.cell? ⟨w.heap.size,0,none⟩ = some (.int .i64 4):=hS.at_ c0h.out
 clear hS c0 c1 c2 c3
 go_wp2
 go_ret
 exact ⟨ret_int hval.out.symm,hb1.out.trans ((((Below.refl w1.heap.size w1).drew).trans (hb2.mono (nlr _))).mono hb1.out.size)⟩
end
end Go.Proofs.Ytjopmieaikgbcaa
