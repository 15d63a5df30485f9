/- Contracts and plain facts: M32. -/
import Derived.Test.YtjopmieaikgbcaaM31
set_option linter.unusedVariables false
set_option linter.unusedSimpArgs false
set_option maxRecDepth 100000
set_option maxHeartbeats 32000000
namespace Go.Proofs.Ytjopmieaikgbcaa
open Go.RowKit
section
variable {w : World} {B : Nat} {A : Option Addr} {n c : Nat} {ns : List Nod} {g : Int}
theorem rleast_2 (i : Nat) (hn : n = ns.length) (hnc : n ≤ c) (hm : c ≤ maxLen) (hB : B ≤ w.heap.size) (h : Nods w B A ns) (hr : rightN ns g = true) (hi : i < ns.length) (hI : LeastOK B A n c ns i) (hk : (ndA ns (i : Int)).kind = 2) :
    Calls Try.prog 45 #[.slice A n c,.int .i64 (i : Int)] w fun e w' => e = .returned (.int .i64 (LV ns i)) ∧ Below w.heap.size w w':=by
 have hrt:=right_rt hr
 have hlow:=lv_low hr
 have hLe:=lv_eq hi
 have hki:=hrt.2.2 (i : Int) (by omega) (by omega)
 have hin : i < n:=by omega
 have hiI : (i : Int) < (n : Int):=by omega
 have hi0 : (0 : Int) ≤ (i : Int):=by omega
 obtain ⟨ad,bb,oo,rfl,hp,hbb,hrn⟩ : ∃ ad bb oo,A = some ad ∧ ad.add (i * 10) = ⟨bb,oo,none⟩ ∧ bb < B ∧ w.rangeAt bb oo (nodL (ndA ns (i : Int))):=by
  obtain ⟨ad,bb,oo,h1,h2,h3,h4⟩:=h.at_ hi
  exact ⟨ad,bb,oo,h1,h2,h3,by rwa [ndA_at (by simpa using hi)]⟩
 have hrnh:=lhi hrn
 have hb1:=lhi ((Below.refl w.heap.size w).alloc (nlr _) (.cells (nodC (ndA ns (i : Int))) 54))
 have hN1:=lhi (held_new w 54 (nodC (ndA ns (i : Int))))
 have ⟨N0,N1,N2,N3,N4,_⟩:=nod_at0 (ndA ns (i : Int))
 have hNd:=lhi (fun w' (hb : Below w.heap.size w w') => h.below (hb.mono hB))
 have hBh:=lhi hB
 have hNl:=lhi (nod_size (ndA ns (i : Int)))
 have hNo:=lhi (nod_cells (ndA ns (i : Int)))
 have hnz:=lhi (nod_zero_litL w)
 obtain ⟨⟨a0,a1⟩,d0,d1⟩:=hki.2.1 (.inl hk)
 obtain ⟨na,hna⟩:=Int.eq_ofNat_of_zero_le a0
 obtain ⟨nb,hnb⟩:=Int.eq_ofNat_of_zero_le d0
 have hnai : na < i:=by omega
 have hnbi : nb < i:=by omega
 have hlw:=hlow na (by omega)
 have hlw2:=hlow nb (by omega)
 have hwm : IntKind.i64.wrap (LV ns na + LV ns nb) = LV ns na + LV ns nb:=IntWalk.i64_in _ (by omega)
 have hval : LV ns i = min (LV ns na + LV ns nb) 65537:=by rw [hLe];unfold leastI;rw [hk];show min (leastTo ns i (ndA ns (i : Int)).a.toNat + leastTo ns i (ndA ns (i : Int)).b.toNat) 65537 = _;rw [hna,hnb];show min (leastTo ns i na + leastTo ns i nb) 65537 = _;rw [lv_lt ns i na hnai,lv_lt ns i nb hnbi]
 clear h hrn hlow hki hrt hr hn hnc hm hB
 go_enter Try.func45,Try.ntmps45
 go_upto_region 3 with (first
  | (refine wpList_load_mid rfl 54 (.tmp 9) rfl bb oo rfl (nodL (ndA ns (i : Int))) _ hrnh.out Try.underlying54 rfl (by rw [nodL_len];kernel_rfl) ?_)
  | (refine wpList_store_row rfl 54 (.tmp 5) (.tmp 10) rfl w.heap.size (nodC (ndA ns (i : Int))) rfl rfl 54 _ hnz.out hNl.out rfl hNo.out ?_))
 rw [World.setRow_alloc_new]
 generalize hw1 : w.alloc (.cells (nodC (ndA ns (i : Int))) 54) = w1 at *
 clear hw1 hNl hNo hnz hrnh hp
 have c0 : w1.cell? ⟨w.heap.size,0,none⟩ = some (.int .i64 (ndA ns (i : Int)).kind):=hN1.out.at_ N0
 have c1 : w1.cell? ⟨w.heap.size,1,none⟩ = some (.int .i64 (ndA ns (i : Int)).a):=hN1.out.at_ N1
 have c2 : w1.cell? ⟨w.heap.size,2,none⟩ = some (.int .i64 (ndA ns (i : Int)).b):=hN1.out.at_ N2
 have c3 : w1.cell? ⟨w.heap.size,3,none⟩ = some (.int .i64 (ndA ns (i : Int)).lo):=hN1.out.at_ N3
 rw [hk] at c0 N0
 rw [hna] at c1 N1
 rw [hnb] at c2 N2
 have hCna:=lhi (fun w' (hb : Below w1.heap.size w1 w') => hI w' na hnai (hNd.out w' (hb1.out.trans (hb.mono hb1.out.size))) (Nat.le_trans hBh.out (Nat.le_trans hb1.out.size hb.size)))
 have hCnb:=lhi (fun w' (hb : Below w1.heap.size w1 w') => hI w' nb hnbi (hNd.out w' (hb1.out.trans (hb.mono hb1.out.size))) (Nat.le_trans hBh.out (Nat.le_trans hb1.out.size hb.size)))
 have c0h:=lhi N0
 have c1h:=lhi N1
 have c2h:=lhi N2
 have hSd:=lhi (show SLe w.heap.size (nodC (ndA ns (i : Int))) w1.drew from hN1.out.drew)
 replace hk:=lhi hk
 replace hval:=lhi hval
 replace hlw:=lhi hlw
 replace hlw2:=lhi hlw2
 clear N0 N1 N2 N3 N4 hI a0 a1 hna d0 d1 hnb
 generalize LV ns na = va at *
 generalize LV ns nb = vb at *
 go_wp2
 refine wp_region_held_drew (S:=SLe w.heap.size (nodC (ndA ns (i : Int)))) (by kernel_rfl) hSd.out (fun hS => ?_)
 refine wpAnyH_take (i:=0) (v:=?_) rfl (by kernel_rfl) (by kernel_rfl) (by kernel_rfl) (fun _ _ _ h => h) (Or.inl ⟨by rfl,?_⟩) hS ?_
 rotate_left
 · (intro w' hS';go_simp;try with_reducible rfl)
 (try simp only [Act.put,List.getElem_toArray,List.getElem_cons_zero,List.getElem_cons_succ,List.setIfInBounds_toArray,List.set_cons_zero,List.set_cons_succ])
 refine wpAnyH_take (i:=1) (v:=?_) rfl (by kernel_rfl) (by kernel_rfl) (by kernel_rfl) (fun _ _ _ h => h) (Or.inl ⟨by rfl,?_⟩) hS ?_
 rotate_left
 · (intro w' hS';go_simp;try with_reducible rfl)
 (try simp only [Act.put,List.getElem_toArray,List.getElem_cons_zero,List.getElem_cons_succ,List.setIfInBounds_toArray,List.set_cons_zero,List.set_cons_succ])
 refine wpAnyH_take (i:=2) (v:=?_) rfl (by kernel_rfl) (by kernel_rfl) (by kernel_rfl) (fun _ _ _ h => h) (Or.inl ⟨by rfl,?_⟩) hS ?_
 rotate_left
 · (intro w' hS';have hc : w'.cell? ⟨w.heap.size,1,none⟩ = some (.int .i64 (na : Int)):=hS'.at_ c1h.out;go_simp;try with_reducible rfl)
 (try simp only [Act.put,List.getElem_toArray,List.getElem_cons_zero,List.getElem_cons_succ,List.setIfInBounds_toArray,List.set_cons_zero,List.set_cons_succ])
 refine wpAnyH_take (i:=4) (v:=?_) rfl (by kernel_rfl) (by kernel_rfl) (by kernel_rfl) (fun _ _ _ h => h) (Or.inl ⟨by rfl,?_⟩) hS ?_
 rotate_left
 · (intro w' hS';go_simp;try with_reducible rfl)
 (try simp only [Act.put,List.getElem_toArray,List.getElem_cons_zero,List.getElem_cons_succ,List.setIfInBounds_toArray,List.set_cons_zero,List.set_cons_succ])
 refine wpAnyH_take (i:=5) (v:=?_) rfl (by kernel_rfl) (by kernel_rfl) (by kernel_rfl) (fun _ _ _ h => h) (Or.inl ⟨by rfl,?_⟩) hS ?_
 rotate_left
 · (intro w' hS';go_simp;try with_reducible rfl)
 (try simp only [Act.put,List.getElem_toArray,List.getElem_cons_zero,List.getElem_cons_succ,List.setIfInBounds_toArray,List.set_cons_zero,List.set_cons_succ])
 refine wpAnyH_take (i:=6) (v:=?_) rfl (by kernel_rfl) (by kernel_rfl) (by kernel_rfl) (fun _ _ _ h => h) (Or.inl ⟨by rfl,?_⟩) hS ?_
 rotate_left
 · (intro w' hS';have hc : w'.cell? ⟨w.heap.size,2,none⟩ = some (.int .i64 (nb : Int)):=hS'.at_ c2h.out;go_simp;try with_reducible rfl)
 (try simp only [Act.put,List.getElem_toArray,List.getElem_cons_zero,List.getElem_cons_succ,List.setIfInBounds_toArray,List.set_cons_zero,List.set_cons_succ])
 refine wpAnyH_ready (rs:=[3]) (by kernel_rfl) (by simp) ?_
 refine AllReadyH.cons rfl (fun K hK => ?_) AllReadyH.nil
 go_simp
 refine (hCna.out _ ((Below.refl w1.heap.size w1).drew)).mono ?_
 rintro e w2 ⟨rfl,hb2⟩
 have hb2':=lhi (((Below.refl w1.heap.size w1).drew).trans (hb2.mono (nlr _)))
 go_simp
 refine hK.out _ _ (hS.below hb2) (fun _ => ?_)
 clear hK K
 replace hS:=hS.below hb2
 (try simp only [Act.put,List.getElem_toArray,List.getElem_cons_zero,List.getElem_cons_succ,List.setIfInBounds_toArray,List.set_cons_zero,List.set_cons_succ])
 refine wpAnyH_ready (rs:=[7]) (by kernel_rfl) (by simp) ?_
 refine AllReadyH.cons rfl (fun K hK => ?_) AllReadyH.nil
 go_simp
 refine (hCnb.out _ hb2'.out).mono ?_
 rintro e w3 ⟨rfl,hb3⟩
 go_simp
 refine hK.out _ _ (hS.below hb3) (fun _ => ?_)
 clear hK K
 replace hS:=hS.below hb3
 (try simp only [Act.put,List.getElem_toArray,List.getElem_cons_zero,List.getElem_cons_succ,List.setIfInBounds_toArray,List.set_cons_zero,List.set_cons_succ])
 refine wpAnyH_take (i:=8) (v:=?_) rfl (by kernel_rfl) (by kernel_rfl) (by kernel_rfl) (fun _ _ _ h => h) (Or.inl ⟨by rfl,?_⟩) hS ?_
 rotate_left
 · (intro w' hS';go_simp;try with_reducible rfl)
 (try simp only [Act.put,List.getElem_toArray,List.getElem_cons_zero,List.getElem_cons_succ,List.setIfInBounds_toArray,List.set_cons_zero,List.set_cons_succ])
 refine wpAnyH_take (i:=9) (v:=?_) rfl (by kernel_rfl) (by kernel_rfl) (by kernel_rfl) (fun _ _ _ h => h) (Or.inl ⟨by rfl,?_⟩) hS ?_
 rotate_left
 · (intro w' hS';go_simp;try with_reducible rfl)
 (try simp only [Act.put,List.getElem_toArray,List.getElem_cons_zero,List.getElem_cons_succ,List.setIfInBounds_toArray,List.set_cons_zero,List.set_cons_succ])
 refine wpAnyH_done (by kernel_rfl) ?_ _
 have c0' : w3.cell? ⟨w.heap.size,0,none⟩ = some (.int .i64 2):=hS.at_ c0h.out
 clear hS c0 c1 c2 c3
 go_wp2
 go_ret
 exact ⟨ret_int (by have:=hval.out;omega),hb1.out.trans ((hb2'.out.trans (hb3.mono hb2'.out.size)).mono hb1.out.size)⟩
end
section
variable {w : World} {B : Nat} {A : Option Addr} {n c : Nat} {ns : List Nod} {g : Int}
theorem rleast_3 (i : Nat) (hn : n = ns.length) (hnc : n ≤ c) (hm : c ≤ maxLen) (hB : B ≤ w.heap.size) (h : Nods w B A ns) (hr : rightN ns g = true) (hi : i < ns.length) (hI : LeastOK B A n c ns i) (hk : (ndA ns (i : Int)).kind = 3) :
    Calls Try.prog 45 #[.slice A n c,.int .i64 (i : Int)] w fun e w' => e = .returned (.int .i64 (LV ns i)) ∧ Below w.heap.size w w':=by
 have hrt:=right_rt hr
 have hlow:=lv_low hr
 have hLe:=lv_eq hi
 have hki:=hrt.2.2 (i : Int) (by omega) (by omega)
 have hin : i < n:=by omega
 have hiI : (i : Int) < (n : Int):=by omega
 have hi0 : (0 : Int) ≤ (i : Int):=by omega
 obtain ⟨ad,bb,oo,rfl,hp,hbb,hrn⟩ : ∃ ad bb oo,A = some ad ∧ ad.add (i * 10) = ⟨bb,oo,none⟩ ∧ bb < B ∧ w.rangeAt bb oo (nodL (ndA ns (i : Int))):=by
  obtain ⟨ad,bb,oo,h1,h2,h3,h4⟩:=h.at_ hi
  exact ⟨ad,bb,oo,h1,h2,h3,by rwa [ndA_at (by simpa using hi)]⟩
 have hrnh:=lhi hrn
 have hb1:=lhi ((Below.refl w.heap.size w).alloc (nlr _) (.cells (nodC (ndA ns (i : Int))) 54))
 have hN1:=lhi (held_new w 54 (nodC (ndA ns (i : Int))))
 have ⟨N0,N1,N2,N3,N4,_⟩:=nod_at0 (ndA ns (i : Int))
 have hNd:=lhi (fun w' (hb : Below w.heap.size w w') => h.below (hb.mono hB))
 have hBh:=lhi hB
 have hNl:=lhi (nod_size (ndA ns (i : Int)))
 have hNo:=lhi (nod_cells (ndA ns (i : Int)))
 have hnz:=lhi (nod_zero_litL w)
 obtain ⟨⟨a0,a1⟩,d0,d1⟩:=hki.2.1 (.inr hk)
 obtain ⟨na,hna⟩:=Int.eq_ofNat_of_zero_le a0
 obtain ⟨nb,hnb⟩:=Int.eq_ofNat_of_zero_le d0
 have hnai : na < i:=by omega
 have hnbi : nb < i:=by omega
 have hlw:=hlow na (by omega)
 have hlw2:=hlow nb (by omega)
 have hwm : IntKind.i64.wrap (LV ns na + LV ns nb) = LV ns na + LV ns nb:=IntWalk.i64_in _ (by omega)
 have hval : LV ns i = min (min (LV ns na) (LV ns nb)) 65537:=by rw [hLe];unfold leastI;rw [hk];show min (min (leastTo ns i (ndA ns (i : Int)).a.toNat) (leastTo ns i (ndA ns (i : Int)).b.toNat)) 65537 = _;rw [hna,hnb];show min (min (leastTo ns i na) (leastTo ns i nb)) 65537 = _;rw [lv_lt ns i na hnai,lv_lt ns i nb hnbi]
 clear h hrn hlow hki hrt hr hn hnc hm hB
 go_enter Try.func45,Try.ntmps45
 go_upto_region 3 with (first
  | (refine wpList_load_mid rfl 54 (.tmp 9) rfl bb oo rfl (nodL (ndA ns (i : Int))) _ hrnh.out Try.underlying54 rfl (by rw [nodL_len];kernel_rfl) ?_)
  | (refine wpList_store_row rfl 54 (.tmp 5) (.tmp 10) rfl w.heap.size (nodC (ndA ns (i : Int))) rfl rfl 54 _ hnz.out hNl.out rfl hNo.out ?_))
 rw [World.setRow_alloc_new]
 generalize hw1 : w.alloc (.cells (nodC (ndA ns (i : Int))) 54) = w1 at *
 clear hw1 hNl hNo hnz hrnh hp
 have c0 : w1.cell? ⟨w.heap.size,0,none⟩ = some (.int .i64 (ndA ns (i : Int)).kind):=hN1.out.at_ N0
 have c1 : w1.cell? ⟨w.heap.size,1,none⟩ = some (.int .i64 (ndA ns (i : Int)).a):=hN1.out.at_ N1
 have c2 : w1.cell? ⟨w.heap.size,2,none⟩ = some (.int .i64 (ndA ns (i : Int)).b):=hN1.out.at_ N2
 have c3 : w1.cell? ⟨w.heap.size,3,none⟩ = some (.int .i64 (ndA ns (i : Int)).lo):=hN1.out.at_ N3
 rw [hk] at c0 N0
 rw [hna] at c1 N1
 rw [hnb] at c2 N2
 have hCna:=lhi (fun w' (hb : Below w1.heap.size w1 w') => hI w' na hnai (hNd.out w' (hb1.out.trans (hb.mono hb1.out.size))) (Nat.le_trans hBh.out (Nat.le_trans hb1.out.size hb.size)))
 have hCnb:=lhi (fun w' (hb : Below w1.heap.size w1 w') => hI w' nb hnbi (hNd.out w' (hb1.out.trans (hb.mono hb1.out.size))) (Nat.le_trans hBh.out (Nat.le_trans hb1.out.size hb.size)))
 have c0h:=lhi N0
 have c1h:=lhi N1
 have c2h:=lhi N2
 have hSd:=lhi (show SLe w.heap.size (nodC (ndA ns (i : Int))) w1.drew from hN1.out.drew)
 replace hk:=lhi hk
 replace hval:=lhi hval
 replace hlw:=lhi hlw
 replace hlw2:=lhi hlw2
 clear N0 N1 N2 N3 N4 hI a0 a1 hna d0 d1 hnb
 generalize LV ns na = va at *
 generalize LV ns nb = vb at *
 go_wp2
 refine wp_region_held_drew (S:=SLe w.heap.size (nodC (ndA ns (i : Int)))) (by kernel_rfl) hSd.out (fun hS => ?_)
 refine wpAnyH_take (i:=0) (v:=?_) rfl (by kernel_rfl) (by kernel_rfl) (by kernel_rfl) (fun _ _ _ h => h) (Or.inl ⟨by rfl,?_⟩) hS ?_
 rotate_left
 · (intro w' hS';go_simp;try with_reducible rfl)
 (try simp only [Act.put,List.getElem_toArray,List.getElem_cons_zero,List.getElem_cons_succ,List.setIfInBounds_toArray,List.set_cons_zero,List.set_cons_succ])
 refine wpAnyH_take (i:=1) (v:=?_) rfl (by kernel_rfl) (by kernel_rfl) (by kernel_rfl) (fun _ _ _ h => h) (Or.inl ⟨by rfl,?_⟩) hS ?_
 rotate_left
 · (intro w' hS';go_simp;try with_reducible rfl)
 (try simp only [Act.put,List.getElem_toArray,List.getElem_cons_zero,List.getElem_cons_succ,List.setIfInBounds_toArray,List.set_cons_zero,List.set_cons_succ])
 refine wpAnyH_take (i:=2) (v:=?_) rfl (by kernel_rfl) (by kernel_rfl) (by kernel_rfl) (fun _ _ _ h => h) (Or.inl ⟨by rfl,?_⟩) hS ?_
 rotate_left
 · (intro w' hS';have hc : w'.cell? ⟨w.heap.size,1,none⟩ = some (.int .i64 (na : Int)):=hS'.at_ c1h.out;go_simp;try with_reducible rfl)
 (try simp only [Act.put,List.getElem_toArray,List.getElem_cons_zero,List.getElem_cons_succ,List.setIfInBounds_toArray,List.set_cons_zero,List.set_cons_succ])
 refine wpAnyH_take (i:=4) (v:=?_) rfl (by kernel_rfl) (by kernel_rfl) (by kernel_rfl) (fun _ _ _ h => h) (Or.inl ⟨by rfl,?_⟩) hS ?_
 rotate_left
 · (intro w' hS';go_simp;try with_reducible rfl)
 (try simp only [Act.put,List.getElem_toArray,List.getElem_cons_zero,List.getElem_cons_succ,List.setIfInBounds_toArray,List.set_cons_zero,List.set_cons_succ])
 refine wpAnyH_take (i:=5) (v:=?_) rfl (by kernel_rfl) (by kernel_rfl) (by kernel_rfl) (fun _ _ _ h => h) (Or.inl ⟨by rfl,?_⟩) hS ?_
 rotate_left
 · (intro w' hS';go_simp;try with_reducible rfl)
 (try simp only [Act.put,List.getElem_toArray,List.getElem_cons_zero,List.getElem_cons_succ,List.setIfInBounds_toArray,List.set_cons_zero,List.set_cons_succ])
 refine wpAnyH_take (i:=6) (v:=?_) rfl (by kernel_rfl) (by kernel_rfl) (by kernel_rfl) (fun _ _ _ h => h) (Or.inl ⟨by rfl,?_⟩) hS ?_
 rotate_left
 · (intro w' hS';have hc : w'.cell? ⟨w.heap.size,2,none⟩ = some (.int .i64 (nb : Int)):=hS'.at_ c2h.out;go_simp;try with_reducible rfl)
 (try simp only [Act.put,List.getElem_toArray,List.getElem_cons_zero,List.getElem_cons_succ,List.setIfInBounds_toArray,List.set_cons_zero,List.set_cons_succ])
 refine wpAnyH_ready (rs:=[3]) (by kernel_rfl) (by simp) ?_
 refine AllReadyH.cons rfl (fun K hK => ?_) AllReadyH.nil
 go_simp
 refine (hCna.out _ ((Below.refl w1.heap.size w1).drew)).mono ?_
 rintro e w2 ⟨rfl,hb2⟩
 have hb2':=lhi (((Below.refl w1.heap.size w1).drew).trans (hb2.mono (nlr _)))
 go_simp
 refine hK.out _ _ (hS.below hb2) (fun _ => ?_)
 clear hK K
 replace hS:=hS.below hb2
 (try simp only [Act.put,List.getElem_toArray,List.getElem_cons_zero,List.getElem_cons_succ,List.setIfInBounds_toArray,List.set_cons_zero,List.set_cons_succ])
 refine wpAnyH_ready (rs:=[7]) (by kernel_rfl) (by simp) ?_
 refine AllReadyH.cons rfl (fun K hK => ?_) AllReadyH.nil
 go_simp
 refine (hCnb.out _ hb2'.out).mono ?_
 rintro e w3 ⟨rfl,hb3⟩
 go_simp
 refine hK.out _ _ (hS.below hb3) (fun _ => ?_)
 clear hK K
 replace hS:=hS.below hb3
 (try simp only [Act.put,List.getElem_toArray,List.getElem_cons_zero,List.getElem_cons_succ,List.setIfInBounds_toArray,List.set_cons_zero,List.set_cons_succ])
 refine wpAnyH_take (i:=8) (v:=?_) rfl (by kernel_rfl) (by kernel_rfl) (by kernel_rfl) (fun _ _ _ h => h) (Or.inl ⟨by rfl,?_⟩) hS ?_
 rotate_left
 · (intro w' hS';go_simp;try with_reducible rfl)
 (try simp only [Act.put,List.getElem_toArray,List.getElem_cons_zero,List.getElem_cons_succ,List.setIfInBounds_toArray,List.set_cons_zero,List.set_cons_succ])
 refine wpAnyH_take (i:=9) (v:=?_) rfl (by kernel_rfl) (by kernel_rfl) (by kernel_rfl) (fun _ _ _ h => h) (Or.inl ⟨by rfl,?_⟩) hS ?_
 rotate_left
 · (intro w' hS';go_simp;try with_reducible rfl)
 (try simp only [Act.put,List.getElem_toArray,List.getElem_cons_zero,List.getElem_cons_succ,List.setIfInBounds_toArray,List.set_cons_zero,List.set_cons_succ])
 refine wpAnyH_done (by kernel_rfl) ?_ _
 have c0' : w3.cell? ⟨w.heap.size,0,none⟩ = some (.int .i64 3):=hS.at_ c0h.out
 clear hS c0 c1 c2 c3
 go_wp2
 go_ret
 exact ⟨ret_int (by have:=hval.out;omega),hb1.out.trans ((hb2'.out.trans (hb3.mono hb2'.out.size)).mono hb1.out.size)⟩
end
section
variable {w : World} {B : Nat} {A : Option Addr} {n c : Nat} {ns : List Nod} {g : Int}
theorem rleast_any (hn : n = ns.length) (hnc : n ≤ c) (hm : c ≤ maxLen) (hr : rightN ns g = true) : ∀ i,i ≤ ns.length → LeastOK B A n c ns i:=by
 intro i
 induction i with
 | zero => intro _ w' j hj;exact absurd hj (Nat.not_lt_zero j)
 | succ i ih =>
  intro hi w' j hj h hB
  by_cases hji : j < i
  · exact ih (by omega) w' j hji h hB
  obtain rfl : j = i:=by omega
  have hI:=ih (by omega)
  have hji' : j < ns.length:=by omega
  have hk:=((right_rt hr).2.2 (j : Int) (by omega) (by omega)).1
  have hc : (ndA ns (j : Int)).kind = 0 ∨ (ndA ns (j : Int)).kind = 1 ∨ (ndA ns (j : Int)).kind = 2 ∨ (ndA ns (j : Int)).kind = 3 ∨ (ndA ns (j : Int)).kind = 4 ∨ (ndA ns (j : Int)).kind = 5 ∨ (ndA ns (j : Int)).kind = 6 ∨ (ndA ns (j : Int)).kind = 7 ∨ (ndA ns (j : Int)).kind = 8:=by omega
  rcases hc with hk | hk | hk | hk | hk | hk | hk | hk | hk
  · exact rleast_0 j hn hnc hm hB h hr hji' hI hk
  · exact rleast_1 j hn hnc hm hB h hr hji' hI hk
  · exact rleast_2 j hn hnc hm hB h hr hji' hI hk
  · exact rleast_3 j hn hnc hm hB h hr hji' hI hk
  · exact rleast_4 j hn hnc hm hB h hr hji' hI hk
  · exact rleast_5 j hn hnc hm hB h hr hji' hI hk
  · exact rleast_6 j hn hnc hm hB h hr hji' hI hk
  · exact rleast_7 j hn hnc hm hB h hr hji' hI hk
  · exact rleast_8 j hn hnc hm hB h hr hji' hI hk
theorem rLeast_any (hn : n = ns.length) (hnc : n ≤ c) (hm : c ≤ maxLen) (hB : B ≤ w.heap.size) (h : Nods w B A ns) (hr : rightN ns g = true) :
    Calls Try.prog 29 #[.agg #[.slice A n c,.int .i64 g]] w fun e w' => e = .returned (.int .i64 (leastNs ns g)) ∧ Below w.heap.size w w':=by
 have hb0:=lhi ((Below.refl w.heap.size w).alloc (nlr _) (.cells #[.slice A n c,.int .i64 g] 24))
 have hRe:=lhi (held_new w 24 #[.slice A n c,.int .i64 g])
 have hRt:=lhi (fun w' (hb : Below w.heap.size w w') => refRight_any A n c ns g B w' hn hnc hm (Nat.le_trans hB hb.size) (h.below (hb.mono hB)))
 rw [hr] at hRt
 have hn1 : 1 ≤ ns.length ∧ ns.length ≤ 1000:=by
  have:=hr
  unfold rightN at this
  simp only [Bool.and_eq_true,decide_eq_true_eq] at this
  exact ⟨this.1.1.1.1,this.1.1.1.2⟩
 obtain ⟨m,hmn⟩ : ∃ m,ns.length = m + 1:=⟨ns.length - 1,by omega⟩
 have hval : leastNs ns g = LV ns m:=by unfold leastNs LV;rw [if_pos hr,hmn];rfl
 have hLs:=lhi (fun w' (hb : Below w.heap.size w w') => rleast_any hn hnc hm hr ns.length (nlr _) w' m (by omega) (h.below (hb.mono hB)) (Nat.le_trans hB hb.size))
 have hw1 : IntKind.i64.wrap ((n : Int) - 1) = (m : Int):=by rw [show (n : Int) - 1 = (m : Int) by omega];exact IntWalk.i64_in _ (by omega)
 rw [hval]
 clear hr hn h hn1 hmn hval hB
 go_enter Try.func29,Try.ntmps29
 go_wp2_with (first
  | (go_at_call 11;refine (hRt.out _ hb0.out).mono ?_;rintro e w1 ⟨rfl,hb1⟩;have r0 : w1.cell? ⟨w.heap.size,0,none⟩ = some (.slice A n c):=(hRe.out.keep hb1).at_ rfl;have hb2:=lhi (hb0.out.trans (hb1.mono hb0.out.size));clear hb1)
  | (go_at_call 45;refine (hLs.out w1 hb2.out).mono ?_;rintro e w2 ⟨rfl,hb3⟩))
 go_ret
 exact ⟨rfl,hb2.out.trans (hb3.mono hb2.out.size)⟩
end
theorem rNone_any (w : World) : Calls Try.prog 25 #[] w fun e w' => e = .returned (hitV spNo) ∧ Below w.heap.size w w':=by
 go_enter Try.func25,Try.ntmps25
 go_wp2
 go_loopw [2] (fun i wr => ∃ k : Nat,k ≤ 10 ∧ i = .int .i64 (k : Int) ∧ Held wr w.heap.size 29 (hitC sp00) ∧ Held wr (w.heap.size + 1) 29 (hitC (spTo k)) ∧ Below w.heap.size w wr) (fun i _ => 10 - (intOf i).toNat)
 case atStart => exact ⟨0,by omega,rfl,(held_new w 29 (hitC sp00)).alloc _,held_new2 w _ 29 (hitC (spTo 0)),((Below.refl _ _).alloc (nlr _) _).alloc (by simp) _⟩
 case round =>
  obtain ⟨k,hk,rfl,h0,h1,hb⟩:=hrel
  by_cases hlt : k < 10
  · have ⟨c0,c1⟩:=span_there h1 hlt
    have t0:=h1.thawed (k * 2)
    have t1:=h1.thawed (k * 2 + 1)
    have h1':=lhi (h1.span hlt (-1,-1))
    have h0':=lhi ((h0.far (a:=⟨w.heap.size + 1,k * 2,none⟩) (by show w.heap.size ≠ w.heap.size + 1;omega) (.int .i64 (-1))).far (a:=⟨w.heap.size + 1,k * 2 + 1,none⟩) (by show w.heap.size ≠ w.heap.size + 1;omega) (.int .i64 (-1)))
    have hb':=lhi ((hb.setCell (p:=⟨w.heap.size + 1,k * 2,none⟩) (Nat.le_succ _) (.int .i64 (-1))).setCell (p:=⟨w.heap.size + 1,k * 2 + 1,none⟩) (Nat.le_succ _) (.int .i64 (-1)))
    rw [spTo_next] at h1'
    have k0 : (0 : Int) ≤ (k : Int):=by omega
    have k1 : (k : Int) < 10:=by omega
    clear h0 h1 hb
    go_wp2
    go_roundw
    case rel => exact ⟨k + 1,by omega,by go_num,h0'.out,h1'.out,hb'.out⟩
    case measure => simp [intOf];omega
  · obtain rfl : k = 10:=by omega
    rw [spTo_end] at h1
    have h0':=lhi h0
    have h1':=lhi h1
    have hb':=lhi hb
    clear h0 h1 hb
    go_wp2_with (first
     | (refine wpList_load_row rfl 29 (.tmp 1) rfl (w.heap.size + 1) rfl 29 _ (0,0) _ h1'.out Try.underlying29 rfl (by rw [hitC_size];exact size_ten) ?_)
     | (refine wpList_store_row rfl 29 (.tmp 0) (.tmp 10) rfl w.heap.size (hitC spNo) rfl rfl 29 _ h0'.out (by rw [hitC_size];exact size_ten) (by rw [hitC_size,hitC_size]) (hit_cells _) ?_))
    exact bodyPost_ret (v:=hitV spNo) (results_cell_row Try.results25 _ _ w.heap.size 29 (hitC spNo) (0,0) _ rfl (h0'.out.row _) Try.underlying29 rfl (by rw [hitC_size];exact size_ten)) rfl ⟨rfl,below_row hb'.out (nlr _) _⟩
def samI (t : List UInt8) (s : Int × Int) (p : Nat) : Int:=match backAt t s p with | some j => (j : Int) | none => -1
theorem samI_no {t : List UInt8} {s : Int × Int} {p : Nat} (h : backAt t s p = none) : samI t s p = -1:=by unfold samI;rw [h]
theorem samI_yes {t : List UInt8} {s : Int × Int} {p j : Nat} (h : backAt t s p = some j) : samI t s p = (j : Int):=by unfold samI;rw [h]
theorem rSame_any (A : Option Addr) (n c : Nat) (l : List UInt8) (B p : Nat) (x y : Int) (w : World) (hn : n = l.length) (hnc : n ≤ c) (hm : n ≤ 1000000) (h : Byt w B A l) (hB : B ≤ w.heap.size) (hp : p ≤ l.length) (hs : (x = -1 ∧ y = -1) ∨ (0 ≤ x ∧ x ≤ y ∧ y ≤ p)) :
    Calls Try.prog 41 #[.slice A n c,spnV (x,y),.int .i64 (p : Int)] w fun e w' => e = .returned (.int .i64 (samI l (x,y) p)) ∧ Below w.heap.size w w':=by
 have hs0:=lhi (held_new w 28 #[.int .i64 x,.int .i64 y])
 have hb0:=lhi ((Below.refl w.heap.size w).alloc (nlr _) (.cells #[.int .i64 x,.int .i64 y] 28))
 have ⟨z0,z1⟩:=held2 hs0.out
 show Calls Try.prog 41 #[.slice A n c,.agg #[.int .i64 x,.int .i64 y],.int .i64 (p : Int)] w _
 rcases hs with ⟨rfl,rfl⟩ | ⟨h0,h1,h2⟩
 · rw [samI_no (backAt_neg (by decide))]
   clear h hp
   go_enter Try.func41,Try.ntmps41
   go_wp2
   go_ret
   exact ⟨rfl,hb0.out⟩
 · obtain ⟨a,rfl⟩:=Int.eq_ofNat_of_zero_le h0
   obtain ⟨b,rfl⟩:=Int.eq_ofNat_of_zero_le (Int.le_trans h0 h1)
   have dx : decide ((a : Int) < 0) = false:=decide_eq_false (by omega)
   have hw1 : IntKind.i64.wrap ((b : Int) - (a : Int)) = (b : Int) - (a : Int):=IntWalk.i64_in _ (by omega)
   have hw2 : IntKind.i64.wrap ((n : Int) - (p : Int)) = (n : Int) - (p : Int):=IntWalk.i64_in _ (by omega)
   by_cases hf : (n : Int) - (p : Int) < (b : Int) - (a : Int)
   · rw [samI_no (backAt_far (show (l.length : Int) - (p : Int) < (b : Int) - (a : Int) by omega))]
     have dy : decide ((n : Int) - (p : Int) < (b : Int) - (a : Int)) = true:=decide_eq_true hf
     replace hf:=lhi hf
     clear h hp h0 h1 h2 hn
     go_enter Try.func41,Try.ntmps41
     go_wp2
     go_ret
     exact ⟨rfl,hb0.out⟩
   · have dy : decide ((n : Int) - (p : Int) < (b : Int) - (a : Int)) = false:=decide_eq_false hf
     have hw4 : IntKind.i64.wrap ((p : Int) + (b : Int)) = (p : Int) + (b : Int):=IntWalk.i64_in _ (by omega)
     have hw5 : IntKind.i64.wrap ((p : Int) + (b : Int) - (a : Int)) = (p : Int) + (b : Int) - (a : Int):=IntWalk.i64_in _ (by omega)
     have hyes:=lhi (fun (hk : ∀ k,k < b - a → l[a + k]? = l[p + k]?) => show samI l ((a : Int),(b : Int)) p = (p : Int) + (b : Int) - (a : Int) from by
      rw [samI_yes (backAt_yes (s:=((a : Int),(b : Int))) (by show (0 : Int) ≤ a;omega) (by show (b : Int) - (a : Int) ≤ (l.length : Int) - (p : Int);omega) fun k hk2 => hk k (by have : k < ((b : Int) - (a : Int)).toNat:=hk2;omega))]
      show ((p + ((b : Int) - (a : Int)).toNat : Nat) : Int) = _
      omega)
     have hno:=lhi (fun k (hk : k < b - a) (hne : l[a + k]? ≠ l[p + k]?) => samI_no (backAt_no (s:=((a : Int),(b : Int))) (i:=p) (k:=k) (by show k < ((b : Int) - (a : Int)).toNat;omega) hne))
     have hF:=lhi (show (a ≤ b ∧ b ≤ p ∧ p ≤ l.length) ∧ n = l.length ∧ p + (b - a) ≤ l.length ∧ n ≤ c ∧ n ≤ 1000000 ∧ B ≤ w.heap.size from by omega)
     generalize samI l ((a : Int),(b : Int)) p = r at *
     have hbr0:=lhi (Below.refl (w.heap.size + 1) (w.alloc (.cells #[.int .i64 (a : Int),.int .i64 (b : Int)] 28)))
     have hh:=lhi h
     clear h0 h1 h2 hf h hp hB hn hm hnc
     go_enter Try.func41,Try.ntmps41
     go_wp2
     generalize w.alloc (.cells #[.int .i64 (a : Int),.int .i64 (b : Int)] 28) = w1 at *
     clear z0 z1 dx dy
     go_loopw [7] (fun i wr => ∃ k : Nat,k ≤ b - a ∧ i = .int .i64 (k : Int) ∧ Hid (∀ j,j < k → l[a + j]? = l[p + j]?) ∧ Hid (Below (w.heap.size + 1) w1 wr)) (fun i _ => (b - a) - (intOf i).toNat)
     case atStart => exact ⟨0,Nat.zero_le _,rfl,lhi fun j hj => absurd hj (Nat.not_lt_zero _),hbr0⟩
     case round =>
      obtain ⟨k,hk,rfl,hall,hbr⟩:=hrel
      have ⟨z0,z1⟩:=held2 (hs0.out.below hbr.out (Nat.lt_succ_self _))
      have ⟨⟨f1,f2,f3⟩,f4,f5,f6,f7,f8⟩:=hF.out
      have hbw:=lhi (show Below w.heap.size w wr from hb0.out.trans (hbr.out.mono (Nat.le_succ _)))
      by_cases hlt : k < b - a
      · obtain ⟨ad,rfl,had,c1⟩:=(hh.out.below (hbw.out.mono f8)).at_ (show a + k < l.length by omega)
        obtain ⟨ad',he,_,c2⟩:=(hh.out.below (hbw.out.mono f8)).at_ (show p + k < l.length by omega)
        cases he
        have dk : decide ((k : Int) < (b : Int) - (a : Int)) = true:=decide_eq_true (by omega)
        have hw3 : IntKind.i64.wrap ((a : Int) + (k : Int)) = ((a + k : Nat) : Int):=by rw [Int.natCast_add];exact IntWalk.i64_in _ (by omega)
        have hw6 : IntKind.i64.wrap ((p : Int) + (k : Int)) = ((p + k : Nat) : Int):=by rw [Int.natCast_add];exact IntWalk.i64_in _ (by omega)
        have hw7 : IntKind.i64.wrap ((k : Int) + 1) = ((k + 1 : Nat) : Int):=by rw [Int.natCast_add];exact IntWalk.i64_in _ (by omega)
        have i1 : ((a + k : Nat) : Int) < (n : Int):=by omega
        have i2 : ((p + k : Nat) : Int) < (n : Int):=by omega
        have i3 : (0 : Int) ≤ ((a + k : Nat) : Int):=by omega
        have i4 : (0 : Int) ≤ ((p + k : Nat) : Int):=by omega
        have j1 : a + k < n:=by omega
        have j2 : p + k < n:=by omega
        by_cases he : l[a + k]'(by omega) = l[p + k]'(by omega)
        · rw [← he] at c2
          have hx:=lhi (show l[a + k]? = l[p + k]? by rw [List.getElem?_eq_getElem (by omega),List.getElem?_eq_getElem (by omega),he])
          have hn2:=lhi (fun j (hj : j < k + 1) => show l[a + j]? = l[p + j]? by
           rcases Nat.lt_or_ge j k with h | h
           · exact hall.out j h
           · obtain rfl : j = k:=by omega
             exact hx.out)
          have dz : ∀ v : Int,(v != v) = false:=fun v => by simp
          generalize ((l[a + k]'(by omega)).toNat : Int) = v at *
          replace hlt:=lhi hlt
          clear f1 f2 f3 f4 f5 f6 f7 f8 he hk
          go_wp2
          go_quiet (fail)
          go_wp2
          go_roundw
          case rel => exact ⟨k + 1,by have:=hlt.out;omega,rfl,hn2,by first | exact hbr | exact lhi (below_drewN hbr.out _) | exact lhi (hbr.out.drew)⟩
          case measure => simp [intOf];have:=hlt.out;omega
        · have hx:=lhi (hno.out k hlt (by rw [List.getElem?_eq_getElem (by omega),List.getElem?_eq_getElem (by omega)];exact fun e => he (Option.some.inj e)))
          have dz : (((l[a + k]'(by omega)).toNat : Int) != ((l[p + k]'(by omega)).toNat : Int)) = true:=by
           rw [bne_iff_ne];exact fun e => he (UInt8.toNat_inj.1 (by omega))
          generalize ((l[a + k]'(by omega)).toNat : Int) = v at *
          generalize ((l[p + k]'(by omega)).toNat : Int) = v2 at *
          replace hlt:=lhi hlt
          clear f1 f2 f3 f4 f5 f6 f7 f8 he hk
          go_wp2
          go_quiet (fail)
          go_wp2
          go_ret
          exact ⟨by rw [hx.out];rfl,by first | exact hbw.out | exact below_drewN hbw.out _⟩
      · obtain rfl : k = b - a:=by omega
        have hx:=lhi (hyes.out hall.out)
        have dk : decide ((((b - a : Nat)) : Int) < (b : Int) - (a : Int)) = false:=decide_eq_false (by omega)
        clear f1 f2 f3 f4 f5 f6 f7 f8 hlt hk
        go_wp2
        go_ret
        exact ⟨by rw [hx.out];rfl,hbw.out⟩
end Go.Proofs.Ytjopmieaikgbcaa
