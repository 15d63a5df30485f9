/- Contracts and plain facts: M55. -/
import Derived.Test.YtjopmieaikgbcaaM54
set_option linter.unusedVariables false
set_option linter.unusedSimpArgs false
set_option maxRecDepth 100000
set_option maxHeartbeats 32000000
namespace Go.Proofs.Ytjopmieaikgbcaa
open Go.RowKit
def HRow (w : World) (A : Option Addr) (xs : List Spn) : Prop:=∀ j u,(hitsL xs)[j]? = some u → ∃ G,A = some ⟨G,0,none⟩ ∧ G < w.heap.size ∧ w.cell? ⟨G,j,none⟩ = some u
theorem HRow.keep {w w' : World} {A : Option Addr} {xs : List Spn} (h : HRow w A xs) (hb : Below w.heap.size w w') : HRow w' A xs:=fun j u hj => by
 obtain ⟨G,e,hG,hc⟩:=h j u hj
 exact ⟨G,e,nll hG hb.size,(hb.cell (p:=⟨G,j,none⟩) hG).trans hc⟩
theorem own_hrow {w : World} {base : Nat} {v : Value} {n : Nat} {xs : List Spn} (h : w.ownsRow base 31 20 v n (hitsL xs)) : ∃ A c,v = .slice A xs.length c ∧ n = xs.length ∧ HRow w A xs:=by
 have hn : n = xs.length:=by have:=h.1;rw [hitsL_len] at this;omega
 subst hn
 cases hx : xs.length with
 | zero =>
  have h0 : xs = []:=List.length_eq_zero_iff.1 hx
  subst h0
  obtain ⟨A,c,rfl⟩:=ownsRow_slice2 h
  exact ⟨A,c,rfl,rfl,fun j u hj => by simp [hitsL] at hj⟩
 | succ m =>
  rw [hx] at h
  obtain ⟨G,c,rfl⟩:=ownsRow_succ h
  refine ⟨_,c,rfl,rfl,fun j u hj => ⟨G,rfl,(h.lt G rfl).2,?_⟩⟩
  have hjl : j < (hitsL xs).length:=(List.getElem?_eq_some_iff.1 hj).1
  rw [h.cellAt j (by rw [hitsL_len,hx] at hjl;exact hjl)]
  exact hj
theorem hitsL_part (xs : List Spn) : ∀ k (h : k < xs.length) j u,(hitL (xs[k]'h))[j]? = some u → (hitsL xs)[k * 20 + j]? = some u:=by
 induction xs with
 | nil => intro k h;exact absurd h (Nat.not_lt_zero k)
 | cons s r ih =>
  intro k h j u hj
  have e : hitsL (s :: r) = hitL s ++ hitsL r:=by simp [hitsL]
  have hl:=hitL_len s
  cases k with
  | zero =>
   have hjl : j < (hitL s).length:=(List.getElem?_eq_some_iff.1 hj).1
   rw [e,Nat.zero_mul,Nat.zero_add,List.getElem?_append_left (by omega)]
   exact hj
  | succ k =>
   have hk:=ih k (Nat.lt_of_succ_lt_succ h) j u hj
   rw [e,List.getElem?_append_right (by omega),hl,show (k + 1) * 20 + j - 20 = k * 20 + j by omega]
   exact hk
def SSm (G1 G2 o : Nat) (L : List Value) (w' : World) : Prop:=w'.rangeAt G1 o L ∧ w'.rangeAt G2 o L
theorem rSameH_any (A1 A2 : Option Addr) (n c1 c2 : Nat) (xs : List Spn) (w : World) (hn : n = xs.length) (hmx : n ≤ maxLen) (h1 : HRow w A1 xs) (h2 : HRow w A2 xs) :
    Calls Try.prog 19 #[.slice A1 n c1,.slice A2 n c2] w fun e w' => e = .returned (.bool true) ∧ Below w.heap.size w w':=by
 have hE0:=hit_neq
 have hG0:=hit_guard
 replace hn:=lhi hn
 have h1h:=lhi h1
 have h2h:=lhi h2
 unfold maxLen at hmx
 clear h1 h2
 go_enter Try.func19,Try.ntmps19
 go_wp2
 go_loopw [5] (fun i wr => ∃ k q : Nat,k ≤ n ∧ i = .int .i64 ((k : Nat) : Int) ∧ wr = w.drewN q) (fun i _ => n - (intOf i).toNat)
 case atStart => exact ⟨0,0,Nat.zero_le _,rfl,rfl⟩
 case round =>
  obtain ⟨k,q,hk,rfl,rfl⟩:=hrel
  by_cases hlt : k < n
  · have hkx : k < xs.length:=by rw [← hn.out];exact hlt
    have hL:=hitL_len (xs[k]'hkx)
    have hz : (hitL (xs[k]'hkx))[0]? = some ((hitL (xs[k]'hkx))[0]'(by omega)):=List.getElem?_eq_getElem _
    obtain ⟨G1,rfl,hG1,-⟩:=h1h.out (k * 20 + 0) _ (hitsL_part xs k hkx 0 _ hz)
    obtain ⟨G2,rfl,hG2,-⟩:=h2h.out (k * 20 + 0) _ (hitsL_part xs k hkx 0 _ hz)
    have hr1 : ∀ j u,(hitL (xs[k]'hkx))[j]? = some u → w.cell? ⟨G1,k * 20 + j,none⟩ = some u:=fun j u hj => by
     obtain ⟨G,e,_,hc⟩:=h1h.out (k * 20 + j) u (hitsL_part xs k hkx j u hj)
     cases e;exact hc
    have hr2 : ∀ j u,(hitL (xs[k]'hkx))[j]? = some u → w.cell? ⟨G2,k * 20 + j,none⟩ = some u:=fun j u hj => by
     obtain ⟨G,e,_,hc⟩:=h2h.out (k * 20 + j) u (hitsL_part xs k hkx j u hj)
     cases e;exact hc
    have hSd:=lhi (show SSm G1 G2 (k * 20) (hitL (xs[k]'hkx)) ((w.drewN q).drew) from ⟨hr1,hr2⟩)
    have hE : ∀ w,(binOp .neq 31 (.agg (hitC (xs[k]'hkx))) (.agg (hitC (xs[k]'hkx)))).run Try.prog w = .ok (.bool false) w:=fun w => by
     have:=hE0 w (xs[k]'hkx) (xs[k]'hkx)
     rw [same10B_self] at this
     exact this
    have hGq : ∀ op p q w,(eqGuard op 31 p q (.agg (hitC (xs[k]'hkx))) (.agg (hitC (xs[k]'hkx)))).run Try.prog w = .ok () w:=fun op p q w => hG0 w op p q (xs[k]'hkx) (xs[k]'hkx)
    have hkI : (k : Int) < (n : Int):=by omega
    have hw2 : IntKind.i64.wrap ((k : Int) + 1) = (k : Int) + 1:=IntWalk.i64_in _ (by omega)
    rw [show hitC (xs[k]'hkx) = (hitL (xs[k]'hkx)).toArray from rfl] at hE hGq
    have hLl:=lhi hL
    clear hE0 hG0 hL hz hr1 hr2
    generalize hitL (xs[k]'hkx) = L at *
    go_wp2
    refine wp_region_held_drew (S:=SSm G1 G2 (k * 20) L) (by kernel_rfl) hSd.out (fun hS => ?_)
    refine wpAnyH_take (i:=0) (v:=?_) rfl (by kernel_rfl) (by kernel_rfl) (by kernel_rfl) (fun _ _ _ h => h) (Or.inl ⟨by rfl,?_⟩) hS ?_
    rotate_left
    · (intro w' hS';go_simp;try with_reducible rfl)
    (try simp only [Act.put,List.getElem_toArray,List.getElem_cons_zero,List.getElem_cons_succ,List.setIfInBounds_toArray,List.set_cons_zero,List.set_cons_succ])
    refine wpAnyH_take (i:=1) (v:=?_) rfl (by kernel_rfl) (by kernel_rfl) (by kernel_rfl) (fun _ _ _ h => h) (Or.inl ⟨by rfl,?_⟩) hS ?_
    rotate_left
    · (intro w' hS';go_simp;try with_reducible rfl)
    (try simp only [Act.put,List.getElem_toArray,List.getElem_cons_zero,List.getElem_cons_succ,List.setIfInBounds_toArray,List.set_cons_zero,List.set_cons_succ])
    refine wpAnyH_take (i:=2) (v:=?_) rfl (by kernel_rfl) (by kernel_rfl) (by kernel_rfl) (fun _ _ _ h => h) (Or.inl ⟨by rfl,?_⟩) hS ?_
    rotate_left
    · (intro w' hS';go_simp;try with_reducible rfl)
    (try simp only [Act.put,List.getElem_toArray,List.getElem_cons_zero,List.getElem_cons_succ,List.setIfInBounds_toArray,List.set_cons_zero,List.set_cons_succ])
    refine wpAnyH_take (i:=3) (v:=_) rfl (by kernel_rfl) (by kernel_rfl) (by kernel_rfl) (fun _ _ _ h => h) (yieldsIf_load_mid (by rfl) _ _ rfl (G1) (k * 20) rfl (L) _ (fun _ hS' => hS'.1) Try.underlying31 rfl (by rw [hLl.out];exact size_hit)) hS ?_
    (try simp only [Act.put,List.getElem_toArray,List.getElem_cons_zero,List.getElem_cons_succ,List.setIfInBounds_toArray,List.set_cons_zero,List.set_cons_succ])
    refine wpAnyH_take (i:=4) (v:=?_) rfl (by kernel_rfl) (by kernel_rfl) (by kernel_rfl) (fun _ _ _ h => h) (Or.inl ⟨by rfl,?_⟩) hS ?_
    rotate_left
    · (intro w' hS';go_simp;try with_reducible rfl)
    (try simp only [Act.put,List.getElem_toArray,List.getElem_cons_zero,List.getElem_cons_succ,List.setIfInBounds_toArray,List.set_cons_zero,List.set_cons_succ])
    refine wpAnyH_take (i:=5) (v:=?_) rfl (by kernel_rfl) (by kernel_rfl) (by kernel_rfl) (fun _ _ _ h => h) (Or.inl ⟨by rfl,?_⟩) hS ?_
    rotate_left
    · (intro w' hS';go_simp;try with_reducible rfl)
    (try simp only [Act.put,List.getElem_toArray,List.getElem_cons_zero,List.getElem_cons_succ,List.setIfInBounds_toArray,List.set_cons_zero,List.set_cons_succ])
    refine wpAnyH_take (i:=6) (v:=?_) rfl (by kernel_rfl) (by kernel_rfl) (by kernel_rfl) (fun _ _ _ h => h) (Or.inl ⟨by rfl,?_⟩) hS ?_
    rotate_left
    · (intro w' hS';go_simp;try with_reducible rfl)
    (try simp only [Act.put,List.getElem_toArray,List.getElem_cons_zero,List.getElem_cons_succ,List.setIfInBounds_toArray,List.set_cons_zero,List.set_cons_succ])
    refine wpAnyH_take (i:=7) (v:=_) rfl (by kernel_rfl) (by kernel_rfl) (by kernel_rfl) (fun _ _ _ h => h) (yieldsIf_load_mid (by rfl) _ _ rfl (G2) (k * 20) rfl (L) _ (fun _ hS' => hS'.2) Try.underlying31 rfl (by rw [hLl.out];exact size_hit)) hS ?_
    (try simp only [Act.put,List.getElem_toArray,List.getElem_cons_zero,List.getElem_cons_succ,List.setIfInBounds_toArray,List.set_cons_zero,List.set_cons_succ])
    refine wpAnyH_take (i:=8) (v:=?_) rfl (by kernel_rfl) (by kernel_rfl) (by kernel_rfl) (fun _ _ _ h => h) (Or.inl ⟨by rfl,?_⟩) hS ?_
    rotate_left
    · (intro w' hS';go_simp;try with_reducible rfl)
    (try simp only [Act.put,List.getElem_toArray,List.getElem_cons_zero,List.getElem_cons_succ,List.setIfInBounds_toArray,List.set_cons_zero,List.set_cons_succ])
    refine wpAnyH_done (by kernel_rfl) ?_ _
    go_wp2
    go_roundw
    case rel => exact ⟨k + 1,q + 1,by omega,rfl,rfl⟩
    case measure => simp [intOf];omega
  · obtain rfl : k = n:=by omega
    go_wp2
    go_ret
    exact ⟨rfl,below_drewN (Below.refl _ _) q⟩
end Go.Proofs.Ytjopmieaikgbcaa
