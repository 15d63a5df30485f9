/- Contracts and plain facts: M18. -/
import Derived.Test.YtbdfhmefjfaofaaM16
import Derived.Test.YtbdfhmefjfaofaaM17
set_option linter.unusedVariables false
set_option linter.unusedSimpArgs false
set_option maxRecDepth 100000
set_option maxHeartbeats 32000000
namespace Go.Proofs.Ytbdfhmefjfaofaa
open Go.RowKit
theorem byt_in {w : World} {B : Nat} {A : Option Addr} {l : List UInt8} (h : Byt w B A l) : Lib.BytesIn w A l.length (ints l):=by
 cases A with
 | none => obtain rfl:=h.none_nil;exact Lib.BytesIn.nil _ _ _
 | some a => exact Lib.BytesIn.of_cells h.cells
theorem mprefix_any (A A2 : Option Addr) (n c m d : Nat) (l s : List UInt8) (B B2 : Nat) (w : World) (hn : n = l.length) (hnc : n ≤ c) (hm : m = s.length) (h : Byt w B A l) (h2 : Byt w B2 A2 s) :
    Calls Try.prog 62 #[.slice A n c,.slice A2 m d] w fun e w' => e = .returned (.bool (s.isPrefixOf l)) ∧ w = w':=by
 subst hn
 subst hm
 refine (Try.bytes_HasPrefix_all A A2 l.length c s.length d (ints l) (ints s) w (ints_len l) (ints_len s) hnc (byt_in h) (byt_in h2)).mono fun e w' ⟨he,hw⟩ => ⟨?_,hw.symm⟩
 rw [he,ints_bytes,ints_bytes];rfl
theorem back_pref {t : List UInt8} {a b i : Nat} (h1 : a ≤ b) (h2 : b ≤ t.length) (hi : i ≤ t.length) : backAt t ((a : Int),(b : Int)) i = if ((t.take b).drop a).isPrefixOf ((t.take t.length).drop i) = true then some (i + (b - a)) else none:=by
 unfold backAt
 rw [List.take_length,List.drop_take]
 dsimp only
 have e1 : ((a : Int)).toNat = a:=rfl
 have e2 : ((b : Int) - (a : Int)).toNat = b - a:=by omega
 rw [e1,e2]
 have hl : ((t.drop a).take (b - a)).length = b - a:=by rw [List.length_take,List.length_drop];omega
 by_cases hd : t.length - i < b - a
 · rw [if_pos (by omega),if_neg]
   intro h
   have:=(List.isPrefixOf_iff_prefix.1 h).length_le
   rw [hl,List.length_drop] at this
   omega
 · rw [if_neg (by omega)]
   by_cases he : (t.drop a).take (b - a) = (t.drop i).take (b - a)
   · rw [if_pos he,if_pos]
     rw [he,List.isPrefixOf_iff_prefix]
     exact List.take_prefix _ _
   · rw [if_neg he,if_neg]
     intro h
     have h3:=List.prefix_iff_eq_take.1 (List.isPrefixOf_iff_prefix.1 h)
     rw [hl] at h3
     exact he h3
section
variable {w w1 : World} {B S W : Nat} {An : Option Addr} {nn cn : Nat} {At : Option Addr} {nt ct : Nat} {ns : List Nod} {t : List UInt8} {g : Int} {a left : Nat} {v : Value} {xs : List Wt} {b : Option Spn} {pv : Value} {p : Pt} {l : List Tsk}
def agL (t : List UInt8) (s : Int × Int) (p : Pt) (l : List Tsk) : List Wy:=match backAt t s p.i with | some j => [(l,⟨j,p.sp⟩)] | none => []
def SSp (G : Nat) (x y : Int) (w0 w' : World) : Prop:=Held w' G 28 #[.int .i64 x,.int .i64 y] ∧ Below w0.heap.size w0 w'
theorem SSp.below {G : Nat} {x y : Int} {w0 w1 w2 : World} (h : SSp G x y w0 w1) (hb : Below w1.heap.size w1 w2) : SSp G x y w0 w2:=⟨h.1.keep hb,h.2.trans (hb.mono h.2.size)⟩
theorem takesAgain_no (y : Int) (h : Sta w B S W An nn cn At nt ct ns t g a left v xs b pv p l) (x : Int) (hx : x < 0) :
    Calls Try.prog 58 #[.pointer (some ⟨S,0,none⟩),.pointer (some ⟨W,0,none⟩),.agg #[.int .i64 x,.int .i64 y]] w (GoP w B S W An nn cn At nt ct ns t g a left v xs b []):=by
 have hN:=lhi (fun w => isNone_any x y w)
 rw [show decide (x < 0) = true from decide_eq_true hx] at hN
 have hGn:=lhi (fun w' (hb : Below w.heap.size w w') => (h.keep hb).gone (Chm.of_below hb) rfl)
 have hb0:=lhi ((Below.refl w.heap.size w).alloc (nlr _) (.cells #[.int .i64 x,.int .i64 y] 28))
 have hs0:=lhi (held_new w 28 #[.int .i64 x,.int .i64 y])
 have hK:=lhi (fun w' (hb : Below (w.heap.size + 1) (w.alloc (.cells #[.int .i64 x,.int .i64 y] 28)) w') => And.intro (held2 (hs0.out.below hb (Nat.lt_succ_self _))) (hb0.out.trans (hb.mono (Nat.le_succ _))))
 have hQ0:=lhi (show SSp w.heap.size x y w (w.alloc (.cells #[.int .i64 x,.int .i64 y] 28)).drew from ⟨hs0.out.drew,hb0.out.drew⟩)
 clear h hx hK hs0 hb0
 go_enter Try.func58,Try.ntmps58
 go_wp2
 refine wp_region_held_drew (S:=SSp w.heap.size x y w) (by kernel_rfl) hQ0.out (fun hS => ?_)
 refine wpAnyH_take (i:=0) (v:=?_) rfl (by kernel_rfl) (by kernel_rfl) (by kernel_rfl) (fun _ _ _ h => h) (Or.inl ⟨by rfl,?_⟩) hS ?_
 rotate_left
 · (intro w' hS';have ⟨c0,c1⟩:=held2 hS'.1;go_simp;try with_reducible rfl)
 (try simp only [Act.put,List.getElem_toArray,List.getElem_cons_zero,List.getElem_cons_succ,List.setIfInBounds_toArray,List.set_cons_zero,List.set_cons_succ])
 refine wpAnyH_ready (rs:=[1]) (by kernel_rfl) (by simp) ?_
 refine AllReadyH.cons rfl (fun K hK => ?_) AllReadyH.nil
 go_simp
 refine (hN.out _).mono ?_
 rintro e w3 ⟨rfl,hb3⟩
 go_simp
 refine hK.out _ _ (hS.below hb3) (fun _ => ?_)
 clear hK K
 replace hS:=hS.below hb3
 (try simp only [Act.put,List.getElem_toArray,List.getElem_cons_zero,List.getElem_cons_succ,List.setIfInBounds_toArray,List.set_cons_zero,List.set_cons_succ])
 refine wpAnyH_take (i:=2) (v:=?_) rfl (by kernel_rfl) (by kernel_rfl) (by kernel_rfl) (fun _ _ _ h => h) (Or.inl ⟨by rfl,?_⟩) hS ?_
 rotate_left
 · (intro w' hS';go_simp;try with_reducible rfl)
 (try simp only [Act.put,List.getElem_toArray,List.getElem_cons_zero,List.getElem_cons_succ,List.setIfInBounds_toArray,List.set_cons_zero,List.set_cons_succ])
 refine wpAnyH_take (i:=3) (v:=undef) rfl (by kernel_rfl) (by kernel_rfl) (by kernel_rfl) (fun _ _ _ h => h) (Or.inr ⟨by rfl,rfl⟩) hS ?_
 (try simp only [Act.put,List.getElem_toArray,List.getElem_cons_zero,List.getElem_cons_succ,List.setIfInBounds_toArray,List.set_cons_zero,List.set_cons_succ])
 refine wpAnyH_take (i:=4) (v:=undef) rfl (by kernel_rfl) (by kernel_rfl) (by kernel_rfl) (fun _ _ _ h => h) (Or.inr ⟨by rfl,rfl⟩) hS ?_
 (try simp only [Act.put,List.getElem_toArray,List.getElem_cons_zero,List.getElem_cons_succ,List.setIfInBounds_toArray,List.set_cons_zero,List.set_cons_succ])
 refine wpAnyH_take (i:=5) (v:=undef) rfl (by kernel_rfl) (by kernel_rfl) (by kernel_rfl) (fun _ _ _ h => h) (Or.inr ⟨by rfl,rfl⟩) hS ?_
 (try simp only [Act.put,List.getElem_toArray,List.getElem_cons_zero,List.getElem_cons_succ,List.setIfInBounds_toArray,List.set_cons_zero,List.set_cons_succ])
 refine wpAnyH_take (i:=6) (v:=undef) rfl (by kernel_rfl) (by kernel_rfl) (by kernel_rfl) (fun _ _ _ h => h) (Or.inr ⟨by rfl,rfl⟩) hS ?_
 (try simp only [Act.put,List.getElem_toArray,List.getElem_cons_zero,List.getElem_cons_succ,List.setIfInBounds_toArray,List.set_cons_zero,List.set_cons_succ])
 refine wpAnyH_take (i:=7) (v:=undef) rfl (by kernel_rfl) (by kernel_rfl) (by kernel_rfl) (fun _ _ _ h => h) (Or.inr ⟨by rfl,rfl⟩) hS ?_
 (try simp only [Act.put,List.getElem_toArray,List.getElem_cons_zero,List.getElem_cons_succ,List.setIfInBounds_toArray,List.set_cons_zero,List.set_cons_succ])
 refine wpAnyH_take (i:=8) (v:=undef) rfl (by kernel_rfl) (by kernel_rfl) (by kernel_rfl) (fun _ _ _ h => h) (Or.inr ⟨by rfl,rfl⟩) hS ?_
 (try simp only [Act.put,List.getElem_toArray,List.getElem_cons_zero,List.getElem_cons_succ,List.setIfInBounds_toArray,List.set_cons_zero,List.set_cons_succ])
 refine wpAnyH_take (i:=9) (v:=undef) rfl (by kernel_rfl) (by kernel_rfl) (by kernel_rfl) (fun _ _ _ h => h) (Or.inr ⟨by rfl,rfl⟩) hS ?_
 (try simp only [Act.put,List.getElem_toArray,List.getElem_cons_zero,List.getElem_cons_succ,List.setIfInBounds_toArray,List.set_cons_zero,List.set_cons_succ])
 refine wpAnyH_take (i:=10) (v:=undef) rfl (by kernel_rfl) (by kernel_rfl) (by kernel_rfl) (fun _ _ _ h => h) (Or.inr ⟨by rfl,rfl⟩) hS ?_
 (try simp only [Act.put,List.getElem_toArray,List.getElem_cons_zero,List.getElem_cons_succ,List.setIfInBounds_toArray,List.set_cons_zero,List.set_cons_succ])
 refine wpAnyH_take (i:=11) (v:=undef) rfl (by kernel_rfl) (by kernel_rfl) (by kernel_rfl) (fun _ _ _ h => h) (Or.inr ⟨by rfl,rfl⟩) hS ?_
 (try simp only [Act.put,List.getElem_toArray,List.getElem_cons_zero,List.getElem_cons_succ,List.setIfInBounds_toArray,List.set_cons_zero,List.set_cons_succ])
 refine wpAnyH_take (i:=12) (v:=undef) rfl (by kernel_rfl) (by kernel_rfl) (by kernel_rfl) (fun _ _ _ h => h) (Or.inr ⟨by rfl,rfl⟩) hS ?_
 (try simp only [Act.put,List.getElem_toArray,List.getElem_cons_zero,List.getElem_cons_succ,List.setIfInBounds_toArray,List.set_cons_zero,List.set_cons_succ])
 refine wpAnyH_take (i:=13) (v:=undef) rfl (by kernel_rfl) (by kernel_rfl) (by kernel_rfl) (fun _ _ _ h => h) (Or.inr ⟨by rfl,rfl⟩) hS ?_
 (try simp only [Act.put,List.getElem_toArray,List.getElem_cons_zero,List.getElem_cons_succ,List.setIfInBounds_toArray,List.set_cons_zero,List.set_cons_succ])
 refine wpAnyH_take (i:=14) (v:=undef) rfl (by kernel_rfl) (by kernel_rfl) (by kernel_rfl) (fun _ _ _ h => h) (Or.inr ⟨by rfl,rfl⟩) hS ?_
 (try simp only [Act.put,List.getElem_toArray,List.getElem_cons_zero,List.getElem_cons_succ,List.setIfInBounds_toArray,List.set_cons_zero,List.set_cons_succ])
 refine wpAnyH_take (i:=15) (v:=undef) rfl (by kernel_rfl) (by kernel_rfl) (by kernel_rfl) (fun _ _ _ h => h) (Or.inr ⟨by rfl,rfl⟩) hS ?_
 (try simp only [Act.put,List.getElem_toArray,List.getElem_cons_zero,List.getElem_cons_succ,List.setIfInBounds_toArray,List.set_cons_zero,List.set_cons_succ])
 refine wpAnyH_take (i:=16) (v:=undef) rfl (by kernel_rfl) (by kernel_rfl) (by kernel_rfl) (fun _ _ _ h => h) (Or.inr ⟨by rfl,rfl⟩) hS ?_
 (try simp only [Act.put,List.getElem_toArray,List.getElem_cons_zero,List.getElem_cons_succ,List.setIfInBounds_toArray,List.set_cons_zero,List.set_cons_succ])
 refine wpAnyH_take (i:=17) (v:=undef) rfl (by kernel_rfl) (by kernel_rfl) (by kernel_rfl) (fun _ _ _ h => h) (Or.inr ⟨by rfl,rfl⟩) hS ?_
 (try simp only [Act.put,List.getElem_toArray,List.getElem_cons_zero,List.getElem_cons_succ,List.setIfInBounds_toArray,List.set_cons_zero,List.set_cons_succ])
 refine wpAnyH_take (i:=18) (v:=undef) rfl (by kernel_rfl) (by kernel_rfl) (by kernel_rfl) (fun _ _ _ h => h) (Or.inr ⟨by rfl,rfl⟩) hS ?_
 (try simp only [Act.put,List.getElem_toArray,List.getElem_cons_zero,List.getElem_cons_succ,List.setIfInBounds_toArray,List.set_cons_zero,List.set_cons_succ])
 refine wpAnyH_take (i:=19) (v:=undef) rfl (by kernel_rfl) (by kernel_rfl) (by kernel_rfl) (fun _ _ _ h => h) (Or.inr ⟨by rfl,rfl⟩) hS ?_
 (try simp only [Act.put,List.getElem_toArray,List.getElem_cons_zero,List.getElem_cons_succ,List.setIfInBounds_toArray,List.set_cons_zero,List.set_cons_succ])
 refine wpAnyH_take (i:=20) (v:=undef) rfl (by kernel_rfl) (by kernel_rfl) (by kernel_rfl) (fun _ _ _ h => h) (Or.inr ⟨by rfl,rfl⟩) hS ?_
 (try simp only [Act.put,List.getElem_toArray,List.getElem_cons_zero,List.getElem_cons_succ,List.setIfInBounds_toArray,List.set_cons_zero,List.set_cons_succ])
 refine wpAnyH_take (i:=21) (v:=undef) rfl (by kernel_rfl) (by kernel_rfl) (by kernel_rfl) (fun _ _ _ h => h) (Or.inr ⟨by rfl,rfl⟩) hS ?_
 (try simp only [Act.put,List.getElem_toArray,List.getElem_cons_zero,List.getElem_cons_succ,List.setIfInBounds_toArray,List.set_cons_zero,List.set_cons_succ])
 refine wpAnyH_take (i:=22) (v:=undef) rfl (by kernel_rfl) (by kernel_rfl) (by kernel_rfl) (fun _ _ _ h => h) (Or.inr ⟨by rfl,rfl⟩) hS ?_
 (try simp only [Act.put,List.getElem_toArray,List.getElem_cons_zero,List.getElem_cons_succ,List.setIfInBounds_toArray,List.set_cons_zero,List.set_cons_succ])
 refine wpAnyH_take (i:=23) (v:=?_) rfl (by kernel_rfl) (by kernel_rfl) (by kernel_rfl) (fun _ _ _ h => h) (Or.inl ⟨by rfl,?_⟩) hS ?_
 rotate_left
 · (intro w' hS';go_simp;try with_reducible rfl)
 (try simp only [Act.put,List.getElem_toArray,List.getElem_cons_zero,List.getElem_cons_succ,List.setIfInBounds_toArray,List.set_cons_zero,List.set_cons_succ])
 refine wpAnyH_done (by kernel_rfl) ?_ _
 go_wp2
 go_ret
 exact hGn.out _ hS.2
end
end Go.Proofs.Ytbdfhmefjfaofaa
