/- Contracts and plain facts: M19. -/
import Derived.Test.YtonjnagcdnmcpaaGreatDoorM18
import Derived.Deep.CutRange
import Derived.Deep.CutBlock
set_option linter.unusedVariables false
set_option linter.unusedSimpArgs false
set_option maxRecDepth 100000
set_option maxHeartbeats 32000000
namespace Go.Proofs.YtonjnagcdnmcpaaGreatDoor
open Go.RowKit
section
variable {w w' : World} {B T : Nat} {A : Option Addr} {n c : Nat} {l : List UInt8} {v v' : Value} {ns ns' : List Nod} {g g' i i' : Nat} {cl cl' : Nat → Bool} {e : Ending}
theorem YBad.ret {p q : Nat} (h : YBad w B T A n c l v p q e w') : e = .returned (.int .i64 (-1)) ∧ YBad w B T A n c l v p q (.returned (.int .i64 (-1))) w':=by
 obtain ⟨v',ns',g',cl',rfl,h⟩:=h
 exact ⟨rfl,v',ns',g',cl',rfl,h⟩
theorem YBad.from {p q : Nat} {w0 : World} {v0 : Value} (h : YBad w B T A n c l v p q e w') (h0 : ChP w0 w T v0 v) : YBad w0 B T A n c l v0 p q e w':=by
 obtain ⟨v',ns',g',cl',h1,h2,h3⟩:=h
 exact ⟨v',ns',g',cl',h1,h2,h0.trans h3⟩
def YAm (w : World) (B T : Nat) (A : Option Addr) (n c : Nat) (l : List UInt8) (v : Value) (ns : List Nod) (g i : Nat) (cl : Nat → Bool) (a : Am) (e : Ending) (w' : World) : Prop:=match a with
 | .bad q => YBad w B T A n c l v i q e w'
 | .opn => False
 | .bak q => if cl q = true then YPut w B T A n c l v ns g cl (i + 2) (backN (q : Int)) e w' else YBad w B T A n c l v i 16 e w'
 | .nod j nd => YPut w B T A n c l v ns g cl j nd e w'
theorem YAm.ret {a : Am} (h : YAm w B T A n c l v ns g i cl a e w') : ∃ z,e = .returned (.int .i64 z) ∧ YAm w B T A n c l v ns g i cl a (.returned (.int .i64 z)) w':=by
 cases a with
 | bad q => exact ⟨_,(YBad.ret h).1,(YBad.ret h).2⟩
 | opn => exact h.elim
 | bak q =>
  unfold YAm at h ⊢
  simp only at h ⊢
  split at h
  · rename_i hc
    obtain ⟨z,h1,h2⟩:=YPut.ret h
    exact ⟨z,h1,by rw [if_pos hc];exact h2⟩
  · rename_i hc
    exact ⟨_,(YBad.ret h).1,by rw [if_neg hc];exact (YBad.ret h).2⟩
 | nod j nd => exact YPut.ret h
theorem YAm.from {a : Am} {w0 : World} {v0 : Value} (h : YAm w B T A n c l v ns g i cl a e w') (h0 : ChP w0 w T v0 v) : YAm w0 B T A n c l v0 ns g i cl a e w':=by
 cases a with
 | bad q => exact YBad.from h h0
 | opn => exact h
 | bak q =>
  unfold YAm at h ⊢
  simp only at h ⊢
  split at h
  · rename_i hc;rw [if_pos hc];exact YPut.from h h0
  · rename_i hc;rw [if_neg hc];exact YBad.from h h0
 | nod j nd => exact YPut.from h h0
end
section
variable {w : World} {B T : Nat} {A : Option Addr} {n c : Nat} {l : List UInt8} {v : Value} {ns : List Nod} {g i : Nat} {cl : Nat → Bool} (h : Psr w B T A n c l v ns g i cl 0)
include h
theorem Psr.byte {k : Nat} {x : UInt8} (hk : l[k]? = some x) : ∃ ad,A = some ad ∧ w.cell? (ad.add k) = some (.int .u8 (x.toNat : Int)):=by
 obtain ⟨hlt,hx⟩:=List.getElem?_eq_some_iff.1 hk
 obtain ⟨ad,h1,h2,h3⟩:=h.txt.2.2.2.2.2.1.at_ hlt
 rw [hx] at h3
 exact ⟨ad,h1,h3⟩
theorem escaped_0 (hx : l.drop i = [92]) : Calls Tryz.prog 117 #[.pointer (some ⟨T,0,none⟩)] w (YAm w B T A n c l v ns g i cl (escE i [])):=by
 obtain ⟨hi,-,hr⟩:=drop_at hx
 have hnl:=h.hn
 have hin : n = i + 1:=by
  have:=congrArg List.length hx
  rw [List.length_drop] at this
  simp at this;omega
 have hns : n ≤ 1000000:=h.txt.2.2.2.1
 have hfin:=lhi (fun (w' : World) (x : Ending) (y : YBad w B T A n c l v i 10 x w') => show YAm w B T A n c l v ns g i cl (escE i []) x w' from y)
 have c2:=h.c2
 have c3:=h.c3
 have hP:=lhi (fun w1 (hb : Below w.heap.size w w1) => (h.keep hb))
 have hb0:=lhi (Below.refl w.heap.size w)
 clear h hx hr hnl hi
 subst hin
 have hi0 : (i : Int) ≤ 1000000:=by omega
 go_enter Tryz.func117,Tryz.ntmps117
 go_wp2
 go_quiet (fail)
 go_wp2_with (go_at_call 66;refine (wrong_at (hP.out _ (below_drewN hb0.out _)) 10 10 rfl).mono ?_;intro x w2 hy;obtain ⟨rfl,hy⟩:=hy.ret;replace hy:=lhi (hfin.out _ _ (hy.from (ChP.of_below (below_drewN hb0.out _)))))
 go_ret
 exact hy.out
theorem escaped_bad {x : UInt8} {r : List UInt8} (hx : l.drop i = 92 :: x :: r) (h110 : x ≠ 110) (hdg : ¬ (49 ≤ x ∧ x ≤ 57)) (hal : isAl x = true) :
    Calls Tryz.prog 117 #[.pointer (some ⟨T,0,none⟩)] w (YAm w B T A n c l v ns g i cl (escE i (x :: r))):=by
 obtain ⟨hi,-,hr⟩:=drop_at hx
 obtain ⟨hi1,hx1,-⟩:=drop_at hr
 have hnl:=h.hn
 have hns : n ≤ 1000000:=h.txt.2.2.2.1
 have hin : i + 1 < n:=by omega
 obtain ⟨p,hp⟩ : ∃ p,p = i + 1:=⟨_,rfl⟩
 have hw1 : IntKind.i64.wrap ((i : Int) + 1) = (p : Int):=by rw [IntWalk.i64_in _ (by omega)];omega
 have hne : ((p : Int) == (n : Int)) = false:=by rw [bef];omega
 have hp0 : (0 : Int) ≤ (p : Int):=by omega
 have hp1 : (p : Int) < (n : Int):=by omega
 rw [← hp] at hx1
 replace hp:=lhi hp
 have hi0 : (i : Int) ≤ 1000000:=by omega
 obtain ⟨ad,rfl,hcell⟩:=h.byte hx1
 have hnc : n ≤ c:=h.inp.2.1
 have c2:=h.c2
 have c3:=h.c3
 have hb0:=lhi (Below.refl w.heap.size w)
 have hP:=lhi (fun w1 (hb : Below w.heap.size w w1) => (h.keep hb))
 have ha : escE i (x :: r) = .bad 10:=by simp only [escE];rw [if_neg h110,if_neg hdg,if_pos hal]
 rw [ha]
 have hfin:=lhi (fun (w' : World) (z : Ending) (y : YBad w B T (some ad) n c l v i 10 z w') => show YAm w B T (some ad) n c l v ns g i cl (.bad 10) z w' from y)
 have hA:=lhi (fun w => isAlnum_atm x w)
 rw [hal] at hA
 clear h hx hr hx1 hnl hi hi1 ha
 have e110:=u8_ne h110
 have edg : ¬ (49 ≤ (x.toNat : Int) ∧ (x.toNat : Int) ≤ 57):=fun h => hdg ⟨UInt8.le_iff_toNat_le.2 (by show 49 ≤ x.toNat;omega),UInt8.le_iff_toNat_le.2 (by show x.toNat ≤ 57;omega)⟩
 clear h110 hdg hal
 generalize (x.toNat : Int) = d at *
 replace e110 : (d == 110) = false:=e110
 by_cases h49 : 49 ≤ d
 · have h57 : ¬ d ≤ 57:=fun h => edg ⟨h49,h⟩
   go_enter Tryz.func117,Tryz.ntmps117
   go_wp2
   go_quiet (fail)
   go_wp2
   go_quiet (fail)
   go_wp2_with (first
    | (go_at_call 131;refine (hA.out _).mono ?_;rintro y w3 ⟨rfl,rfl⟩)
    | (go_at_call 66;refine (wrong_at (hP.out _ (below_drewN hb0.out _)) 10 10 rfl).mono ?_;intro x w2 hy;obtain ⟨rfl,hy⟩:=hy.ret;replace hy:=lhi (hfin.out _ _ (hy.from (ChP.of_below (below_drewN hb0.out _))))))
   go_ret
   exact hy.out
 · go_enter Tryz.func117,Tryz.ntmps117
   go_wp2
   go_quiet (fail)
   go_wp2
   go_quiet (fail)
   go_wp2_with (first
    | (go_at_call 131;refine (hA.out _).mono ?_;rintro y w3 ⟨rfl,rfl⟩)
    | (go_at_call 66;refine (wrong_at (hP.out _ (below_drewN hb0.out _)) 10 10 rfl).mono ?_;intro x w2 hy;obtain ⟨rfl,hy⟩:=hy.ret;replace hy:=lhi (hfin.out _ _ (hy.from (ChP.of_below (below_drewN hb0.out _))))))
   go_ret
   exact hy.out
theorem escaped_n {r : List UInt8} (hx : l.drop i = 92 :: 110 :: r) :
    Calls Tryz.prog 117 #[.pointer (some ⟨T,0,none⟩)] w (YAm w B T A n c l v ns g i cl (escE i (110 :: r))):=by
 obtain ⟨hi,-,hr⟩:=drop_at hx
 obtain ⟨hi1,hx1,-⟩:=drop_at hr
 have hnl:=h.hn
 have hns : n ≤ 1000000:=h.txt.2.2.2.1
 have hin : i + 1 < n:=by omega
 obtain ⟨p,hp⟩ : ∃ p,p = i + 1:=⟨_,rfl⟩
 have hw1 : IntKind.i64.wrap ((i : Int) + 1) = (p : Int):=by rw [IntWalk.i64_in _ (by omega)];omega
 have hne : ((p : Int) == (n : Int)) = false:=by rw [bef];omega
 have hp0 : (0 : Int) ≤ (p : Int):=by omega
 have hp1 : (p : Int) < (n : Int):=by omega
 rw [← hp] at hx1
 replace hp:=lhi hp
 have hi0 : (i : Int) ≤ 1000000:=by omega
 obtain ⟨ad,rfl,hcell⟩:=h.byte hx1
 have hnc : n ≤ c:=h.inp.2.1
 have c2:=h.c2
 have c3:=h.c3
 have hb0:=lhi (Below.refl w.heap.size w)
 have hP:=lhi (fun w1 (hb : Below w.heap.size w w1) => bset_any (h.keep hb) 2 2 rfl (by omega) (oneF 10))
 have ha : escE i (110 :: r) = .nod (i + 2) (setN (oneF 10)):=by simp only [escE,ofL_one];rfl
 rw [ha]
 have hfin:=lhi (fun (w' : World) (z : Ending) (q : YPut w B T (some ad) n c l v ns g cl (i + 2) (setN (oneF 10)) z w') => show YAm w B T (some ad) n c l v ns g i cl (.nod (i + 2) (setN (oneF 10))) z w' from q)
 have hO : Hid (∀ w : World,Calls Tryz.prog 82 #[.slice (some ⟨w.heap.size,0,none⟩) 1 1] (w.alloc (.cells #[.int .u8 10] 5)) fun e w' => e = .returned (.agg (setC (oneF 10))) ∧ Below w.heap.size w w'):=lhi (fun w => of_one w 10)
 replace hcell : w.cell? (ad.add p) = some (.int .u8 110):=hcell
 clear h hx hr hx1 hnl hi hi1 ha
 go_enter Tryz.func117,Tryz.ntmps117
 go_wp2
 go_quiet (fail)
 go_wp2
 go_quiet (fail)
 go_wp2_with (first
  | (go_at_call 82;refine (hO.out _).mono ?_;rintro z w3 ⟨rfl,hb3⟩;replace hb3:=lhi ((below_drewN hb0.out _).trans hb3))
  | (go_at_call 115;refine (hP.out _ hb3.out).mono ?_;intro x w2 hy;obtain ⟨z,rfl,hy⟩:=hy.ret;replace hy:=lhi (hfin.out _ _ (hy.from (ChP.of_below hb3.out)))))
 go_ret
 exact hy.out
theorem escaped_set {x : UInt8} {r : List UInt8} (hx : l.drop i = 92 :: x :: r) (h110 : x ≠ 110) (hdg : ¬ (49 ≤ x ∧ x ≤ 57)) (hal : isAl x = false) :
    Calls Tryz.prog 117 #[.pointer (some ⟨T,0,none⟩)] w (YAm w B T A n c l v ns g i cl (escE i (x :: r))):=by
 obtain ⟨hi,-,hr⟩:=drop_at hx
 obtain ⟨hi1,hx1,-⟩:=drop_at hr
 have hnl:=h.hn
 have hns : n ≤ 1000000:=h.txt.2.2.2.1
 have hin : i + 1 < n:=by omega
 obtain ⟨p,hp⟩ : ∃ p,p = i + 1:=⟨_,rfl⟩
 have hw1 : IntKind.i64.wrap ((i : Int) + 1) = (p : Int):=by rw [IntWalk.i64_in _ (by omega)];omega
 have hne : ((p : Int) == (n : Int)) = false:=by rw [bef];omega
 have hp0 : (0 : Int) ≤ (p : Int):=by omega
 have hp1 : (p : Int) < (n : Int):=by omega
 rw [← hp] at hx1
 replace hp:=lhi hp
 have hi0 : (i : Int) ≤ 1000000:=by omega
 obtain ⟨ad,rfl,hcell⟩:=h.byte hx1
 have hnc : n ≤ c:=h.inp.2.1
 have c2:=h.c2
 have c3:=h.c3
 have hb0:=lhi (Below.refl w.heap.size w)
 have hP:=lhi (fun w1 (hb : Below w.heap.size w w1) => bset_any (h.keep hb) 2 2 rfl (by omega) (oneF x))
 have ha : escE i (x :: r) = .nod (i + 2) (setN (oneF x)):=by simp only [escE,ofL_one];rw [if_neg h110,if_neg hdg,if_neg (by rw [hal];decide)]
 rw [ha]
 have hfin:=lhi (fun (w' : World) (z : Ending) (q : YPut w B T (some ad) n c l v ns g cl (i + 2) (setN (oneF x)) z w') => show YAm w B T (some ad) n c l v ns g i cl (.nod (i + 2) (setN (oneF x))) z w' from q)
 have hO:=lhi (fun w => of_one w x)
 have hA:=lhi (fun w => isAlnum_atm x w)
 rw [hal] at hA
 clear h hx hr hx1 hnl hi hi1 ha
 have e110:=u8_ne h110
 have edg : ¬ (49 ≤ (x.toNat : Int) ∧ (x.toNat : Int) ≤ 57):=fun h => hdg ⟨UInt8.le_iff_toNat_le.2 (by show 49 ≤ x.toNat;omega),UInt8.le_iff_toNat_le.2 (by show x.toNat ≤ 57;omega)⟩
 clear h110 hdg hal
 generalize (x.toNat : Int) = d at *
 replace e110 : (d == 110) = false:=e110
 by_cases h49 : 49 ≤ d
 · have h57 : ¬ d ≤ 57:=fun h => edg ⟨h49,h⟩
   go_enter Tryz.func117,Tryz.ntmps117
   go_wp2
   go_quiet (fail)
   go_wp2
   go_quiet (fail)
   go_wp2_with (first
    | (go_at_call 131;refine (hA.out _).mono ?_;rintro z w4 ⟨rfl,rfl⟩)
    | (go_at_call 82;refine (hO.out _).mono ?_;rintro z w3 ⟨rfl,hb3⟩;replace hb3:=lhi ((below_drewN hb0.out _).trans hb3))
    | (go_at_call 115;refine (hP.out _ hb3.out).mono ?_;intro x w2 hy;obtain ⟨z,rfl,hy⟩:=hy.ret;replace hy:=lhi (hfin.out _ _ (hy.from (ChP.of_below hb3.out)))))
   go_ret
   exact hy.out
 · go_enter Tryz.func117,Tryz.ntmps117
   go_wp2
   go_quiet (fail)
   go_wp2
   go_quiet (fail)
   go_wp2_with (first
    | (go_at_call 131;refine (hA.out _).mono ?_;rintro z w4 ⟨rfl,rfl⟩)
    | (go_at_call 82;refine (hO.out _).mono ?_;rintro z w3 ⟨rfl,hb3⟩;replace hb3:=lhi ((below_drewN hb0.out _).trans hb3))
    | (go_at_call 115;refine (hP.out _ hb3.out).mono ?_;intro x w2 hy;obtain ⟨z,rfl,hy⟩:=hy.ret;replace hy:=lhi (hfin.out _ _ (hy.from (ChP.of_below hb3.out)))))
   go_ret
   exact hy.out
theorem escaped_bak {x : UInt8} {r : List UInt8} (hx : l.drop i = 92 :: x :: r) (h49 : 49 ≤ x) (h57 : x ≤ 57) :
    Calls Tryz.prog 117 #[.pointer (some ⟨T,0,none⟩)] w (YAm w B T A n c l v ns g i cl (escE i (x :: r))):=by
 obtain ⟨hi,-,hr⟩:=drop_at hx
 obtain ⟨hi1,hx1,-⟩:=drop_at hr
 have hnl:=h.hn
 have hns : n ≤ 1000000:=h.txt.2.2.2.1
 have hin : i + 1 < n:=by omega
 obtain ⟨p,hp⟩ : ∃ p,p = i + 1:=⟨_,rfl⟩
 have hw1 : IntKind.i64.wrap ((i : Int) + 1) = (p : Int):=by rw [IntWalk.i64_in _ (by omega)];omega
 have hne : ((p : Int) == (n : Int)) = false:=by rw [bef];omega
 have hp0 : (0 : Int) ≤ (p : Int):=by omega
 have hp1 : (p : Int) < (n : Int):=by omega
 rw [← hp] at hx1
 replace hp:=lhi hp
 have hi0 : (i : Int) ≤ 1000000:=by omega
 obtain ⟨ad,rfl,hcell⟩:=h.byte hx1
 have hnc : n ≤ c:=h.inp.2.1
 have c2:=h.c2
 have c3:=h.c3
 have hb0:=lhi (Below.refl w.heap.size w)
 have h1 : 49 ≤ x.toNat:=UInt8.le_iff_toNat_le.1 h49
 have h2 : x.toNat ≤ 57:=UInt8.le_iff_toNat_le.1 h57
 have ha : escE i (x :: r) = .bak (x.toNat - 48):=by
  simp only [escE]
  rw [if_neg (by rintro rfl;simp at h2),if_pos ⟨h49,h57⟩]
 rw [ha]
 obtain ⟨q,hqx⟩ : ∃ q,x.toNat = 48 + q:=⟨x.toNat - 48,by omega⟩
 rw [show x.toNat - 48 = q by omega]
 rw [show (x.toNat : Int) = 48 + (q : Int) by omega] at hcell
 have hq1 : 1 ≤ q:=by omega
 have hq9 : q ≤ 9:=by omega
 have e110 : ((48 : Int) + (q : Int) == 110) = false:=by rw [bef];omega
 have d49 : (49 : Int) ≤ 48 + (q : Int):=by omega
 have d57 : (48 : Int) + (q : Int) ≤ 57:=by omega
 have hw2 : IntKind.u8.wrap ((48 : Int) + (q : Int) - 48) = (q : Int):=by rw [IntWalk.u8_in _ (by omega)];omega
 have hw3 : IntKind.i64.wrap (q : Int) = (q : Int):=IntWalk.i64_in _ (by omega)
 cases hcl : cl q with
 | true =>
  have hP:=lhi (fun w1 (hb : Below w.heap.size w w1) => back_yes (h.keep hb) q hq9 hcl (by omega))
  have hfin:=lhi (fun (w' : World) (z : Ending) (y : YPut w B T (some ad) n c l v ns g cl (i + 2) (backN (q : Int)) z w') => show YAm w B T (some ad) n c l v ns g i cl (.bak q) z w' from by unfold YAm;simp only;rw [if_pos hcl];exact y)
  clear h hx hr hx1 hnl hi hi1 ha hcl h49 h57 h1 h2 hqx
  go_enter Tryz.func117,Tryz.ntmps117
  go_wp2
  go_quiet (fail)
  go_wp2
  go_quiet (fail)
  go_wp2_with (go_at_call 130;refine (hP.out _ (below_drewN hb0.out _)).mono ?_;intro x w2 hy;obtain ⟨z,rfl,hy⟩:=hy.ret;replace hy:=lhi (hfin.out _ _ (hy.from (ChP.of_below (below_drewN hb0.out _)))))
  go_ret
  exact hy.out
 | false =>
  have hP:=lhi (fun w1 (hb : Below w.heap.size w w1) => back_no (h.keep hb) q hq9 hcl)
  have hfin:=lhi (fun (w' : World) (z : Ending) (y : YBad w B T (some ad) n c l v i 16 z w') => show YAm w B T (some ad) n c l v ns g i cl (.bak q) z w' from by unfold YAm;simp only;rw [if_neg (by rw [hcl];decide)];exact y)
  clear h hx hr hx1 hnl hi hi1 ha hcl h49 h57 h1 h2 hqx
  go_enter Tryz.func117,Tryz.ntmps117
  go_wp2
  go_quiet (fail)
  go_wp2
  go_quiet (fail)
  go_wp2_with (go_at_call 130;refine (hP.out _ (below_drewN hb0.out _)).mono ?_;intro x w2 hy;obtain ⟨rfl,hy⟩:=hy.ret;replace hy:=lhi (hfin.out _ _ (hy.from (ChP.of_below (below_drewN hb0.out _)))))
  go_ret
  exact hy.out
theorem escaped_any {r : List UInt8} (hx : l.drop i = 92 :: r) :
    Calls Tryz.prog 117 #[.pointer (some ⟨T,0,none⟩)] w (YAm w B T A n c l v ns g i cl (escE i r)):=by
 cases r with
 | nil => exact escaped_0 h hx
 | cons x r =>
  by_cases h110 : x = 110
  · subst h110;exact escaped_n h hx
  by_cases hdg : 49 ≤ x ∧ x ≤ 57
  · exact escaped_bak h hx hdg.1 hdg.2
  cases hal : isAl x with
  | true => exact escaped_bad h hx h110 hdg hal
  | false => exact escaped_set h hx h110 hdg hal
end
theorem of_none (w : World) : Calls Tryz.prog 82 #[.slice none 0 0] w fun e w' => e = .returned (.agg (setC (ofL []))) ∧ Below w.heap.size w w' :=
 of_any none 0 0 [] 0 w rfl (nlr _) (by decide) (Nat.zero_le _) (Byt.none_ _ _ _)
theorem not_none (w : World) : Calls Tryz.prog 81 #[.agg (setC (ofL []))] w fun e w' => e = .returned (.agg (setC allS)) ∧ Below w.heap.size w w':=not_at (ofL []) w
section
variable {w : World} {B T : Nat} {A : Option Addr} {n c : Nat} {l : List UInt8} {v : Value} {ns : List Nod} {g i : Nat} {cl : Nat → Bool} (h : Psr w B T A n c l v ns g i cl 0)
include h
theorem one_esc {r : List UInt8} (hx : l.drop i = 92 :: r) :
    Calls Tryz.prog 95 #[.pointer (some ⟨T,0,none⟩)] w (YAm w B T A n c l v ns g i cl (oneA l i)):=by
 obtain ⟨hi,hx1,-⟩:=drop_at hx
 have hnl:=h.hn
 have hns : n ≤ 1000000:=h.txt.2.2.2.1
 have hp1 : (i : Int) < (n : Int):=by omega
 have hp0 : (0 : Int) ≤ (i : Int):=by omega
 have hin : i < n:=by omega
 obtain ⟨ad,rfl,hcell⟩:=h.byte hx1
 have hnc : n ≤ c:=h.inp.2.1
 have c2:=h.c2
 have c3:=h.c3
 have hb0:=lhi (Below.refl w.heap.size w)
 rw [show oneA l i = escE i r from by rw [one_at hx];rfl]
 replace hcell : w.cell? (ad.add i) = some (.int .u8 92):=hcell
 have hG:=lhi (fun w1 (hb : Below w.heap.size w w1) => escaped_any (h.keep hb) hx)
 generalize escE i r = a at *
 clear h hx hx1 hnl hi hin
 go_enter Tryz.func95,Tryz.ntmps95
 go_wp2
 go_quiet (fail)
 go_wp2_with (go_at_call 117;refine (hG.out _ (below_drewN hb0.out _)).mono ?_;intro x w2 hy;obtain ⟨z,rfl,hy⟩:=hy.ret;replace hy:=lhi (hy.from (ChP.of_below (below_drewN hb0.out _))))
 go_ret
 exact hy.out
theorem one_brk {r : List UInt8} (hx : l.drop i = 91 :: r) :
    Calls Tryz.prog 95 #[.pointer (some ⟨T,0,none⟩)] w (YAm w B T A n c l v ns g i cl (oneA l i)):=by
 obtain ⟨hi,hx1,-⟩:=drop_at hx
 have hnl:=h.hn
 have hns : n ≤ 1000000:=h.txt.2.2.2.1
 have hp1 : (i : Int) < (n : Int):=by omega
 have hp0 : (0 : Int) ≤ (i : Int):=by omega
 have hin : i < n:=by omega
 obtain ⟨ad,rfl,hcell⟩:=h.byte hx1
 have hnc : n ≤ c:=h.inp.2.1
 have c2:=h.c2
 have c3:=h.c3
 have hb0:=lhi (Below.refl w.heap.size w)
 rw [show oneA l i = brkA l i from by rw [one_at hx];rfl]
 replace hcell : w.cell? (ad.add i) = some (.int .u8 91):=hcell
 have hG : Hid (∀ w1,Below w.heap.size w w1 → Calls Tryz.prog 116 #[.pointer (some ⟨T,0,none⟩)] w1 (YAm w1 B T (some ad) n c l v ns g i cl (brkA l i))):=by
  refine lhi fun w1 hb => ?_
  unfold brkA
  cases hv : readB l (i + 1) with
  | error e => exact bracket_no (h.keep hb) hin hv
  | ok p =>
   obtain ⟨f,j⟩:=p
   exact bracket_yes (h.keep hb) hin hv
 generalize brkA l i = a at *
 clear h hx hx1 hnl hi hin
 go_enter Tryz.func95,Tryz.ntmps95
 go_wp2
 go_quiet (fail)
 go_wp2_with (go_at_call 116;refine (hG.out _ (below_drewN hb0.out _)).mono ?_;intro x w2 hy;obtain ⟨z,rfl,hy⟩:=hy.ret;replace hy:=lhi (hy.from (ChP.of_below (below_drewN hb0.out _))))
 go_ret
 exact hy.out
theorem one_dot {r : List UInt8} (hx : l.drop i = 46 :: r) :
    Calls Tryz.prog 95 #[.pointer (some ⟨T,0,none⟩)] w (YAm w B T A n c l v ns g i cl (oneA l i)):=by
 obtain ⟨hi,hx1,-⟩:=drop_at hx
 have hnl:=h.hn
 have hns : n ≤ 1000000:=h.txt.2.2.2.1
 have hp1 : (i : Int) < (n : Int):=by omega
 have hp0 : (0 : Int) ≤ (i : Int):=by omega
 have hin : i < n:=by omega
 obtain ⟨ad,rfl,hcell⟩:=h.byte hx1
 have hnc : n ≤ c:=h.inp.2.1
 have c2:=h.c2
 have c3:=h.c3
 have hb0:=lhi (Below.refl w.heap.size w)
 rw [show oneA l i = .nod (i + 1) (setN allS) from by rw [one_at hx];rfl]
 replace hcell : w.cell? (ad.add i) = some (.int .u8 46):=hcell
 have hfin:=lhi (fun (w' : World) (z : Ending) (q : YPut w B T (some ad) n c l v ns g cl (i + 1) (setN allS) z w') => show YAm w B T (some ad) n c l v ns g i cl (.nod (i + 1) (setN allS)) z w' from q)
 have hP:=lhi (fun w1 (hb : Below w.heap.size w w1) => bset_any (h.keep hb) 1 1 rfl (by omega) allS)
 have hO:=lhi of_none
 have hN:=lhi not_none
 clear h hx hx1 hnl hi hin
 go_enter Tryz.func95,Tryz.ntmps95
 go_wp2
 go_quiet (fail)
 go_wp2_with (first
  | (go_at_call 82;refine (hO.out _).mono ?_;rintro z w3 ⟨rfl,hb3⟩;replace hb3:=lhi ((below_drewN hb0.out _).trans hb3))
  | (go_at_call 81;refine (hN.out _).mono ?_;rintro z w4 ⟨rfl,hb4⟩;replace hb4:=lhi (hb3.out.trans (hb4.mono hb3.out.size)))
  | (go_at_call 115;refine (hP.out _ hb4.out).mono ?_;intro x w2 hy;obtain ⟨z,rfl,hy⟩:=hy.ret;replace hy:=lhi (hfin.out _ _ (hy.from (ChP.of_below hb4.out)))))
 go_ret
 exact hy.out
theorem one_byte {x : UInt8} {r : List UInt8} (hx : l.drop i = x :: r) (h92 : x ≠ 92) (h91 : x ≠ 91) (h46 : x ≠ 46) :
    Calls Tryz.prog 95 #[.pointer (some ⟨T,0,none⟩)] w (YAm w B T A n c l v ns g i cl (oneA l i)):=by
 obtain ⟨hi,hx1,-⟩:=drop_at hx
 have hnl:=h.hn
 have hns : n ≤ 1000000:=h.txt.2.2.2.1
 have hp1 : (i : Int) < (n : Int):=by omega
 have hp0 : (0 : Int) ≤ (i : Int):=by omega
 have hin : i < n:=by omega
 obtain ⟨ad,rfl,hcell⟩:=h.byte hx1
 have hnc : n ≤ c:=h.inp.2.1
 have c2:=h.c2
 have c3:=h.c3
 have hb0:=lhi (Below.refl w.heap.size w)
 rw [show oneA l i = .nod (i + 1) (setN (oneF x)) from by rw [one_at hx];simp only [oneR,ofL_one];rw [if_neg h46,if_neg h91,if_neg h92]]
 have hfin:=lhi (fun (w' : World) (z : Ending) (q : YPut w B T (some ad) n c l v ns g cl (i + 1) (setN (oneF x)) z w') => show YAm w B T (some ad) n c l v ns g i cl (.nod (i + 1) (setN (oneF x))) z w' from q)
 have hP:=lhi (fun w1 (hb : Below w.heap.size w w1) => bset_any (h.keep hb) 1 1 rfl (by omega) (oneF x))
 have hO:=lhi (fun w => of_one w x)
 have e92:=u8_ne h92
 have e91:=u8_ne h91
 have e46:=u8_ne h46
 clear h hx hx1 hnl hi hin h92 h91 h46
 generalize (x.toNat : Int) = d at *
 replace e92 : (d == 92) = false:=e92
 replace e91 : (d == 91) = false:=e91
 replace e46 : (d == 46) = false:=e46
 go_enter Tryz.func95,Tryz.ntmps95
 go_wp2
 go_quiet (fail)
 go_wp2_with (first
  | (go_at_call 82;refine (hO.out _).mono ?_;rintro z w4 ⟨rfl,hb4⟩;replace hb4:=lhi ((below_drewN hb0.out _).trans hb4))
  | (go_at_call 115;refine (hP.out _ hb4.out).mono ?_;intro x w2 hy;obtain ⟨z,rfl,hy⟩:=hy.ret;replace hy:=lhi (hfin.out _ _ (hy.from (ChP.of_below hb4.out)))))
 go_ret
 exact hy.out
theorem one_any (hi : i < n) : Calls Tryz.prog 95 #[.pointer (some ⟨T,0,none⟩)] w (YAm w B T A n c l v ns g i cl (oneA l i)):=by
 have hnl:=h.hn
 cases hx : l.drop i with
 | nil =>
  have:=congrArg List.length hx
  rw [List.length_drop] at this
  simp at this;omega
 | cons x r =>
  by_cases h92 : x = 92
  · subst h92;exact one_esc h hx
  by_cases h91 : x = 91
  · subst h91;exact one_brk h hx
  by_cases h46 : x = 46
  · subst h46;exact one_dot h hx
  exact one_byte h hx h92 h91 h46
end
theorem own_apart {w : World} {b1 b2 : Nat} {e1 e2 : TypeId} {s1 s2 n1 n2 : Nat} {v1 v2 : Value} {x1 x2 : List Value} (h1 : w.ownsRow b1 e1 s1 v1 n1 x1) (h2 : w.ownsRow b2 e2 s2 v2 n2 x2) (hne : e1 ≠ e2) : v1.ownBlock = none ∨ v1.ownBlock ≠ v2.ownBlock:=by
 rcases h1.2 with ⟨rfl,_⟩ | ⟨k,cap,cur,rfl,_,hh,_⟩
 · exact .inl rfl
 · refine .inr fun e => ?_
   have hk : Held w k e1 cur:=hh
   exact hk.not_own h2 (fun e => hne e.symm) (by rw [← e];rfl)
structure Pcs (W : Nat) (w : World) (pv : Value) (ps : List Int) : Prop where
 own : w.ownsRow W 3 1 pv ps.length (ps.map (Value.int .i64))
 base : W ≤ w.heap.size
section
variable {w w' w0 : World} {B T W : Nat} {A : Option Addr} {n c : Nat} {l : List UInt8} {v v' v0 pv : Value} {ns : List Nod} {g i : Nat} {cl : Nat → Bool} {e : Nat} {ps : List Int}
theorem Pcs.nil_ (w : World) : Pcs w.heap.size w (.slice none 0 0) []:=⟨World.ownsRow_nil _ _ _ _,nlr _⟩
theorem Pcs.chp (h : Pcs W w pv ps) (hp : Psr w B T A n c l v ns g i cl e) (k : ChP w w' T v v') (hT : T < W) : Pcs W w' pv ps:=by
 refine ⟨?_,Nat.le_trans h.base k.size⟩
 rcases h.own.2 with ⟨rfl,e1⟩ | ⟨q,cap,cur,rfl,hb,hh,r⟩
 · exact ⟨h.own.1,.inl ⟨rfl,e1⟩⟩
 · refine ⟨h.own.1,.inr ⟨q,cap,cur,rfl,hb,?_,r⟩⟩
   have hk : Held w q 3 cur:=hh
   exact (k.far q hk.lt (by omega) (fun e => hk.not_own hp.own (by decide) e.symm)).trans hh
theorem Pcs.below (h : Pcs W w pv ps) (hb : Below w.heap.size w w') : Pcs W w' pv ps:=⟨own_below h.own hb,Nat.le_trans h.base hb.size⟩
theorem Pcs.lt (h : Pcs W w pv ps) : ∀ k,pv.ownBlock = some k → W ≤ k:=fun k e => (h.own.lt k e).1
theorem Psr.grown (h : Psr w B T A n c l v ns g i cl e) (hp : Pcs W w pv ps) (hg : w.grownBy w' pv.ownBlock) (hT : T < W) : Psr w' B T A n c l v ns g i cl e:=by
 have hB : Below B w w':=⟨hg.os,hg.tape,hg.output,hg.size,fun k hk => hg.block k (nll hk h.bhs) (fun e => by have:=hp.lt k e.symm;have:=h.base;omega)⟩
 refine ⟨h.held.grown hg (fun e => by have:=hp.lt T e.symm;omega),h.own.kept hg ?_,h.len,h.grp,h.base,h.le,h.clg,h.txt.below hB⟩
 rcases own_apart hp.own h.own (by decide) with e1 | e1
 · rw [e1]
   cases hv : v.ownBlock with
   | none => exact .inl rfl
   | some k => exact .inr (by simp)
 · exact .inr fun e => e1 e.symm
theorem ChP.grown (h : ChP w0 w T v0 v) (hg : w.grownBy w' pv.ownBlock) (hp : ∀ k,pv.ownBlock = some k → w0.heap.size ≤ k) : ChP w0 w' T v0 v :=
 ⟨hg.os.trans h.os,hg.tape.trans h.tape,hg.output.trans h.output,Nat.le_trans h.size hg.size,fun k hk h1 h2 => (hg.block k (nll hk h.size) (fun e => by have:=hp k e.symm;omega)).trans (h.far k hk h1 h2),h.row⟩
theorem Pcs.slice (h : Pcs W w pv ps) : ∃ A k,pv = .slice A ps.length k ∧ ps.length ≤ k ∧ k ≤ 9223372036854775807 ∧ Vals w w.heap.size A (ps.map (Value.int .i64)) ∧ ∀ ad,A = some ad → W ≤ ad.block ∧ pv.ownBlock = some ad.block:=by
 have hl:=h.own.1
 obtain ⟨-,⟨rfl,e1⟩ | ⟨q,cap,cur,rfl,hb,hh,hnc,hcm,r⟩⟩:=id h.own
 · have : ps = []:=List.length_eq_zero_iff.1 e1
   subst this
   exact ⟨none,0,rfl,nlr _,by omega,Vals.none_ _ _ _,fun ad e => by cases e⟩
 · unfold maxLen at hcm
   refine ⟨some ⟨q,0,none⟩,cap,rfl,hnc,by omega,fun k hk => ⟨_,rfl,(h.own.lt q rfl).2,?_⟩,fun ad e => by cases e;exact ⟨hb,rfl⟩⟩
   rw [List.length_map] at hk
   rw [add_zero_off,h.own.cellAt k (by omega),List.getElem?_eq_getElem (by rw [List.length_map];exact hk)]
theorem Pcs.apart (h : Pcs W w pv ps) (hp : Psr w B T A n c l v ns g i cl e) (hT : T < W) {A' : Option Addr} (hA : ∀ ad,A' = some ad → W ≤ ad.block ∧ pv.ownBlock = some ad.block) : Apart A' T v:=fun ad e1 => by
 obtain ⟨h1,h2⟩:=hA ad e1
 refine ⟨by omega,fun e2 => ?_⟩
 rcases own_apart h.own hp.own (by decide) with e3 | e3
 · rw [h2] at e3;cases e3
 · exact e3 (by rw [h2,e2])
end
theorem ints_info : (Tryz.prog.info? 3).map (fun i => (i.zero,i.size,i.bytes)) = some (some (.int .i64 0),1,8):=by kernel_rfl
theorem src_int (w : World) (x : Int) : Src (w.alloc (.cells #[.int .i64 x] 3)) (some ⟨w.heap.size,0,none⟩) [.int .i64 x]:=src_new w [.int .i64 x] 3
theorem one_int (x : Int) : ∀ u ∈ [Value.int .i64 x],u.oneCell' = true:=by simp [Value.oneCell']
section
variable {w : World} {B T : Nat} {A : Option Addr} {n c : Nat} {l : List UInt8} {v : Value} {ns : List Nod} {g i : Nat} {cl : Nat → Bool} {inG : Bool}
theorem okP_pos {t p : Int} (h : okP t p = true) : 0 ≤ p:=by simp [okP] at h;omega
theorem below_one (w : World) (x : Int) : Below w.heap.size w (w.alloc (.cells #[.int .i64 x] 3)):=(Below.refl _ _).alloc (nlr _) _
theorem Pcs.more {W : Nat} {w w' : World} {pv pv' : Value} {ps : List Int} {x : Int} (h : Pcs W w pv ps) (ho : w'.ownsRow W 3 1 pv' (ps.length + 1) (ps.map (Value.int .i64) ++ [.int .i64 x])) (hg : w.heap.size ≤ w'.heap.size) : Pcs W w' pv' (ps ++ [x]) :=
 ⟨by rw [lla,List.map_append];exact ho,Nat.le_trans h.base hg⟩
theorem Pcs.slice' {W : Nat} {w : World} {A' : Option Addr} {m k : Nat} {ps : List Int} (h : Pcs W w (.slice A' m k) ps) : m = ps.length ∧ m ≤ k ∧ k ≤ 9223372036854775807 ∧ Vals w w.heap.size A' (ps.map (Value.int .i64)) ∧ ∀ ad,A' = some ad → W ≤ ad.block ∧ (Value.slice A' m k).ownBlock = some ad.block:=by
 obtain ⟨A2,k2,e,h1,h2,h3,h4⟩:=h.slice
 injection e with e1 e2 e3
 subst e1
 subst e3
 exact ⟨e2,by omega,h2,h3,h4⟩
variable (h : Psr w B T A n c l v ns g i cl 0)
include h
theorem bcat_none {W m k : Nat} {Ap : Option Addr} {ps : List Int} (hp : Pcs W w (.slice Ap m k) ps) (hT : T < W) (hok : ∀ p ∈ ps,okP (ns.length : Int) p = true) (hc : catS ns ps = none) :
    Calls Tryz.prog 73 #[.pointer (some ⟨T,0,none⟩),.slice Ap m k] w fun e w' => ∃ v' ns',e = .returned (.int .i64 (-1)) ∧ Psr w' B T A n c l v' ns' g i cl 0 ∧ ChP w w' T v v':=by
 obtain ⟨h1,h2,h3,h4,h5⟩:=hp.slice'
 refine (cat_any B T 0 v ns g Ap m k w.heap.size ps w h.bldr h1 h2 h3 h4 (nlr _) (hp.apart h hT h5)).mono fun e w' ⟨v',e1,hb,hg⟩ => ⟨v',_,?_,h.built (nlr _) hb hg,hg.chp⟩
 rw [e1,catR_none hok hc]
theorem bcat_some {W m k : Nat} {Ap : Option Addr} {ps : List Int} (hp : Pcs W w (.slice Ap m k) ps) (hT : T < W) (hok : ∀ p ∈ ps,okP (ns.length : Int) p = true) {x : Int} {ns' : List Nod} (hc : catS ns ps = some (x,ns')) :
    Calls Tryz.prog 73 #[.pointer (some ⟨T,0,none⟩),.slice Ap m k] w fun e w' => ∃ v',e = .returned (.int .i64 x) ∧ Psr w' B T A n c l v' ns' g i cl 0 ∧ ChP w w' T v v':=by
 obtain ⟨h1,h2,h3,h4,h5⟩:=hp.slice'
 refine (cat_any B T 0 v ns g Ap m k w.heap.size ps w h.bldr h1 h2 h3 h4 (nlr _) (hp.apart h hT h5)).mono fun e w' ⟨v',e1,hb,hg⟩ => ?_
 rw [catR_some hok hc] at e1 hb
 exact ⟨v',e1,h.built (nlr _) hb hg,hg.chp⟩
theorem abranch_open (hi : i = n) (Ap : Option Addr) (m k : Nat) :
    Calls Tryz.prog 49 #[.pointer (some ⟨T,0,none⟩),.bool true,.slice Ap m k] w (YBad w B T A n c l v i 14):=by
 have hF:=lhi (fine_any h)
 have hE:=lhi (ends_any h)
 rw [decide_eq_true hi] at hE
 have hW:=lhi (fun w1 (hb : Below w.heap.size w w1) => wrong_at (h.keep hb) 14 14 rfl)
 clear h hi
 go_enter Tryz.func49,Tryz.ntmps49
 go_wp2_with (first
  | (go_at_call 39;refine (hF.out).mono ?_;rintro e w1 ⟨rfl,rfl⟩)
  | (go_at_call 25;refine (hE.out).mono ?_;rintro e w2 ⟨rfl,hb2⟩;replace hb2:=lhi hb2)
  | (go_at_call 66;refine (hW.out _ hb2.out).mono ?_;intro x w3 hy;obtain ⟨rfl,hy⟩:=hy.ret;replace hy:=lhi (hy.from (ChP.of_below hb2.out))))
 go_ret
 exact hy.out
theorem abranch_none {W m k : Nat} {Ap : Option Addr} {ps : List Int} (hp : Pcs W w (.slice Ap m k) ps) (hT : T < W) (hok : ∀ p ∈ ps,okP (ns.length : Int) p = true) (hc : catS ns ps = none) (inG : Bool) (hi : inG = true → i ≠ n) :
    Calls Tryz.prog 49 #[.pointer (some ⟨T,0,none⟩),.bool inG,.slice Ap m k] w (YBad w B T A n c l v i 8):=by
 have hF:=lhi (fine_any h)
 have hE:=lhi (ends_any h)
 have hC:=lhi (fun w1 (hb : Below w.heap.size w w1) => bcat_none (h.keep hb) (hp.below hb) hT hok hc)
 have hb0:=lhi (Below.refl w.heap.size w)
 cases inG with
 | false =>
  clear h hi hp hc hok
  go_enter Tryz.func49,Tryz.ntmps49
  go_wp2_with (first
   | (go_at_call 39;refine (hF.out).mono ?_;rintro e w1 ⟨rfl,rfl⟩)
   | (go_at_call 73;refine (hC.out _ hb0.out).mono ?_;rintro y w5 ⟨v5,ns5,rfl,h5,k5⟩;replace h5:=lhi h5;replace k5:=lhi k5)
   | (go_at_call 44;refine (put_no h5.out).mono ?_;rintro y w6 ⟨rfl,h6,k6⟩;replace h6:=lhi h6;replace k6:=lhi (k5.out.trans k6)))
  go_ret
  exact ⟨v5,ns5,_,_,rfl,h6.out,k6.out⟩
 | true =>
  rw [decide_eq_false (hi rfl)] at hE
  clear h hi hp hc hok
  go_enter Tryz.func49,Tryz.ntmps49
  go_wp2_with (first
   | (go_at_call 39;refine (hF.out).mono ?_;rintro e w1 ⟨rfl,rfl⟩)
   | (go_at_call 25;refine (hE.out).mono ?_;rintro e w2 ⟨rfl,hb2⟩;replace hb2:=lhi hb2)
   | (go_at_call 73;refine (hC.out _ hb2.out).mono ?_;rintro y w5 ⟨v5,ns5,rfl,h5,k5⟩;replace h5:=lhi h5;replace k5:=lhi ((ChP.of_below hb2.out).trans k5))
   | (go_at_call 44;refine (put_no h5.out).mono ?_;rintro y w6 ⟨rfl,h6,k6⟩;replace h6:=lhi h6;replace k6:=lhi (k5.out.trans k6)))
  go_ret
  exact ⟨v5,ns5,_,_,rfl,h6.out,k6.out⟩
theorem abranch_some {W m k : Nat} {Ap : Option Addr} {ps : List Int} (hp : Pcs W w (.slice Ap m k) ps) (hT : T < W) (hok : ∀ p ∈ ps,okP (ns.length : Int) p = true) {x : Int} {ns' : List Nod} (hc : catS ns ps = some (x,ns')) (inG : Bool) (hi : inG = true → i ≠ n) :
    Calls Tryz.prog 49 #[.pointer (some ⟨T,0,none⟩),.bool inG,.slice Ap m k] w fun e w' => ∃ v',e = .returned (.int .i64 x) ∧ Psr w' B T A n c l v' ns' g i cl 0 ∧ ChP w w' T v v':=by
 have hF:=lhi (fine_any h)
 have hE:=lhi (ends_any h)
 have hup:=catS_up hok hc
 obtain ⟨y,rfl⟩ : ∃ y : Nat,x = (y : Int):=⟨x.toNat,by have:=(okP_pos hup.2.1);omega⟩
 have hC:=lhi (fun w1 (hb : Below w.heap.size w w1) => bcat_some (h.keep hb) (hp.below hb) hT hok hc)
 have hb0:=lhi (Below.refl w.heap.size w)
 cases inG with
 | false =>
  clear h hi hp hc hok hup
  go_enter Tryz.func49,Tryz.ntmps49
  go_wp2_with (first
   | (go_at_call 39;refine (hF.out).mono ?_;rintro e w1 ⟨rfl,rfl⟩)
   | (go_at_call 73;refine (hC.out _ hb0.out).mono ?_;rintro z w5 ⟨v5,rfl,h5,k5⟩;replace h5:=lhi h5;replace k5:=lhi k5)
   | (go_at_call 44;refine (put_yes T y _).mono ?_;rintro z w6 ⟨rfl,rfl⟩))
  go_ret
  exact ⟨v5,rfl,h5.out,k5.out⟩
 | true =>
  rw [decide_eq_false (hi rfl)] at hE
  clear h hi hp hc hok hup
  go_enter Tryz.func49,Tryz.ntmps49
  go_wp2_with (first
   | (go_at_call 39;refine (hF.out).mono ?_;rintro e w1 ⟨rfl,rfl⟩)
   | (go_at_call 25;refine (hE.out).mono ?_;rintro e w2 ⟨rfl,hb2⟩;replace hb2:=lhi hb2)
   | (go_at_call 73;refine (hC.out _ hb2.out).mono ?_;rintro z w5 ⟨v5,rfl,h5,k5⟩;replace h5:=lhi h5;replace k5:=lhi ((ChP.of_below hb2.out).trans k5))
   | (go_at_call 44;refine (put_yes T y _).mono ?_;rintro z w6 ⟨rfl,rfl⟩))
  go_ret
  exact ⟨v5,rfl,h5.out,k5.out⟩
end
theorem abranch_bad {w : World} {B T : Nat} {A : Option Addr} {n c : Nat} {l : List UInt8} {v : Value} {ns : List Nod} {g i : Nat} {cl : Nat → Bool} {e : Nat} (h : Psr w B T A n c l v ns g i cl e) (he : e ≠ 0) (b : Bool) (pv : Value) :
    Calls Tryz.prog 49 #[.pointer (some ⟨T,0,none⟩),.bool b,pv] w fun x w' => x = .returned (.int .i64 (-1)) ∧ w = w':=by
 have hF:=lhi (fine_any h)
 rw [decide_eq_false he] at hF
 clear h he
 go_enter Tryz.func49,Tryz.ntmps49
 go_wp2_with (go_at_call 39;refine (hF.out).mono ?_;rintro e w1 ⟨rfl,rfl⟩)
 go_ret
 exact ⟨rfl,rfl⟩
def noCl : Nat → Bool:=fun _ => false
theorem new_any (A : Option Addr) (n c : Nat) (w : World) : Calls Tryz.prog 24 #[.slice A n c] w fun e w' => e = .returned (.agg (psrC (.slice none 0 0) 0 A n c 0 noCl 0)) ∧ Below w.heap.size w w':=by
 go_enter Tryz.func24,Tryz.ntmps24
 go_wp2
 exact bodyPost_ret (v:=.agg (psrC (.slice none 0 0) 0 A n c 0 noCl 0)) (results_cell_row Tryz.results24 _ _ w.heap.size 58 (psrC (.slice none 0 0) 0 A n c 0 noCl 0) (0,0) _ rfl (held_new w 58 _) Tryz.underlying58 rfl (by kernel_rfl)) rfl ⟨rfl,(Below.refl _ _).alloc (nlr _) _⟩
section
variable {w : World} {B T : Nat} {A : Option Addr} {n c : Nat} {l : List UInt8} {v : Value} {ns : List Nod} {g i : Nat} {cl : Nat → Bool} {e : Nat}
theorem told_bad (h : Psr w B T A n c l v ns g i cl e) (he : e ≠ 0) (x : Int) :
    Calls Tryz.prog 26 #[.pointer (some ⟨T,0,none⟩),.int .i64 x] w fun z w' => z = .returned (.tuple #[.agg #[.slice none 0 0,.int .i64 0],.int .i64 (i : Int),.int .i64 (e : Int)]) ∧ Below w.heap.size w w':=by
 have hb0 : Below w.heap.size w (w.alloc (.cells #[.slice none 0 0,.int .i64 0] 26)):=(Below.refl _ _).alloc (nlr _) _
 have h0:=h.keep hb0
 have c3:=h0.c3
 have c14:=h0.c14
 have hTl:=h.lt
 have hTn : T ≠ w.heap.size:=by omega
 have hF:=lhi (fine_any h0)
 rw [decide_eq_false he] at hF
 have hR:=lhi (held_new w 26 #[.slice none 0 0,.int .i64 0])
 have hT2:=lhi (show (w.alloc (.cells #[.slice none 0 0,.int .i64 0] 26)).drew.cell? ⟨T,3,none⟩ = some (.int .i64 (i : Int)) ∧ (w.alloc (.cells #[.slice none 0 0,.int .i64 0] 26)).drew.cell? ⟨T,14,none⟩ = some (.int .i64 (e : Int)) from ⟨c3,c14⟩)
 replace hb0:=lhi hb0
 clear h h0 he
 go_enter Tryz.func26,Tryz.ntmps26
 go_wp2_with (go_at_call 39;refine (hF.out).mono ?_;rintro e w1 ⟨rfl,rfl⟩)
 go_region_held3 (fun w' => w'.cell? ⟨T,3,none⟩ = some (.int .i64 (i : Int)) ∧ w'.cell? ⟨T,14,none⟩ = some (.int .i64 (e : Int)))
  (first | with_reducible exact hT2.out | with_reducible exact ⟨cell_far2 hT2.out.1 hTn,cell_far2 hT2.out.2 hTn⟩ | go_keep)
  (fail)
 all_goals
  go_wp2
  exact bodyPost_ret (v:=.tuple #[.agg #[.slice none 0 0,.int .i64 0],.int .i64 (i : Int),.int .i64 (e : Int)]) (results_cell_three Tryz.results26 _ _ w.heap.size 26 #[.slice none 0 0,.int .i64 0] (0,0) _ rfl rfl rfl (by first | exact hR.out | exact ((hR.out.put 0 _).put 1 _)) Tryz.underlying26 rfl (by kernel_rfl)) rfl
   ⟨rfl,by first | exact hb0.out.drew | exact ((hb0.out.setCell (p:=⟨w.heap.size,0,none⟩) (nlr _) _).setCell (p:=⟨w.heap.size,1,none⟩) (nlr _) _).drew⟩
theorem told_ok (h : Psr w B T A n c l v ns g i cl 0) (hr : rightN ns (g : Int) = true) (h1 : 1 ≤ ns.length) (x : Int) (hx : x = (ns.length : Int) - 1) :
    Calls Tryz.prog 26 #[.pointer (some ⟨T,0,none⟩),.int .i64 x] w fun z w' => ∃ v',z = .returned (.tuple #[.agg #[v',.int .i64 (g : Int)],.int .i64 0,.int .i64 0]) ∧ w'.ownsRow w.heap.size 43 10 v' ns.length (nodsL ns) ∧ Below w.heap.size w w':=by
 have hb0 : Below w.heap.size w (w.alloc (.cells #[.slice none 0 0,.int .i64 0] 26)):=(Below.refl _ _).alloc (nlr _) _
 have h0:=h.keep hb0
 have hF:=lhi (fine_any h0)
 rw [decide_eq_true rfl] at hF
 have hR:=lhi (held_new w 26 #[.slice none 0 0,.int .i64 0])
 have hre:=re_yes B T 0 v ns g (ns.length - 1) _ h0.bldr (by omega) (by rw [show ns.length - 1 + 1 = ns.length by omega,List.take_length];exact hr)
 rw [show ns.length - 1 + 1 = ns.length by omega,List.take_length,show ((ns.length - 1 : Nat) : Int) = x by omega] at hre
 replace hre:=lhi hre
 replace hb0:=lhi hb0
 clear h h0 hr hx
 go_enter Tryz.func26,Tryz.ntmps26
 go_wp2_with (first
  | (go_at_call 39;refine (hF.out).mono ?_;rintro e w1 ⟨rfl,rfl⟩)
  | (go_at_call 40;refine (hre.out).mono ?_;rintro y w4 ⟨v4,rfl,ho4,hb4⟩;obtain ⟨A4,c4,rfl,-,-,-,-⟩:=own_nods ho4;replace ho4:=lhi ho4;have hR4:=lhi ((hR.out.keep hb4).alloc (.cells #[.slice A4 ns.length c4,.int .i64 (g : Int)] 26));have z:=hR4.out.at_ (i:=0) rfl;have z1:=hR4.out.at_ (i:=1) rfl;have y0:=hR4.out.thawed 0;have y1:=hR4.out.thawed 1;replace hb4:=lhi (hb0.out.trans (hb4.mono hb0.out.size))))
 have hown : ((w4.alloc (.cells #[.slice A4 ns.length c4,.int .i64 (g : Int)] 26)).setCell ⟨w.heap.size,0,none⟩ (.slice A4 ns.length c4)).setCell ⟨w.heap.size,1,none⟩ (.int .i64 (g : Int)) |>.ownsRow w.heap.size 43 10 (.slice A4 ns.length c4) ns.length (nodsL ns) :=
  own_low (own_far (hR4.out.put 0 (.slice A4 ns.length c4)) (by decide) (own_far hR4.out (by decide) (own_below ho4.out ((Below.refl _ _).alloc (nlr _) _)) 0 _) 1 _) hb0.out.size
 exact bodyPost_ret (v:=.tuple #[.agg #[.slice A4 ns.length c4,.int .i64 (g : Int)],.int .i64 0,.int .i64 0]) (results_cell_three Tryz.results26 _ _ w.heap.size 26 #[.slice A4 ns.length c4,.int .i64 (g : Int)] (0,0) _ rfl rfl rfl ((hR4.out.put 0 _).put 1 _) Tryz.underlying26 rfl (by kernel_rfl)) rfl
  ⟨_,rfl,hown,((hb4.out.alloc hb4.out.size _).setCell (p:=⟨w.heap.size,0,none⟩) (nlr _) _).setCell (p:=⟨w.heap.size,1,none⟩) (nlr _) _⟩
end
end Go.Proofs.YtonjnagcdnmcpaaGreatDoor
