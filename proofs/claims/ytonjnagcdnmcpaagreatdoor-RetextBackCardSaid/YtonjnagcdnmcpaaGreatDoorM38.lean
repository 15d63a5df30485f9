/- Contracts and plain facts: M38. -/
import Derived.Test.YtonjnagcdnmcpaaGreatDoorM48
set_option linter.unusedVariables false
set_option linter.unusedSimpArgs false
set_option maxRecDepth 100000
set_option maxHeartbeats 32000000
namespace Go.Proofs.YtonjnagcdnmcpaaGreatDoor
open Go.RowKit
theorem nodV_all : nodV (setN allS) = .agg #[.int .i64 1,.int .i64 0,.int .i64 0,.int .i64 0,.int .i64 0,.int .i64 0,.int .u64 18446744073709551615,.int .u64 18446744073709551615,.int .u64 18446744073709551615,.int .u64 18446744073709551615]:=by
 have h:=setC_all
 rw [setC_lit] at h
 rw [show nodV (setN allS) = _ from nodV_lit 1 0 0 0 0 0 allS]
 simp only [Array.mk.injEq,List.cons.injEq,and_true] at h
 obtain ⟨h0,h1,h2,h3⟩:=h
 rw [h0,h1,h2,h3]
def Kind (l : List UInt8) (i : Nat) (x : UInt8) (d z1 z2 : Int) : Prop :=
 d = 91 ∨ (d = 46 ∧ atomA l i = .nod (i + 1) (setN allS)) ∨ (d = 36 ∧ z1 = -1 ∧ atomA l i = .nod (i + 1) eolN) ∨ (d = 36 ∧ z1 = 92 ∧ z2 = 41 ∧ atomA l i = .nod (i + 1) eolN) ∨
 (d = 36 ∧ ¬ z1 < 0 ∧ (z1 == 92) = false ∧ atomA l i = .nod (i + 1) (setN (oneF x))) ∨ (d = 36 ∧ z1 = 92 ∧ (z2 == 41) = false ∧ atomA l i = .nod (i + 1) (setN (oneF x))) ∨
 ((d == 91) = false ∧ (d == 46) = false ∧ (d == 36) = false ∧ atomA l i = .nod (i + 1) (setN (oneF x)))
theorem kind_of {l : List UInt8} {i : Nat} {x : UInt8} {r : List UInt8} (hx : l.drop i = x :: r) (h92 : x ≠ 92) : Kind l i x (x.toNat : Int) (nx l (i + 1)) (nx l (i + 2)):=by
 have e1 : nx l (i + 1) = nx r 0:=by rw [nx_drop,hx,nx_succ]
 have e2 : nx l (i + 2) = nx r 1:=by rw [nx_drop,hx,nx_succ]
 rw [e1,e2]
 have ha : atomA l i = atomR l i (x :: r):=atom_at hx
 unfold Kind
 rw [ha]
 simp only [atomR]
 rw [if_neg h92]
 by_cases h91 : x = 91
 · subst h91;exact .inl rfl
 by_cases h46 : x = 46
 · subst h46;exact .inr (.inl ⟨rfl,rfl⟩)
 rw [if_neg h91,if_neg h46]
 by_cases h36 : x = 36
 · subst h36
   cases r with
   | nil => exact .inr (.inr (.inl ⟨rfl,rfl,by rw [if_pos ⟨rfl,.inl rfl⟩]⟩))
   | cons y q =>
    rw [nx_zero,nx_succ]
    by_cases hy : y = 92
    · subst hy
      by_cases hz : bg [41] q = true
      · refine .inr (.inr (.inr (.inl ⟨rfl,rfl,?_,?_⟩)))
        · exact (nx_eq q 41).mpr hz
        · rw [if_pos ⟨rfl,.inr (by rw [bg_cons,hz];rfl)⟩]
      · refine .inr (.inr (.inr (.inr (.inr (.inl ⟨rfl,rfl,?_,?_⟩)))))
        · rw [bef];exact fun e => hz ((nx_eq q 41).mp e)
        · rw [if_neg (by
                                              rintro ⟨-,h | h⟩
                                              · cases h
                                              · rw [bg_cons] at h;simp only [Bool.and_eq_true] at h;exact hz h.2),ofL_one]
    · refine .inr (.inr (.inr (.inr (.inl ⟨rfl,by omega,u8_ne hy,?_⟩))))
      rw [if_neg (by
                                        rintro ⟨-,h | h⟩
                                        · cases h
                                        · rw [bg_cons] at h;simp only [Bool.and_eq_true,beq_iff_eq] at h;exact hy h.1.symm),ofL_one]
 · refine .inr (.inr (.inr (.inr (.inr (.inr ⟨u8_ne h91,u8_ne h46,u8_ne h36,?_⟩)))))
   rw [if_neg (fun e => h36 e.1),ofL_one]
section
variable {w : World} {B T : Nat} {A : Option Addr} {n c : Nat} {l : List UInt8} {v : Value} {ns : List Nod} {g i : Nat} {cl : Nat → Bool} (h : Rdr w B T A n c l v ns g i cl 0) {inG : Bool}
include h
theorem rpiece_else {first : Bool} {x : UInt8} {r : List UInt8} (hx : l.drop i = x :: r) (h92 : x ≠ 92) :
    Calls Tryz.prog 54 #[.pointer (some ⟨T,0,none⟩),.bool first] w (RNode true w B T A n c l v ns g i cl inG):=by
 obtain ⟨hi,hx1,hd⟩:=drop_at hx
 have hns : n ≤ 1000000:=h.txt.2.2.2.1
 have hi1 : i + 1 ≤ n:=by have:=h.hn;omega
 have hi0 : (i : Int) ≤ 1000000:=by omega
 have hTl:=lhi h.lt
 have hc : inG = true → bg [92,41] (l.drop i) = false:=fun _ => by
  rw [hx,bg_cons]
  have : ((92 : UInt8) == x) = false:=by rw [bef];exact fun e => h92 e.symm
  rw [this];rfl
 have hN0:=lhi (next_at h 0 0 rfl (by decide))
 have hN1:=lhi (fun w3 (hb : Below w.heap.size w w3) => next_at (h.keep hb) 1 1 rfl (by decide))
 have hN2:=lhi (fun w3 (hb : Below w.heap.size w w3) => next_at (h.keep hb) 2 2 rfl (by decide))
 rw [show nx l (i + 0) = (x.toNat : Int) from nx_some hx1] at hN0
 have hR:=lhi (fun w3 (hb : Below w.heap.size w w3) => h.keep hb)
 have hxl : x.toNat < 256:=UInt8.toNat_lt x
 have hw8 : IntKind.u8.wrap (x.toNat : Int) = (x.toNat : Int):=IntWalk.u8_in _ (by omega)
 have hO:=lhi (fun w => refOne_any x w)
 have hAny:=lhi refAny_any
 rw [setC_all] at hAny
 have hBk:=lhi (fun (e : (x.toNat : Int) = 91) w3 (hb : Below w.heap.size w w3) => rbracket_any (inG:=inG) (h.keep hb) (r:=r) (by rw [hx,show x = 91 from UInt8.toNat_inj.1 (show x.toNat = 91 by omega)]) hc)
 have hU:=lhi (fun w1 (h1 : Rdr w1 B T A n c l v ns g (i + 1) cl 0) => rput_any h1 (setN (oneF x)) (fits_set _ _ _))
 have hUa:=lhi (fun w1 (h1 : Rdr w1 B T A n c l v ns g (i + 1) cl 0) => rput_any h1 (setN allS) (fits_set _ _ _))
 have hUe:=lhi (fun w1 (h1 : Rdr w1 B T A n c l v ns g (i + 1) cl 0) => rput_any h1 eolN (fits_plain 8 (.inr (.inr rfl)) _ _))
 have hfin:=lhi (fun (nd : Nod) (ha : atomA l i = .nod (i + 1) nd) (w' : World) (z : Ending) (y : RPut w B T A n c l v ns g (i + 1) cl nd z w') => y.node (inG:=inG) hi hc ha (by omega))
 obtain ⟨s0,s1,s2,s3,es,en⟩:=set_lit (oneF x)
 rw [es] at hO
 rw [en] at hU
 rw [nodV_all] at hUa
 rw [show nodV eolN = _ from nodV_z 8 0 0 0 0 0] at hUe
 have hk:=lhi (kind_of hx h92)
 have e92 : ((x.toNat : Int) == 92) = false:=u8_ne h92
 clear h hx hx1 hd hi hc es en h92 hxl
 generalize (x.toNat : Int) = d at *
 generalize nx l (i + 1) = z1 at *
 generalize nx l (i + 2) = z2 at *
 go_enter Tryz.func54,Tryz.ntmps54
 go_upto_if 33 with (go_at_call 51;refine (hN0.out).mono ?_;rintro e w1 ⟨rfl,hb1⟩;replace hb1:=lhi hb1)
 clear hN0
 go_cut [6,7] from 34 to 80 (fun s6 s7 wx => RNode false w B T A n c l v ns g i cl inG (.returned s6) wx)
 case first =>
  rcases hk.out with rfl | ⟨rfl,ha⟩ | ⟨rfl,rfl,ha⟩ | ⟨rfl,rfl,rfl,ha⟩ | ⟨rfl,e1,e2,ha⟩ | ⟨rfl,rfl,e2,ha⟩ | ⟨e1,e2,e3,ha⟩
  · replace hBk:=lhi (hBk.out rfl _ hb1.out)
    go_wp2_with (go_at_call 76;refine (hBk.out).mono ?_;intro x w4 hy;obtain ⟨z,rfl,hy⟩:=hy.ret;replace hy:=lhi (hy.from (ChP.of_below hb1.out)))
    go_meet
    exact hy.out
  · replace hfin:=lhi (hfin.out _ ha)
    clear ha hU hUe hBk hN1 hN2
    go_wp2_with (first
     | (go_at_call 14;refine (hO.out _).mono ?_;rintro e w3 ⟨rfl,hb3⟩;replace hb3:=hb1.out.trans (hb3.mono hb1.out.size);have h3:=hR.out _ hb3;have c1:=h3.c1;have t1:=h3.thawed 1;have hT3:=h3.lt;have hTG : T ≠ w3.heap.size:=Nat.ne_of_lt hT3;have hTG' : ¬ w3.heap.size = T:=fun e => hTG e.symm;have hG3:=lhi hb3.size;have hG:=lhi (held_new w3 43 #[.int .i64 1,.int .i64 0,.int .i64 0,.int .i64 0,.int .i64 0,.int .i64 0,.int .u64 (s0 : Int),.int .u64 (s1 : Int),.int .u64 (s2 : Int),.int .u64 (s3 : Int)]);have hbG:=lhi (hb3.alloc hb3.size (.cells #[.int .i64 1,.int .i64 0,.int .i64 0,.int .i64 0,.int .i64 0,.int .i64 0,.int .u64 (s0 : Int),.int .u64 (s1 : Int),.int .u64 (s2 : Int),.int .u64 (s3 : Int)] 43));have hbw3:=lhi hb3;clear h3 hb3)
     | (go_at_call 77;refine (hAny.out _).mono ?_;rintro e w5 ⟨rfl,hb5⟩;have hG5:=hG.out.keep hb5;replace hbG:=lhi (hbG.out.trans (hb5.mono hbG.out.size));have c1b:=(hR.out _ hbG.out).c1;have t1b:=(hR.out _ hbG.out).thawed 1;have ⟨n0,n1,n2,n3,n4,n5,n6,n7,n8,n9⟩:=hG5.cells10;have f0:=hG5.thawed 0;have f1:=hG5.thawed 1;have f2:=hG5.thawed 2;have f3:=hG5.thawed 3;have f4:=hG5.thawed 4;have f5:=hG5.thawed 5;have f6:=hG5.thawed 6;have f7:=hG5.thawed 7;have f8:=hG5.thawed 8;have f9:=hG5.thawed 9;replace hG:=lhi hG5;clear hG5 hb5;have hb6:=lhi ((((hbG.out.setCell (p:=⟨w3.heap.size,6,none⟩) hG3.out (.int .u64 18446744073709551615)).setCell (p:=⟨w3.heap.size,7,none⟩) hG3.out (.int .u64 18446744073709551615)).setCell (p:=⟨w3.heap.size,8,none⟩) hG3.out (.int .u64 18446744073709551615)).setCell (p:=⟨w3.heap.size,9,none⟩) hG3.out (.int .u64 18446744073709551615)))
     | (go_at_call 30;refine (hUa.out _ ((hR.out _ hb6.out).goto hi1 (z:=(i : Int) + 1) (by omega))).mono ?_;intro y w8 hy;obtain ⟨z,rfl,hy⟩:=hy.ret;replace hy:=lhi (hfin.out _ _ (hy.from ((ChP.of_below hb6.out).trans (ChP.store _ T 1 (.int .i64 ((i : Int) + 1)) v))))))
    go_meet
    exact hy.out
  · replace hfin:=lhi (hfin.out _ ha)
    clear ha hU hUa hBk hAny hN2
    go_wp2_with (first
     | (go_at_call 14;refine (hO.out _).mono ?_;rintro e w3 ⟨rfl,hb3⟩;replace hb3:=hb1.out.trans (hb3.mono hb1.out.size);have h3:=hR.out _ hb3;have c1:=h3.c1;have t1:=h3.thawed 1;have hT3:=h3.lt;have hTG : T ≠ w3.heap.size:=Nat.ne_of_lt hT3;have hTG' : ¬ w3.heap.size = T:=fun e => hTG e.symm;have hG3:=lhi hb3.size;have hG:=lhi (held_new w3 43 #[.int .i64 1,.int .i64 0,.int .i64 0,.int .i64 0,.int .i64 0,.int .i64 0,.int .u64 (s0 : Int),.int .u64 (s1 : Int),.int .u64 (s2 : Int),.int .u64 (s3 : Int)]);have hbG:=lhi (hb3.alloc hb3.size (.cells #[.int .i64 1,.int .i64 0,.int .i64 0,.int .i64 0,.int .i64 0,.int .i64 0,.int .u64 (s0 : Int),.int .u64 (s1 : Int),.int .u64 (s2 : Int),.int .u64 (s3 : Int)] 43));have hbw3:=lhi hb3;clear h3 hb3)
     | (go_at_call 51;(with_reducible show Calls _ _ _ (w3.alloc _) _);refine (hN1.out _ hbG.out).mono ?_;rintro e w5 ⟨rfl,hb5⟩;have hG5:=hG.out.keep hb5;replace hbG:=lhi (hbG.out.trans (hb5.mono hbG.out.size));have c1b:=(hR.out _ hbG.out).c1;have t1b:=(hR.out _ hbG.out).thawed 1;have ⟨n0,n1,n2,n3,n4,n5,n6,n7,n8,n9⟩:=hG5.cells10;have f0:=hG5.thawed 0;have f1:=hG5.thawed 1;have f2:=hG5.thawed 2;have f3:=hG5.thawed 3;have f4:=hG5.thawed 4;have f5:=hG5.thawed 5;have f6:=hG5.thawed 6;have f7:=hG5.thawed 7;have f8:=hG5.thawed 8;have f9:=hG5.thawed 9;replace hG:=lhi hG5;clear hG5 hb5;have hb6:=lhi ((((((((((hbG.out.setCell (p:=⟨w3.heap.size,0,none⟩) hG3.out (.int .i64 8)).setCell (p:=⟨w3.heap.size,1,none⟩) hG3.out (.int .i64 0)).setCell (p:=⟨w3.heap.size,2,none⟩) hG3.out (.int .i64 0)).setCell (p:=⟨w3.heap.size,3,none⟩) hG3.out (.int .i64 0)).setCell (p:=⟨w3.heap.size,4,none⟩) hG3.out (.int .i64 0)).setCell (p:=⟨w3.heap.size,5,none⟩) hG3.out (.int .i64 0)).setCell (p:=⟨w3.heap.size,6,none⟩) hG3.out (.int .u64 0)).setCell (p:=⟨w3.heap.size,7,none⟩) hG3.out (.int .u64 0)).setCell (p:=⟨w3.heap.size,8,none⟩) hG3.out (.int .u64 0)).setCell (p:=⟨w3.heap.size,9,none⟩) hG3.out (.int .u64 0)))
     | (go_at_call 30;refine (hUe.out _ ((hR.out _ hb6.out).goto hi1 (z:=(i : Int) + 1) (by omega))).mono ?_;intro y w8 hy;obtain ⟨z,rfl,hy⟩:=hy.ret;replace hy:=lhi (hfin.out _ _ (hy.from ((ChP.of_below hb6.out).trans (ChP.store _ T 1 (.int .i64 ((i : Int) + 1)) v))))))
    go_meet
    exact hy.out
  · replace hfin:=lhi (hfin.out _ ha)
    clear ha hU hUa hBk hAny
    go_wp2_with (first
     | (go_at_call 14;refine (hO.out _).mono ?_;rintro e w3 ⟨rfl,hb3⟩;replace hb3:=hb1.out.trans (hb3.mono hb1.out.size);have h3:=hR.out _ hb3;have c1:=h3.c1;have t1:=h3.thawed 1;have hT3:=h3.lt;have hTG : T ≠ w3.heap.size:=Nat.ne_of_lt hT3;have hTG' : ¬ w3.heap.size = T:=fun e => hTG e.symm;have hG3:=lhi hb3.size;have hG:=lhi (held_new w3 43 #[.int .i64 1,.int .i64 0,.int .i64 0,.int .i64 0,.int .i64 0,.int .i64 0,.int .u64 (s0 : Int),.int .u64 (s1 : Int),.int .u64 (s2 : Int),.int .u64 (s3 : Int)]);have hbG:=lhi (hb3.alloc hb3.size (.cells #[.int .i64 1,.int .i64 0,.int .i64 0,.int .i64 0,.int .i64 0,.int .i64 0,.int .u64 (s0 : Int),.int .u64 (s1 : Int),.int .u64 (s2 : Int),.int .u64 (s3 : Int)] 43));have hbw3:=lhi hb3;clear h3 hb3)
     | (go_at_call 51;(with_reducible show Calls _ _ _ (w3.alloc _) _);refine (hN1.out _ hbG.out).mono ?_;rintro e w5 ⟨rfl,hb5⟩;have hG5:=hG.out.keep hb5;replace hbG:=lhi (hbG.out.trans (hb5.mono hbG.out.size));replace hG:=lhi hG5;clear hG5 hb5)
     | (go_at_call 51;(with_reducible show Calls _ _ _ w5 _);refine (hN1.out _ hbG.out).mono ?_;rintro e w6 ⟨rfl,hb5⟩;have hG5:=hG.out.keep hb5;replace hbG:=lhi (hbG.out.trans (hb5.mono hbG.out.size));replace hG:=lhi hG5;clear hG5 hb5)
     | (go_at_call 51;(with_reducible show Calls _ _ _ w6 _);refine (hN2.out _ hbG.out).mono ?_;rintro e w7 ⟨rfl,hb5⟩;have hG5:=hG.out.keep hb5;replace hbG:=lhi (hbG.out.trans (hb5.mono hbG.out.size));have c1b:=(hR.out _ hbG.out).c1;have t1b:=(hR.out _ hbG.out).thawed 1;have ⟨n0,n1,n2,n3,n4,n5,n6,n7,n8,n9⟩:=hG5.cells10;have f0:=hG5.thawed 0;have f1:=hG5.thawed 1;have f2:=hG5.thawed 2;have f3:=hG5.thawed 3;have f4:=hG5.thawed 4;have f5:=hG5.thawed 5;have f6:=hG5.thawed 6;have f7:=hG5.thawed 7;have f8:=hG5.thawed 8;have f9:=hG5.thawed 9;replace hG:=lhi hG5;clear hG5 hb5;have hb6:=lhi ((((((((((hbG.out.setCell (p:=⟨w3.heap.size,0,none⟩) hG3.out (.int .i64 8)).setCell (p:=⟨w3.heap.size,1,none⟩) hG3.out (.int .i64 0)).setCell (p:=⟨w3.heap.size,2,none⟩) hG3.out (.int .i64 0)).setCell (p:=⟨w3.heap.size,3,none⟩) hG3.out (.int .i64 0)).setCell (p:=⟨w3.heap.size,4,none⟩) hG3.out (.int .i64 0)).setCell (p:=⟨w3.heap.size,5,none⟩) hG3.out (.int .i64 0)).setCell (p:=⟨w3.heap.size,6,none⟩) hG3.out (.int .u64 0)).setCell (p:=⟨w3.heap.size,7,none⟩) hG3.out (.int .u64 0)).setCell (p:=⟨w3.heap.size,8,none⟩) hG3.out (.int .u64 0)).setCell (p:=⟨w3.heap.size,9,none⟩) hG3.out (.int .u64 0)))
     | (go_at_call 30;refine (hUe.out _ ((hR.out _ hb6.out).goto hi1 (z:=(i : Int) + 1) (by omega))).mono ?_;intro y w8 hy;obtain ⟨z,rfl,hy⟩:=hy.ret;replace hy:=lhi (hfin.out _ _ (hy.from ((ChP.of_below hb6.out).trans (ChP.store _ T 1 (.int .i64 ((i : Int) + 1)) v))))))
    go_meet
    exact hy.out
  · replace hfin:=lhi (hfin.out _ ha)
    clear ha hUe hUa hBk hAny hN2
    go_wp2_with (first
     | (go_at_call 14;refine (hO.out _).mono ?_;rintro e w3 ⟨rfl,hb3⟩;replace hb3:=hb1.out.trans (hb3.mono hb1.out.size);have h3:=hR.out _ hb3;have c1:=h3.c1;have t1:=h3.thawed 1;have hT3:=h3.lt;have hTG : T ≠ w3.heap.size:=Nat.ne_of_lt hT3;have hTG' : ¬ w3.heap.size = T:=fun e => hTG e.symm;have hG3:=lhi hb3.size;have hG:=lhi (held_new w3 43 #[.int .i64 1,.int .i64 0,.int .i64 0,.int .i64 0,.int .i64 0,.int .i64 0,.int .u64 (s0 : Int),.int .u64 (s1 : Int),.int .u64 (s2 : Int),.int .u64 (s3 : Int)]);have hbG:=lhi (hb3.alloc hb3.size (.cells #[.int .i64 1,.int .i64 0,.int .i64 0,.int .i64 0,.int .i64 0,.int .i64 0,.int .u64 (s0 : Int),.int .u64 (s1 : Int),.int .u64 (s2 : Int),.int .u64 (s3 : Int)] 43));have hbw3:=lhi hb3;clear h3 hb3)
     | (go_at_call 51;(with_reducible show Calls _ _ _ (w3.alloc _) _);refine (hN1.out _ hbG.out).mono ?_;rintro e w5 ⟨rfl,hb5⟩;have hG5:=hG.out.keep hb5;replace hbG:=lhi (hbG.out.trans (hb5.mono hbG.out.size));replace hG:=lhi hG5;clear hG5 hb5)
     | (go_at_call 51;(with_reducible show Calls _ _ _ w5 _);refine (hN1.out _ hbG.out).mono ?_;rintro e w6 ⟨rfl,hb5⟩;have hG5:=hG.out.keep hb5;replace hbG:=lhi (hbG.out.trans (hb5.mono hbG.out.size));have c1b:=(hR.out _ hbG.out).c1;have t1b:=(hR.out _ hbG.out).thawed 1;have ⟨n0,n1,n2,n3,n4,n5,n6,n7,n8,n9⟩:=hG5.cells10;have f0:=hG5.thawed 0;have f1:=hG5.thawed 1;have f2:=hG5.thawed 2;have f3:=hG5.thawed 3;have f4:=hG5.thawed 4;have f5:=hG5.thawed 5;have f6:=hG5.thawed 6;have f7:=hG5.thawed 7;have f8:=hG5.thawed 8;have f9:=hG5.thawed 9;replace hG:=lhi hG5;clear hG5 hb5)
     | (go_at_call 30;refine (hU.out _ ((hR.out _ hbG.out).goto hi1 (z:=(i : Int) + 1) (by omega))).mono ?_;intro y w8 hy;obtain ⟨z,rfl,hy⟩:=hy.ret;replace hy:=lhi (hfin.out _ _ (hy.from ((ChP.of_below hbG.out).trans (ChP.store _ T 1 (.int .i64 ((i : Int) + 1)) v))))))
    go_meet
    exact hy.out
  · replace hfin:=lhi (hfin.out _ ha)
    clear ha hUe hUa hBk hAny
    go_wp2_with (first
     | (go_at_call 14;refine (hO.out _).mono ?_;rintro e w3 ⟨rfl,hb3⟩;replace hb3:=hb1.out.trans (hb3.mono hb1.out.size);have h3:=hR.out _ hb3;have c1:=h3.c1;have t1:=h3.thawed 1;have hT3:=h3.lt;have hTG : T ≠ w3.heap.size:=Nat.ne_of_lt hT3;have hTG' : ¬ w3.heap.size = T:=fun e => hTG e.symm;have hG3:=lhi hb3.size;have hG:=lhi (held_new w3 43 #[.int .i64 1,.int .i64 0,.int .i64 0,.int .i64 0,.int .i64 0,.int .i64 0,.int .u64 (s0 : Int),.int .u64 (s1 : Int),.int .u64 (s2 : Int),.int .u64 (s3 : Int)]);have hbG:=lhi (hb3.alloc hb3.size (.cells #[.int .i64 1,.int .i64 0,.int .i64 0,.int .i64 0,.int .i64 0,.int .i64 0,.int .u64 (s0 : Int),.int .u64 (s1 : Int),.int .u64 (s2 : Int),.int .u64 (s3 : Int)] 43));have hbw3:=lhi hb3;clear h3 hb3)
     | (go_at_call 51;(with_reducible show Calls _ _ _ (w3.alloc _) _);refine (hN1.out _ hbG.out).mono ?_;rintro e w5 ⟨rfl,hb5⟩;have hG5:=hG.out.keep hb5;replace hbG:=lhi (hbG.out.trans (hb5.mono hbG.out.size));replace hG:=lhi hG5;clear hG5 hb5)
     | (go_at_call 51;(with_reducible show Calls _ _ _ w5 _);refine (hN1.out _ hbG.out).mono ?_;rintro e w6 ⟨rfl,hb5⟩;have hG5:=hG.out.keep hb5;replace hbG:=lhi (hbG.out.trans (hb5.mono hbG.out.size));replace hG:=lhi hG5;clear hG5 hb5)
     | (go_at_call 51;(with_reducible show Calls _ _ _ w6 _);refine (hN2.out _ hbG.out).mono ?_;rintro e w7 ⟨rfl,hb5⟩;have hG5:=hG.out.keep hb5;replace hbG:=lhi (hbG.out.trans (hb5.mono hbG.out.size));have c1b:=(hR.out _ hbG.out).c1;have t1b:=(hR.out _ hbG.out).thawed 1;have ⟨n0,n1,n2,n3,n4,n5,n6,n7,n8,n9⟩:=hG5.cells10;have f0:=hG5.thawed 0;have f1:=hG5.thawed 1;have f2:=hG5.thawed 2;have f3:=hG5.thawed 3;have f4:=hG5.thawed 4;have f5:=hG5.thawed 5;have f6:=hG5.thawed 6;have f7:=hG5.thawed 7;have f8:=hG5.thawed 8;have f9:=hG5.thawed 9;replace hG:=lhi hG5;clear hG5 hb5)
     | (go_at_call 30;refine (hU.out _ ((hR.out _ hbG.out).goto hi1 (z:=(i : Int) + 1) (by omega))).mono ?_;intro y w8 hy;obtain ⟨z,rfl,hy⟩:=hy.ret;replace hy:=lhi (hfin.out _ _ (hy.from ((ChP.of_below hbG.out).trans (ChP.store _ T 1 (.int .i64 ((i : Int) + 1)) v))))))
    go_meet
    exact hy.out
  · replace hfin:=lhi (hfin.out _ ha)
    clear ha hUe hUa hBk hAny hN1 hN2
    go_wp2_with (first
     | (go_at_call 14;refine (hO.out _).mono ?_;rintro e w3 ⟨rfl,hb3⟩;replace hb3:=hb1.out.trans (hb3.mono hb1.out.size);have h3:=hR.out _ hb3;have c1:=h3.c1;have t1:=h3.thawed 1;have hT3:=h3.lt;have hTG : T ≠ w3.heap.size:=Nat.ne_of_lt hT3;have hTG' : ¬ w3.heap.size = T:=fun e => hTG e.symm;have hG3:=lhi hb3.size;have hG:=lhi (held_new w3 43 #[.int .i64 1,.int .i64 0,.int .i64 0,.int .i64 0,.int .i64 0,.int .i64 0,.int .u64 (s0 : Int),.int .u64 (s1 : Int),.int .u64 (s2 : Int),.int .u64 (s3 : Int)]);have hbG:=lhi (hb3.alloc hb3.size (.cells #[.int .i64 1,.int .i64 0,.int .i64 0,.int .i64 0,.int .i64 0,.int .i64 0,.int .u64 (s0 : Int),.int .u64 (s1 : Int),.int .u64 (s2 : Int),.int .u64 (s3 : Int)] 43));have hbw3:=lhi hb3;clear h3 hb3)
     | (go_at_call 30;refine (hU.out _ (((hR.out _ hbw3.out).goto hi1 (z:=(i : Int) + 1) (by omega)).keep ((Below.refl _ _).alloc (nlr _) _))).mono ?_;intro y w8 hy;obtain ⟨z,rfl,hy⟩:=hy.ret;replace hy:=lhi (hfin.out _ _ (hy.from (((ChP.of_below hbw3.out).trans (ChP.store w3 T 1 (.int .i64 ((i : Int) + 1)) v)).trans (ChP.of_below ((Below.refl _ _).alloc (nlr _) _)))))))
    go_meet
    exact hy.out
 case rest =>
  clear hk hfin hU hUa hUe hO hAny hBk hN1 hN2 e92 hw8
  replace hcut:=lhi hcut
  go_wp2
  go_loopw [6,8,9,10,11] (fun a _ _ _ _ wr => RNode false w B T A n c l v ns g i cl inG (.returned a) wr) (fun _ _ _ _ _ wr => leftR n T wr)
  case atStart => exact hcut.out
  case round =>
   clear hcut
   rcases hrel with ⟨x,v2,ns2,g2,i2,cl2,ea,ok2,h2,k2,q1,q2,q3,-,q4⟩ | ⟨x,v2,ns2,g2,i2,cl2,e2,he2,ea,h2,k2,q4⟩
   · obtain rfl:=(Ending.returned.inj ea)
     clear ea
     have c2:=h2.c2
     have hle:=h2.le
     have hi2 : (i2 : Int) ≤ 1000000:=by omega
     have hnl:=h2.hn
     have hP:=lhi (fun w3 (hb : Below wr.heap.size wr w3) => h2.keep hb)
     have hN0:=lhi (fun w3 (hb : Below wr.heap.size wr w3) => next_at (h2.keep hb) 0 0 rfl (by decide))
     have hN1:=lhi (fun w3 (hb : Below wr.heap.size wr w3) => next_at (h2.keep hb) 1 1 rfl (by decide))
     rw [Nat.add_zero] at hN0
     have hx0:=lhi (show Below wr.heap.size wr wr from Below.refl _ _)
     cases hb1 : bg [42] (l.drop i2) with
     | true =>
      have hi3 : i2 + 1 ≤ n:=by have:=bg_room hb1;simp at this;omega
      rw [show nx l i2 = 42 from (nx_bg l i2 42).2 hb1] at hN0
      have hU:=lhi (fun w3 (h3 : Rdr w3 B T A n c l v2 ns2 g2 (i2 + 1) cl2 0) => rput_any h3 (repN x 0 (-1)) (fits_rep ok2 (by decide)))
      rw [show nodV (repN x 0 (-1)) = _ from nodV_z 4 x 0 0 (-1) 0] at hU
      have hfin:=lhi (fun w' z (hy : RPut wr B T A n c l v2 ns2 g2 (i2 + 1) cl2 (repN x 0 (-1)) (.returned (.int .i64 z)) w') => rep_next h2 k2 q1 q2 q3 q4 (show i2 < i2 + 1 by omega) (fun ps lv hl => step_star hb1 hl) (fun ps lv hl => step_star_full hb1 hl) hy)
      clear h2 k2 q1 q2 q3 q4 ok2 hN1 hb1 hnl
      go_wp2_with (first
       | (go_at_call 51;(with_reducible show Calls _ _ _ wr _);refine (hN0.out _ hx0.out).mono ?_;rintro y w1 ⟨rfl,hb1⟩;have h1:=hP.out _ hb1;have c1:=h1.c1;have t1:=h1.thawed 1;have h3:=lhi (h1.goto hi3 (z:=(i2 : Int) + 1) (by omega));have k3:=lhi ((ChP.of_below (T:=T) (v:=v2) hb1).trans (ChP.store w1 T 1 (.int .i64 ((i2 : Int) + 1)) v2));clear h1 hb1)
       | (go_at_call 30;refine (hU.out _ h3.out).mono ?_;intro y w4 hy;obtain ⟨z,rfl,hy⟩:=hy.ret;replace hy:=lhi (hfin.out _ _ (hy.from k3.out))))
      go_roundw
      case rel => exact hy.out.1
      case measure => exact hy.out.2
     | false =>
      have hz42 : (nx l i2 == 42) = false:=by rw [bef];intro e;rw [(nx_bg l i2 42).1 e] at hb1;cases hb1
      cases hb2 : bg [92,123] (l.drop i2) with
      | false =>
       have hfin:=lhi (show ∀ w',Below wr.heap.size wr w' → RNode true w B T A n c l v ns g i cl inG (.returned (.int .i64 x)) w' from fun w' hb => .inl ⟨x,v2,ns2,g2,i2,cl2,rfl,ok2,h2.keep hb,k2.trans (ChP.of_below hb),q1,q2,q3,fun _ => hb2,fun ps lv hlv => (q4 ps lv hlv).snoc (step_off hb1 hb2)⟩)
       by_cases h92 : nx l i2 = 92
       · have h123 : (nx l (i2 + 1) != 123) = true:=by
           rw [bne_iff_ne];intro e
           rw [two_bg h92 e] at hb2;cases hb2
         rw [h92] at hN0
         generalize nx l (i2 + 1) = z1 at *
         clear h2 k2 q1 q2 q3 q4 ok2 hb1 hb2 hnl hz42 h92
         go_wp2_with (first
          | (go_at_call 51;(with_reducible show Calls _ _ _ wr _);refine (hN0.out _ hx0.out).mono ?_;rintro y w1 ⟨rfl,hb1⟩;replace hb1:=lhi hb1)
          | (go_at_call 51;(with_reducible show Calls _ _ _ w1 _);refine (hN0.out _ hb1.out).mono ?_;rintro y w3 ⟨rfl,hb3⟩;replace hb3:=lhi (hb1.out.trans (hb3.mono hb1.out.size)))
          | (go_at_call 51;(with_reducible show Calls _ _ _ w3 _);refine (hN1.out _ hb3.out).mono ?_;rintro y w4 ⟨rfl,hb4⟩;replace hb4:=lhi (hb3.out.trans (hb4.mono hb3.out.size))))
         go_ret
         exact hfin.out _ hb4.out
       · have hz92 : (nx l i2 != 92) = true:=by rw [bne_iff_ne];exact h92
         generalize nx l i2 = z0 at *
         clear h2 k2 q1 q2 q3 q4 ok2 hb1 hb2 hnl h92 hN1
         go_wp2_with (first
          | (go_at_call 51;(with_reducible show Calls _ _ _ wr _);refine (hN0.out _ hx0.out).mono ?_;rintro y w1 ⟨rfl,hb1⟩;replace hb1:=lhi hb1)
          | (go_at_call 51;(with_reducible show Calls _ _ _ w1 _);refine (hN0.out _ hb1.out).mono ?_;rintro y w3 ⟨rfl,hb3⟩;replace hb3:=lhi (hb1.out.trans (hb3.mono hb1.out.size))))
         go_ret
         exact hfin.out _ hb3.out
      | true =>
       obtain ⟨r2,hr2⟩:=drop_two hb2
       have hrm:=bg_room hb2
       simp at hrm
       rw [show nx l i2 = 92 from by have:=nx_drop l i2 0;rw [Nat.add_zero] at this;rw [this,hr2];rfl] at hN0
       rw [show nx l (i2 + 1) = 123 from by rw [nx_drop,hr2];rfl] at hN1
       obtain ⟨p,hp⟩ : ∃ p,p = i2 + 2:=⟨_,rfl⟩
       have hwp : IntKind.i64.wrap ((i2 : Int) + 2) = (p : Int):=by rw [IntWalk.i64_in _ (by omega)];omega
       have hIv:=lhi (fun w3 (hb : Below wr.heap.size wr w3) => rinterval_any (h2.keep hb) (a:=p) (by omega))
       have hiv:=ivl_riv hb2
       rw [← hp] at hiv
       clear hz42 hr2
       cases hv : rivI l p with
       | none =>
        rw [hv] at hIv hiv
        unfold rivR at hIv
        have hfin:=lhi (show ∀ w' v',Rdr w' B T A n c l v' ns2 g2 i2 cl2 13 → ChP wr w' T v2 v' → RNode true w B T A n c l v ns g i cl inG (.returned (.int .i64 x)) w' from fun w' v' h3 k3 => .inr ⟨x,v',ns2,g2,i2,cl2,13,by decide,rfl,h3,k2.trans k3,fun ps lv hlv => (q4 ps lv hlv).ends (.bad (step_ivl_bad hb1 hb2 hiv))⟩)
        clear h2 k2 q1 q2 q3 q4 ok2 hb1 hb2 hnl hiv hv hp
        go_wp2_with (first
         | (go_at_call 51;(with_reducible show Calls _ _ _ wr _);refine (hN0.out _ hx0.out).mono ?_;rintro y w1 ⟨rfl,hb1⟩;replace hb1:=lhi hb1)
         | (go_at_call 51;(with_reducible show Calls _ _ _ w1 _);refine (hN0.out _ hb1.out).mono ?_;rintro y w3 ⟨rfl,hb3⟩;replace hb3:=lhi (hb1.out.trans (hb3.mono hb1.out.size)))
         | (go_at_call 51;(with_reducible show Calls _ _ _ w3 _);refine (hN1.out _ hb3.out).mono ?_;rintro y w4 ⟨rfl,hb4⟩;replace hb4:=hb3.out.trans (hb4.mono hb3.out.size);have h4:=hP.out _ hb4;have c1:=h4.c1;have c2b:=h4.c2;have t2:=h4.thawed 2;have h5:=lhi (h4.erred 13 (z:=13) rfl);have k5:=lhi ((ChP.of_below (T:=T) (v:=v2) hb4).trans (ChP.store w4 T 2 (.int .i64 13) v2));replace hb4:=lhi hb4;clear h4)
         | (go_at_call 78;refine (hIv.out _ hb4.out).mono ?_;rintro y w5 ⟨rfl,rfl⟩))
        go_ret
        exact hfin.out _ _ h5.out k5.out
       | some t3 =>
        obtain ⟨lo,hi,k⟩:=t3
        rw [hv] at hIv hiv
        unfold rivR at hIv
        have hkin:=riv_in (show p ≤ l.length by omega) hv
        have hk0 : (k : Int) ≤ 1000000:=by omega
        have hk00 : (0 : Int) ≤ (k : Int):=by omega
        obtain ⟨m,hm⟩ : ∃ m,m = k + 1:=⟨_,rfl⟩
        have hwm : IntKind.i64.wrap ((k : Int) + 1) = (m : Int):=by rw [IntWalk.i64_in _ (by omega)];omega
        have hm00 : (0 : Int) ≤ (m : Int):=by omega
        simp only at hiv
        by_cases hb3 : bg [92,125] (l.drop k) = true
        · rw [if_pos hb3] at hiv
          obtain ⟨r3,hr3⟩:=drop_two hb3
          have hrm3:=bg_room hb3
          simp at hrm3
          have hi3 : k + 2 ≤ n:=by omega
          obtain ⟨hk1,hx1,hd1⟩:=drop_at hr3
          obtain ⟨hk2,hx2,-⟩:=drop_at hd1
          rw [← hm] at hx2
          obtain ⟨ad,hA,hcell1⟩:=h2.byte hx1
          obtain ⟨ad2,hA2,hcell2⟩:=h2.byte hx2
          subst hA
          cases hA2
          have hmn : ¬ (n : Int) ≤ (m : Int):=by omega
          have hmn2 : ¬ n ≤ m:=by omega
          have hmn1 : (m : Int) < (n : Int):=by omega
          have hkn1 : (k : Int) < (n : Int):=by omega
          have htm:=(ivl_size hiv (by omega)).2.2
          have hBy:=lhi (fun w3 (hb : Below wr.heap.size wr w3) => (show w3.cell? (ad.add k) = some (.int .u8 92) ∧ w3.cell? (ad.add m) = some (.int .u8 125) from by
           obtain ⟨a1,e1,f1⟩:=(h2.keep hb).byte hx1
           obtain ⟨a2,e2,f2⟩:=(h2.keep hb).byte hx2
           cases e1
           cases e2
           exact ⟨f1,f2⟩))
          have hU:=lhi (fun w3 (h3 : Rdr w3 B T (some ad) n c l v2 ns2 g2 (k + 2) cl2 0) => rput_any h3 (repN x lo hi) (fits_rep ok2 htm))
          rw [show nodV (repN x lo hi) = _ from nodV_z 4 x 0 lo hi 0] at hU
          have hfin:=lhi (fun w' z (hy : RPut wr B T (some ad) n c l v2 ns2 g2 (k + 2) cl2 (repN x lo hi) (.returned (.int .i64 z)) w') => rep_next h2 k2 q1 q2 q3 q4 (show i2 < k + 2 by omega) (fun ps lv hl => step_ivl hb1 hb2 hiv hl) (fun ps lv hl => step_ivl_full hb1 hb2 hiv hl) hy)
          have hnc : n ≤ c:=h2.inp.2.1
          clear h2 k2 q1 q2 q3 q4 ok2 hb1 hb2 hnl hiv hv hp hr3 hd1 hx1 hx2 hm hcell1 hcell2 hb3 htm hrm hrm3
          go_wp2_with (first
           | (go_at_call 51;(with_reducible show Calls _ _ _ wr _);refine (hN0.out _ hx0.out).mono ?_;rintro y w1 ⟨rfl,hb1⟩;replace hb1:=lhi hb1)
           | (go_at_call 51;(with_reducible show Calls _ _ _ w1 _);refine (hN0.out _ hb1.out).mono ?_;rintro y w3 ⟨rfl,hb3⟩;replace hb3:=lhi (hb1.out.trans (hb3.mono hb1.out.size)))
           | (go_at_call 51;(with_reducible show Calls _ _ _ w3 _);refine (hN1.out _ hb3.out).mono ?_;rintro y w4 ⟨rfl,hb4⟩;replace hb4:=hb3.out.trans (hb4.mono hb3.out.size);have h4:=hP.out _ hb4;have c0:=h4.c0;have c1:=h4.c1;have t1:=h4.thawed 1;have hby:=hBy.out _ hb4;have by1:=hby.1;have by2:=hby.2;have h5:=lhi (h4.goto hi3 (z:=(k : Int) + 2) (by omega));have k5:=lhi ((ChP.of_below (T:=T) (v:=v2) hb4).trans (ChP.store w4 T 1 (.int .i64 ((k : Int) + 2)) v2));replace hb4:=lhi hb4;clear h4 hby)
           | (go_at_call 78;refine (hIv.out _ hb4.out).mono ?_;rintro y w5 ⟨rfl,rfl⟩)
           | (go_at_call 30;refine (hU.out _ h5.out).mono ?_;intro y w6 hy;obtain ⟨z,rfl,hy⟩:=hy.ret;replace hy:=lhi (hfin.out _ _ (hy.from k5.out))))
          go_roundw
          case rel => exact hy.out.1
          case measure => exact hy.out.2
        · rw [if_neg hb3] at hiv
          have hfin:=lhi (show ∀ w' v',Rdr w' B T A n c l v' ns2 g2 i2 cl2 13 → ChP wr w' T v2 v' → RNode true w B T A n c l v ns g i cl inG (.returned (.int .i64 x)) w' from fun w' v' h3 k3 => .inr ⟨x,v',ns2,g2,i2,cl2,13,by decide,rfl,h3,k2.trans k3,fun ps lv hlv => (q4 ps lv hlv).ends (.bad (step_ivl_bad hb1 hb2 hiv))⟩)
          by_cases hmn : m < n
          · have hx1 : l[k]? = some (l[k]'(by omega)):=List.getElem?_eq_getElem _
            have hx2 : l[m]? = some (l[m]'(by omega)):=List.getElem?_eq_getElem _
            have hno : l[k]'(by omega) ≠ 92 ∨ l[m]'(by omega) ≠ 125:=by
             by_cases e1 : l[k]'(by omega) = 92
             · refine .inr fun e2 => hb3 ?_
               rw [List.drop_eq_getElem_cons (show k < l.length by omega),bg_cons,e1]
               subst hm
               rw [List.drop_eq_getElem_cons (show k + 1 < l.length by omega),bg_cons,e2];rfl
             · exact .inl e1
            generalize l[k]'(by omega) = y1 at *
            generalize l[m]'(by omega) = y2 at *
            obtain ⟨ad,hA,hcell1⟩:=h2.byte hx1
            obtain ⟨ad2,hA2,hcell2⟩:=h2.byte hx2
            subst hA
            cases hA2
            have hmn3 : ¬ (n : Int) ≤ (m : Int):=by omega
            have hmn2 : ¬ n ≤ m:=by omega
            have hmn1 : (m : Int) < (n : Int):=by omega
            have hkn1 : (k : Int) < (n : Int):=by omega
            have hBy:=lhi (fun w3 (hb : Below wr.heap.size wr w3) => (show w3.cell? (ad.add k) = some (.int .u8 (y1.toNat : Int)) ∧ w3.cell? (ad.add m) = some (.int .u8 (y2.toNat : Int)) from by
             obtain ⟨a1,e1,f1⟩:=(h2.keep hb).byte hx1
             obtain ⟨a2,e2,f2⟩:=(h2.keep hb).byte hx2
             cases e1
             cases e2
             exact ⟨f1,f2⟩))
            have hnc : n ≤ c:=h2.inp.2.1
            have hne1 : ((y1.toNat : Int) != 92) = true ∨ (((y1.toNat : Int) != 92) = false ∧ ((y2.toNat : Int) != 125) = true):=by
             by_cases e1 : y1 = 92
             · exact .inr ⟨by subst e1;rfl,by rw [bne_iff_ne];intro e;exact (hno.resolve_left (fun k => k e1)) (UInt8.toNat_inj.1 (show y2.toNat = 125 by omega))⟩
             · exact .inl (by rw [bne_iff_ne];intro e;exact e1 (UInt8.toNat_inj.1 (show y1.toNat = 92 by omega)))
            clear h2 k2 q1 q2 q3 q4 ok2 hb1 hb2 hnl hiv hv hp hx1 hx2 hm hcell1 hcell2 hb3 hrm hno hmn
            generalize (y1.toNat : Int) = d1 at *
            generalize (y2.toNat : Int) = d2 at *
            rcases hne1 with hne1 | ⟨hne1,hne2⟩
            all_goals
             go_wp2_with (first
              | (go_at_call 51;(with_reducible show Calls _ _ _ wr _);refine (hN0.out _ hx0.out).mono ?_;rintro y w1 ⟨rfl,hb1⟩;replace hb1:=lhi hb1)
              | (go_at_call 51;(with_reducible show Calls _ _ _ w1 _);refine (hN0.out _ hb1.out).mono ?_;rintro y w3 ⟨rfl,hb3⟩;replace hb3:=lhi (hb1.out.trans (hb3.mono hb1.out.size)))
              | (go_at_call 51;(with_reducible show Calls _ _ _ w3 _);refine (hN1.out _ hb3.out).mono ?_;rintro y w4 ⟨rfl,hb4⟩;replace hb4:=hb3.out.trans (hb4.mono hb3.out.size);have h4:=hP.out _ hb4;have c0:=h4.c0;have c1:=h4.c1;have c2b:=h4.c2;have t2:=h4.thawed 2;have hby:=hBy.out _ hb4;have by1:=hby.1;have by2:=hby.2;have h5:=lhi (h4.erred 13 (z:=13) rfl);have k5:=lhi ((ChP.of_below (T:=T) (v:=v2) hb4).trans (ChP.store w4 T 2 (.int .i64 13) v2));replace hb4:=lhi hb4;clear h4 hby)
              | (go_at_call 78;refine (hIv.out _ hb4.out).mono ?_;rintro y w5 ⟨rfl,rfl⟩))
             go_ret
             exact hfin.out _ _ h5.out k5.out
          · have hmn3 : (n : Int) ≤ (m : Int):=by omega
            have hmn2 : n ≤ m:=by omega
            clear h2 k2 q1 q2 q3 q4 ok2 hb1 hb2 hnl hiv hv hp hm hb3 hrm hmn
            go_wp2_with (first
             | (go_at_call 51;(with_reducible show Calls _ _ _ wr _);refine (hN0.out _ hx0.out).mono ?_;rintro y w1 ⟨rfl,hb1⟩;replace hb1:=lhi hb1)
             | (go_at_call 51;(with_reducible show Calls _ _ _ w1 _);refine (hN0.out _ hb1.out).mono ?_;rintro y w3 ⟨rfl,hb3⟩;replace hb3:=lhi (hb1.out.trans (hb3.mono hb1.out.size)))
             | (go_at_call 51;(with_reducible show Calls _ _ _ w3 _);refine (hN1.out _ hb3.out).mono ?_;rintro y w4 ⟨rfl,hb4⟩;replace hb4:=hb3.out.trans (hb4.mono hb3.out.size);have h4:=hP.out _ hb4;have c0:=h4.c0;have c1:=h4.c1;have c2b:=h4.c2;have t2:=h4.thawed 2;have h5:=lhi (h4.erred 13 (z:=13) rfl);have k5:=lhi ((ChP.of_below (T:=T) (v:=v2) hb4).trans (ChP.store w4 T 2 (.int .i64 13) v2));replace hb4:=lhi hb4;clear h4)
             | (go_at_call 78;refine (hIv.out _ hb4.out).mono ?_;rintro y w5 ⟨rfl,rfl⟩))
            go_ret
            exact hfin.out _ _ h5.out k5.out
   · obtain rfl:=(Ending.returned.inj ea)
     clear ea
     have c2:=h2.c2
     have he : ((e2 : Int) == 0) = false:=by rw [bef];omega
     have hfin:=lhi (show RNode true w B T A n c l v ns g i cl inG (.returned (.int .i64 x)) wr from .inr ⟨x,v2,ns2,g2,i2,cl2,e2,he2,rfl,h2,k2,q4⟩)
     clear h2 k2 q4 he2
     go_wp2
     go_ret
     exact hfin.out
omit h in
theorem bg_hd {x y : UInt8} {r : List UInt8} : bg [x,y] (x :: r) = bg [y] r:=by rw [bg_cons,beq_self_eq_true,Bool.true_and]
theorem rpiece_any {first : Bool} (hi : i < n) (hc : bg [92,41] (l.drop i) = false) (hf : first = false → bg [92,123] (l.drop i) = false) (hB : ∀ k,k < n - i → RBrOK k) :
    Calls Tryz.prog 54 #[.pointer (some ⟨T,0,none⟩),.bool first] w (RNode true w B T A n c l v ns g i cl inG):=by
 have hnl:=h.hn
 cases hx : l.drop i with
 | nil => have:=congrArg List.length hx;rw [List.length_drop] at this;simp at this;omega
 | cons x r =>
  by_cases h92 : x = 92
  · subst h92
    simp only [hx,bg_hd] at hc
    cases h123 : bg [123] r with
    | false => exact rpiece_esc h hx hc h123 hB
    | true =>
     cases first with
     | true => exact rpiece_brace h (by rw [hx,bg_hd];exact h123) (fun _ => by rw [hx,bg_hd];exact hc)
     | false => have:=hf rfl;simp only [hx,bg_hd,h123] at this;cases this
  · exact rpiece_else h hx h92
end
end Go.Proofs.YtonjnagcdnmcpaaGreatDoor
