/- Contracts and plain facts: M19. -/
import Derived.Test.YtbdfhmefjfaofaaM18
set_option linter.unusedVariables false
set_option linter.unusedSimpArgs false
set_option maxRecDepth 100000
set_option maxHeartbeats 32000000
namespace Go.Proofs.Ytbdfhmefjfaofaa
open Go.RowKit
section
variable {w w1 : World} {B S W : Nat} {An : Option Addr} {nn cn : Nat} {At : Option Addr} {nt ct : Nat} {ns : List Nod} {t : List UInt8} {g : Int} {a left : Nat} {v : Value} {xs : List Wt} {b : Option Spn} {pv : Value} {p : Pt} {l : List Tsk}
theorem takesAgain_A (x y : Nat) (h : Sta w B S W An nn cn At nt ct ns t g a left v xs b pv p l) (hi : p.i ≤ t.length) (hxy : x ≤ y) (hy : y ≤ t.length) (e1 : ¬ ct = p.i) (e2 : ¬ ct = x) :
    Calls Try.prog 58 #[.pointer (some ⟨S,0,none⟩),.pointer (some ⟨W,0,none⟩),.agg #[.int .i64 (x : Int),.int .i64 (y : Int)]] w (GoP w B S W An nn cn At nt ct ns t g a left v xs b (agL t ((x : Int),(y : Int)) p l)):=by
 have hL0:=back_pref hxy hy hi
 generalize hq : ((t.take y).drop x).isPrefixOf ((t.take t.length).drop p.i) = q at *
 have hN:=lhi (fun w => isNone_any (x : Int) (y : Int) w)
 rw [show decide ((x : Int) < 0) = false from decide_eq_false (by omega)] at hN
 have hGn:=lhi (fun (e : q = false) w' (hb : Below w.heap.size w w') => (h.keep hb).gone (Chm.of_below hb) (L:=agL t ((x : Int),(y : Int)) p l) (by unfold agL;rw [hL0,e];rfl))
 have hGo:=lhi (fun (e : q = true) w' (hb : Below w.heap.size w w') => (h.keep hb).goto (Chm.of_below hb) (j:=p.i + (y - x)) (z:=(p.i : Int) + ((y : Int) - (x : Int))) (by omega) (L:=agL t ((x : Int),(y : Int)) p l) (by unfold agL;rw [hL0,e];rfl))
 generalize agL t ((x : Int),(y : Int)) p l = L at *
 have hb0:=lhi ((Below.refl w.heap.size w).alloc (nlr _) (.cells #[.int .i64 (x : Int),.int .i64 (y : Int)] 28))
 have hs0:=lhi (held_new w 28 #[.int .i64 (x : Int),.int .i64 (y : Int)])
 have hP:=lhi (fun w' (hb : Below w.heap.size w w') => mprefix_any (if ct = p.i then At else At.map (·.add p.i)) (if ct = x then At else At.map (·.add x)) (nt - p.i) (ct - p.i) (y - x) (ct - x) ((t.take t.length).drop p.i) ((t.take y).drop x) B B w' (by have:=h.s.thru.nt_;simp;omega) (by have:=h.s.thru.tc;omega) (by simp;omega)
  ((h.keep hb).s.thru.byt.cut (nlr _) (by have:=h.s.thru.nt_;have:=h.s.thru.tc;omega)) ((h.keep hb).s.thru.byt.cut hy (by have:=h.s.thru.nt_;have:=h.s.thru.tc;omega)))
 rw [hq] at hP
 have hK:=lhi (fun w' (hb : Below (w.heap.size + 1) (w.alloc (.cells #[.int .i64 (x : Int),.int .i64 (y : Int)] 28)) w') =>
  show (w'.cell? ⟨w.heap.size,0,none⟩ = some (.int .i64 (x : Int)) ∧ w'.cell? ⟨w.heap.size,1,none⟩ = some (.int .i64 (y : Int)) ∧ w'.cell? ⟨S,1,none⟩ = some (.slice At nt ct) ∧ w'.cell? ⟨W,0,none⟩ = some (.int .i64 (p.i : Int))) ∧ w'.frozen? ⟨W,0,none⟩ = false ∧ Below w.heap.size w w' from by
   have hbb : Below w.heap.size w w':=hb0.out.trans (hb.mono (Nat.le_succ _))
   have q:=h.keep hbb
   have ⟨z0,z1⟩:=held2 (hs0.out.below hb (Nat.lt_succ_self _))
   exact ⟨⟨z0,z1,q.c1,q.p0⟩,q.way.thawed 0,hbb⟩)
 have hK0:=lhi (hK.out _ ((Below.refl _ _).drew))
 have hnt:=h.s.thru.nt_
 have htc:=h.s.thru.tc
 have htm:=h.s.thru.tm
 have htl:=h.s.thru.tl
 have hF:=lhi (show ((x : Int) ≤ (y : Int) ∧ (y : Int) ≤ (nt : Int)) ∧ ((y : Int) ≤ (ct : Int) ∧ (p.i : Int) ≤ (nt : Int)) ∧ (0 ≤ (x : Int) ∧ 0 ≤ (y : Int) ∧ 0 ≤ (p.i : Int)) ∧ (nt : Int) ≤ (ct : Int) ∧ (nt : Int) ≤ 1000000 from by omega)
 have hF2:=lhi (show x ≤ y ∧ y ≤ ct ∧ p.i ≤ nt ∧ nt ≤ ct from by omega)
 have hw1 : IntKind.i64.wrap ((y : Int) - (x : Int)) = (y : Int) - (x : Int):=IntWalk.i64_in _ (by omega)
 have hw2 : IntKind.i64.wrap ((p.i : Int) + ((y : Int) - (x : Int))) = (p.i : Int) + ((y : Int) - (x : Int)):=IntWalk.i64_in _ (by omega)
 have hne : W ≠ w.heap.size:=by have:=h.way.lt;omega
 clear h hL0 hnt htc htm htl hxy hy hi hb0 hs0 hq
 rw [if_neg e1,if_neg e2] at hP
 replace e1:=lhi e1
 replace e2:=lhi e2
 go_enter Try.func58,Try.ntmps58
 go_wp2
 have ⟨⟨f1,f2⟩,⟨f3,f4⟩,⟨f5,f6,f7⟩,f8,f9⟩:=hF.out
 have ⟨n1,n2,n3,n4⟩:=hF2.out
 have ne1:=e1.out
 have ne2:=e2.out
 go_region_held3 (fun w' => w'.cell? ⟨w.heap.size,0,none⟩ = some (.int .i64 (x : Int)) ∧ w'.cell? ⟨w.heap.size,1,none⟩ = some (.int .i64 (y : Int)) ∧ w'.cell? ⟨S,1,none⟩ = some (.slice At nt ct) ∧ w'.cell? ⟨W,0,none⟩ = some (.int .i64 (p.i : Int)))
  (first | with_reducible exact hK0.out.1 | with_reducible exact hK3.out | go_keep)
  (first
  | (go_at_call 61;refine (hN.out _).mono ?_;rintro e w3 ⟨rfl,hb3⟩;have hk:=hK.out w3 (((Below.refl _ _).drew).trans (hb3.mono (by simp)));have hK3:=lhi hk.1;have hb3':=lhi hk.2.2;have t03:=hk.2.1;have p03:=hk.1.2.2.2;have z03:=hk.1.1;have z13:=hk.1.2.1;clear hk hb3)
  | (go_at_call 62;refine (hP.out w3 hb3'.out).mono ?_;rintro e w4 ⟨rfl,rfl⟩))
 clear hK hK0 hN hP hF hF2
 cases q with
 | false =>
  go_wp2
  go_ret
  exact hGn.out (by first | rfl | trivial) _ hb3'.out
 | true =>
  have hGo2:=lhi (fun w' hb => hGo.out (by first | rfl | trivial) w' hb)
  clear hGo hGn
  go_wp2
  go_region
  go_wp2
  go_ret
  exact (hGo2.out _ hb3'.out).later ((Below.refl _ _).drew)
end
section
variable {w w1 : World} {B S W : Nat} {An : Option Addr} {nn cn : Nat} {At : Option Addr} {nt ct : Nat} {ns : List Nod} {t : List UInt8} {g : Int} {a left : Nat} {v : Value} {xs : List Wt} {b : Option Spn} {pv : Value} {p : Pt} {l : List Tsk}
theorem takesAgain_B (x y : Nat) (h : Sta w B S W An nn cn At nt ct ns t g a left v xs b pv p l) (hi : p.i ≤ t.length) (hxy : x ≤ y) (hy : y ≤ t.length) (e1 : ct = p.i) (e2 : ct = x) :
    Calls Try.prog 58 #[.pointer (some ⟨S,0,none⟩),.pointer (some ⟨W,0,none⟩),.agg #[.int .i64 (x : Int),.int .i64 (y : Int)]] w (GoP w B S W An nn cn At nt ct ns t g a left v xs b (agL t ((x : Int),(y : Int)) p l)):=by
 have hL0:=back_pref hxy hy hi
 generalize hq : ((t.take y).drop x).isPrefixOf ((t.take t.length).drop p.i) = q at *
 have hN:=lhi (fun w => isNone_any (x : Int) (y : Int) w)
 rw [show decide ((x : Int) < 0) = false from decide_eq_false (by omega)] at hN
 have hGn:=lhi (fun (e : q = false) w' (hb : Below w.heap.size w w') => (h.keep hb).gone (Chm.of_below hb) (L:=agL t ((x : Int),(y : Int)) p l) (by unfold agL;rw [hL0,e];rfl))
 have hGo:=lhi (fun (e : q = true) w' (hb : Below w.heap.size w w') => (h.keep hb).goto (Chm.of_below hb) (j:=p.i + (y - x)) (z:=(p.i : Int) + ((y : Int) - (x : Int))) (by omega) (L:=agL t ((x : Int),(y : Int)) p l) (by unfold agL;rw [hL0,e];rfl))
 generalize agL t ((x : Int),(y : Int)) p l = L at *
 have hb0:=lhi ((Below.refl w.heap.size w).alloc (nlr _) (.cells #[.int .i64 (x : Int),.int .i64 (y : Int)] 28))
 have hs0:=lhi (held_new w 28 #[.int .i64 (x : Int),.int .i64 (y : Int)])
 have hP:=lhi (fun w' (hb : Below w.heap.size w w') => mprefix_any (if ct = p.i then At else At.map (·.add p.i)) (if ct = x then At else At.map (·.add x)) (nt - p.i) (ct - p.i) (y - x) (ct - x) ((t.take t.length).drop p.i) ((t.take y).drop x) B B w' (by have:=h.s.thru.nt_;simp;omega) (by have:=h.s.thru.tc;omega) (by simp;omega)
  ((h.keep hb).s.thru.byt.cut (nlr _) (by have:=h.s.thru.nt_;have:=h.s.thru.tc;omega)) ((h.keep hb).s.thru.byt.cut hy (by have:=h.s.thru.nt_;have:=h.s.thru.tc;omega)))
 rw [hq] at hP
 have hK:=lhi (fun w' (hb : Below (w.heap.size + 1) (w.alloc (.cells #[.int .i64 (x : Int),.int .i64 (y : Int)] 28)) w') =>
  show (w'.cell? ⟨w.heap.size,0,none⟩ = some (.int .i64 (x : Int)) ∧ w'.cell? ⟨w.heap.size,1,none⟩ = some (.int .i64 (y : Int)) ∧ w'.cell? ⟨S,1,none⟩ = some (.slice At nt ct) ∧ w'.cell? ⟨W,0,none⟩ = some (.int .i64 (p.i : Int))) ∧ w'.frozen? ⟨W,0,none⟩ = false ∧ Below w.heap.size w w' from by
   have hbb : Below w.heap.size w w':=hb0.out.trans (hb.mono (Nat.le_succ _))
   have q:=h.keep hbb
   have ⟨z0,z1⟩:=held2 (hs0.out.below hb (Nat.lt_succ_self _))
   exact ⟨⟨z0,z1,q.c1,q.p0⟩,q.way.thawed 0,hbb⟩)
 have hK0:=lhi (hK.out _ ((Below.refl _ _).drew))
 have hnt:=h.s.thru.nt_
 have htc:=h.s.thru.tc
 have htm:=h.s.thru.tm
 have htl:=h.s.thru.tl
 have hF:=lhi (show ((x : Int) ≤ (y : Int) ∧ (y : Int) ≤ (nt : Int)) ∧ ((y : Int) ≤ (ct : Int) ∧ (p.i : Int) ≤ (nt : Int)) ∧ (0 ≤ (x : Int) ∧ 0 ≤ (y : Int) ∧ 0 ≤ (p.i : Int)) ∧ (nt : Int) ≤ (ct : Int) ∧ (nt : Int) ≤ 1000000 from by omega)
 have hF2:=lhi (show x ≤ y ∧ y ≤ ct ∧ p.i ≤ nt ∧ nt ≤ ct from by omega)
 have hw1 : IntKind.i64.wrap ((y : Int) - (x : Int)) = (y : Int) - (x : Int):=IntWalk.i64_in _ (by omega)
 have hw2 : IntKind.i64.wrap ((p.i : Int) + ((y : Int) - (x : Int))) = (p.i : Int) + ((y : Int) - (x : Int)):=IntWalk.i64_in _ (by omega)
 have hne : W ≠ w.heap.size:=by have:=h.way.lt;omega
 clear h hL0 hnt htc htm htl hxy hy hi hb0 hs0 hq
 rw [if_pos e1,if_pos e2] at hP
 have ⟨u1,u2,u3,u4⟩:=hF2.out
 have ⟨⟨_,u5⟩,_⟩:=hF.out
 obtain ⟨i,sp⟩:=p
 dsimp only at *
 have k1 : x = y:=by omega
 have k2 : x = nt:=by omega
 have k3 : x = ct:=by omega
 have k4 : x = i:=by omega
 clear e1 e2 u1 u2 u3 u4 u5
 subst k1
 subst k2
 subst k3
 subst k4
 simp only [Nat.sub_self] at hP
 go_enter Try.func58,Try.ntmps58
 go_wp2
 have ⟨⟨f1,f2⟩,⟨f3,f4⟩,⟨f5,f6,f7⟩,f8,f9⟩:=hF.out
 have ⟨n1,n2,n3,n4⟩:=hF2.out
 go_region_held3 (fun w' => w'.cell? ⟨w.heap.size,0,none⟩ = some (.int .i64 (x : Int)) ∧ w'.cell? ⟨w.heap.size,1,none⟩ = some (.int .i64 (x : Int)) ∧ w'.cell? ⟨S,1,none⟩ = some (.slice At x x) ∧ w'.cell? ⟨W,0,none⟩ = some (.int .i64 (x : Int)))
  (first | with_reducible exact hK0.out.1 | with_reducible exact hK3.out | go_keep)
  (first
  | (go_at_call 61;refine (hN.out _).mono ?_;rintro e w3 ⟨rfl,hb3⟩;have hk:=hK.out w3 (((Below.refl _ _).drew).trans (hb3.mono (by simp)));have hK3:=lhi hk.1;have hb3':=lhi hk.2.2;have t03:=hk.2.1;have p03:=hk.1.2.2.2;have z03:=hk.1.1;have z13:=hk.1.2.1;clear hk hb3)
  | (go_at_call 62;refine (hP.out w3 hb3'.out).mono ?_;rintro e w4 ⟨rfl,rfl⟩))
 clear hK hK0 hN hP hF hF2
 cases q with
 | false =>
  go_wp2
  go_ret
  exact hGn.out (by first | rfl | trivial) _ hb3'.out
 | true =>
  have hGo2:=lhi (fun w' hb => hGo.out (by first | rfl | trivial) w' hb)
  clear hGo hGn
  go_wp2
  go_region
  go_wp2
  go_ret
  have hGo3:=hGo2.out _ hb3'.out
  rw [Int.sub_self,Int.add_zero] at hGo3
  exact hGo3.later ((Below.refl _ _).drew)
end
section
variable {w w1 : World} {B S W : Nat} {An : Option Addr} {nn cn : Nat} {At : Option Addr} {nt ct : Nat} {ns : List Nod} {t : List UInt8} {g : Int} {a left : Nat} {v : Value} {xs : List Wt} {b : Option Spn} {pv : Value} {p : Pt} {l : List Tsk}
theorem takesAgain_C (x y : Nat) (h : Sta w B S W An nn cn At nt ct ns t g a left v xs b pv p l) (hi : p.i ≤ t.length) (hxy : x ≤ y) (hy : y ≤ t.length) (e1 : ct = p.i) (e2 : ¬ ct = x) :
    Calls Try.prog 58 #[.pointer (some ⟨S,0,none⟩),.pointer (some ⟨W,0,none⟩),.agg #[.int .i64 (x : Int),.int .i64 (y : Int)]] w (GoP w B S W An nn cn At nt ct ns t g a left v xs b (agL t ((x : Int),(y : Int)) p l)):=by
 have hL0:=back_pref hxy hy hi
 generalize hq : ((t.take y).drop x).isPrefixOf ((t.take t.length).drop p.i) = q at *
 have hN:=lhi (fun w => isNone_any (x : Int) (y : Int) w)
 rw [show decide ((x : Int) < 0) = false from decide_eq_false (by omega)] at hN
 have hGn:=lhi (fun (e : q = false) w' (hb : Below w.heap.size w w') => (h.keep hb).gone (Chm.of_below hb) (L:=agL t ((x : Int),(y : Int)) p l) (by unfold agL;rw [hL0,e];rfl))
 have hGo:=lhi (fun (e : q = true) w' (hb : Below w.heap.size w w') => (h.keep hb).goto (Chm.of_below hb) (j:=p.i + (y - x)) (z:=(p.i : Int) + ((y : Int) - (x : Int))) (by omega) (L:=agL t ((x : Int),(y : Int)) p l) (by unfold agL;rw [hL0,e];rfl))
 generalize agL t ((x : Int),(y : Int)) p l = L at *
 have hb0:=lhi ((Below.refl w.heap.size w).alloc (nlr _) (.cells #[.int .i64 (x : Int),.int .i64 (y : Int)] 28))
 have hs0:=lhi (held_new w 28 #[.int .i64 (x : Int),.int .i64 (y : Int)])
 have hP:=lhi (fun w' (hb : Below w.heap.size w w') => mprefix_any (if ct = p.i then At else At.map (·.add p.i)) (if ct = x then At else At.map (·.add x)) (nt - p.i) (ct - p.i) (y - x) (ct - x) ((t.take t.length).drop p.i) ((t.take y).drop x) B B w' (by have:=h.s.thru.nt_;simp;omega) (by have:=h.s.thru.tc;omega) (by simp;omega)
  ((h.keep hb).s.thru.byt.cut (nlr _) (by have:=h.s.thru.nt_;have:=h.s.thru.tc;omega)) ((h.keep hb).s.thru.byt.cut hy (by have:=h.s.thru.nt_;have:=h.s.thru.tc;omega)))
 rw [hq] at hP
 have hK:=lhi (fun w' (hb : Below (w.heap.size + 1) (w.alloc (.cells #[.int .i64 (x : Int),.int .i64 (y : Int)] 28)) w') =>
  show (w'.cell? ⟨w.heap.size,0,none⟩ = some (.int .i64 (x : Int)) ∧ w'.cell? ⟨w.heap.size,1,none⟩ = some (.int .i64 (y : Int)) ∧ w'.cell? ⟨S,1,none⟩ = some (.slice At nt ct) ∧ w'.cell? ⟨W,0,none⟩ = some (.int .i64 (p.i : Int))) ∧ w'.frozen? ⟨W,0,none⟩ = false ∧ Below w.heap.size w w' from by
   have hbb : Below w.heap.size w w':=hb0.out.trans (hb.mono (Nat.le_succ _))
   have q:=h.keep hbb
   have ⟨z0,z1⟩:=held2 (hs0.out.below hb (Nat.lt_succ_self _))
   exact ⟨⟨z0,z1,q.c1,q.p0⟩,q.way.thawed 0,hbb⟩)
 have hK0:=lhi (hK.out _ ((Below.refl _ _).drew))
 have hnt:=h.s.thru.nt_
 have htc:=h.s.thru.tc
 have htm:=h.s.thru.tm
 have htl:=h.s.thru.tl
 have hF:=lhi (show ((x : Int) ≤ (y : Int) ∧ (y : Int) ≤ (nt : Int)) ∧ ((y : Int) ≤ (ct : Int) ∧ (p.i : Int) ≤ (nt : Int)) ∧ (0 ≤ (x : Int) ∧ 0 ≤ (y : Int) ∧ 0 ≤ (p.i : Int)) ∧ (nt : Int) ≤ (ct : Int) ∧ (nt : Int) ≤ 1000000 from by omega)
 have hF2:=lhi (show x ≤ y ∧ y ≤ ct ∧ p.i ≤ nt ∧ nt ≤ ct from by omega)
 have hw1 : IntKind.i64.wrap ((y : Int) - (x : Int)) = (y : Int) - (x : Int):=IntWalk.i64_in _ (by omega)
 have hw2 : IntKind.i64.wrap ((p.i : Int) + ((y : Int) - (x : Int))) = (p.i : Int) + ((y : Int) - (x : Int)):=IntWalk.i64_in _ (by omega)
 have hne : W ≠ w.heap.size:=by have:=h.way.lt;omega
 clear h hL0 hnt htc htm htl hxy hy hi hb0 hs0 hq
 rw [if_pos e1,if_neg e2] at hP
 have ⟨u1,u2,u3,u4⟩:=hF2.out
 have ⟨⟨_,u5⟩,_⟩:=hF.out
 obtain ⟨i,sp⟩:=p
 dsimp only at *
 have k2 : ct = nt:=by omega
 have k4 : ct = i:=by omega
 clear e1 u1 u2 u3 u4 u5
 subst k2
 subst k4
 replace e2:=lhi e2
 simp only [Nat.sub_self] at hP
 go_enter Try.func58,Try.ntmps58
 go_wp2
 have ⟨⟨f1,f2⟩,⟨f3,f4⟩,⟨f5,f6,f7⟩,f8,f9⟩:=hF.out
 have ⟨n1,n2,n3,n4⟩:=hF2.out
 have ne2:=e2.out
 go_region_held3 (fun w' => w'.cell? ⟨w.heap.size,0,none⟩ = some (.int .i64 (x : Int)) ∧ w'.cell? ⟨w.heap.size,1,none⟩ = some (.int .i64 (y : Int)) ∧ w'.cell? ⟨S,1,none⟩ = some (.slice At ct ct) ∧ w'.cell? ⟨W,0,none⟩ = some (.int .i64 (ct : Int)))
  (first | with_reducible exact hK0.out.1 | with_reducible exact hK3.out | go_keep)
  (first
  | (go_at_call 61;refine (hN.out _).mono ?_;rintro e w3 ⟨rfl,hb3⟩;have hk:=hK.out w3 (((Below.refl _ _).drew).trans (hb3.mono (by simp)));have hK3:=lhi hk.1;have hb3':=lhi hk.2.2;have t03:=hk.2.1;have p03:=hk.1.2.2.2;have z03:=hk.1.1;have z13:=hk.1.2.1;clear hk hb3)
  | (go_at_call 62;refine (hP.out w3 hb3'.out).mono ?_;rintro e w4 ⟨rfl,rfl⟩))
 clear hK hK0 hN hP hF hF2
 cases q with
 | false =>
  go_wp2
  go_ret
  exact hGn.out (by first | rfl | trivial) _ hb3'.out
 | true =>
  have hGo2:=lhi (fun w' hb => hGo.out (by first | rfl | trivial) w' hb)
  clear hGo hGn
  go_wp2
  go_region
  go_wp2
  go_ret
  exact (hGo2.out _ hb3'.out).later ((Below.refl _ _).drew)
end
section
variable {w w1 : World} {B S W : Nat} {An : Option Addr} {nn cn : Nat} {At : Option Addr} {nt ct : Nat} {ns : List Nod} {t : List UInt8} {g : Int} {a left : Nat} {v : Value} {xs : List Wt} {b : Option Spn} {pv : Value} {p : Pt} {l : List Tsk}
theorem takesAgain_D (x y : Nat) (h : Sta w B S W An nn cn At nt ct ns t g a left v xs b pv p l) (hi : p.i ≤ t.length) (hxy : x ≤ y) (hy : y ≤ t.length) (e1 : ¬ ct = p.i) (e2 : ct = x) :
    Calls Try.prog 58 #[.pointer (some ⟨S,0,none⟩),.pointer (some ⟨W,0,none⟩),.agg #[.int .i64 (x : Int),.int .i64 (y : Int)]] w (GoP w B S W An nn cn At nt ct ns t g a left v xs b (agL t ((x : Int),(y : Int)) p l)):=by
 have hL0:=back_pref hxy hy hi
 generalize hq : ((t.take y).drop x).isPrefixOf ((t.take t.length).drop p.i) = q at *
 have hN:=lhi (fun w => isNone_any (x : Int) (y : Int) w)
 rw [show decide ((x : Int) < 0) = false from decide_eq_false (by omega)] at hN
 have hGn:=lhi (fun (e : q = false) w' (hb : Below w.heap.size w w') => (h.keep hb).gone (Chm.of_below hb) (L:=agL t ((x : Int),(y : Int)) p l) (by unfold agL;rw [hL0,e];rfl))
 have hGo:=lhi (fun (e : q = true) w' (hb : Below w.heap.size w w') => (h.keep hb).goto (Chm.of_below hb) (j:=p.i + (y - x)) (z:=(p.i : Int) + ((y : Int) - (x : Int))) (by omega) (L:=agL t ((x : Int),(y : Int)) p l) (by unfold agL;rw [hL0,e];rfl))
 generalize agL t ((x : Int),(y : Int)) p l = L at *
 have hb0:=lhi ((Below.refl w.heap.size w).alloc (nlr _) (.cells #[.int .i64 (x : Int),.int .i64 (y : Int)] 28))
 have hs0:=lhi (held_new w 28 #[.int .i64 (x : Int),.int .i64 (y : Int)])
 have hP:=lhi (fun w' (hb : Below w.heap.size w w') => mprefix_any (if ct = p.i then At else At.map (·.add p.i)) (if ct = x then At else At.map (·.add x)) (nt - p.i) (ct - p.i) (y - x) (ct - x) ((t.take t.length).drop p.i) ((t.take y).drop x) B B w' (by have:=h.s.thru.nt_;simp;omega) (by have:=h.s.thru.tc;omega) (by simp;omega)
  ((h.keep hb).s.thru.byt.cut (nlr _) (by have:=h.s.thru.nt_;have:=h.s.thru.tc;omega)) ((h.keep hb).s.thru.byt.cut hy (by have:=h.s.thru.nt_;have:=h.s.thru.tc;omega)))
 rw [hq] at hP
 have hK:=lhi (fun w' (hb : Below (w.heap.size + 1) (w.alloc (.cells #[.int .i64 (x : Int),.int .i64 (y : Int)] 28)) w') =>
  show (w'.cell? ⟨w.heap.size,0,none⟩ = some (.int .i64 (x : Int)) ∧ w'.cell? ⟨w.heap.size,1,none⟩ = some (.int .i64 (y : Int)) ∧ w'.cell? ⟨S,1,none⟩ = some (.slice At nt ct) ∧ w'.cell? ⟨W,0,none⟩ = some (.int .i64 (p.i : Int))) ∧ w'.frozen? ⟨W,0,none⟩ = false ∧ Below w.heap.size w w' from by
   have hbb : Below w.heap.size w w':=hb0.out.trans (hb.mono (Nat.le_succ _))
   have q:=h.keep hbb
   have ⟨z0,z1⟩:=held2 (hs0.out.below hb (Nat.lt_succ_self _))
   exact ⟨⟨z0,z1,q.c1,q.p0⟩,q.way.thawed 0,hbb⟩)
 have hK0:=lhi (hK.out _ ((Below.refl _ _).drew))
 have hnt:=h.s.thru.nt_
 have htc:=h.s.thru.tc
 have htm:=h.s.thru.tm
 have htl:=h.s.thru.tl
 have hF:=lhi (show ((x : Int) ≤ (y : Int) ∧ (y : Int) ≤ (nt : Int)) ∧ ((y : Int) ≤ (ct : Int) ∧ (p.i : Int) ≤ (nt : Int)) ∧ (0 ≤ (x : Int) ∧ 0 ≤ (y : Int) ∧ 0 ≤ (p.i : Int)) ∧ (nt : Int) ≤ (ct : Int) ∧ (nt : Int) ≤ 1000000 from by omega)
 have hF2:=lhi (show x ≤ y ∧ y ≤ ct ∧ p.i ≤ nt ∧ nt ≤ ct from by omega)
 have hw1 : IntKind.i64.wrap ((y : Int) - (x : Int)) = (y : Int) - (x : Int):=IntWalk.i64_in _ (by omega)
 have hw2 : IntKind.i64.wrap ((p.i : Int) + ((y : Int) - (x : Int))) = (p.i : Int) + ((y : Int) - (x : Int)):=IntWalk.i64_in _ (by omega)
 have hne : W ≠ w.heap.size:=by have:=h.way.lt;omega
 clear h hL0 hnt htc htm htl hxy hy hi hb0 hs0 hq
 rw [if_neg e1,if_pos e2] at hP
 have ⟨u1,u2,u3,u4⟩:=hF2.out
 have ⟨⟨_,u5⟩,_⟩:=hF.out
 have k1 : x = y:=by omega
 have k2 : x = nt:=by omega
 have k3 : x = ct:=by omega
 clear e2 u1 u2 u3 u4 u5
 subst k1
 subst k2
 subst k3
 replace e1:=lhi e1
 simp only [Nat.sub_self] at hP
 go_enter Try.func58,Try.ntmps58
 go_wp2
 have ⟨⟨f1,f2⟩,⟨f3,f4⟩,⟨f5,f6,f7⟩,f8,f9⟩:=hF.out
 have ⟨n1,n2,n3,n4⟩:=hF2.out
 have ne1:=e1.out
 go_region_held3 (fun w' => w'.cell? ⟨w.heap.size,0,none⟩ = some (.int .i64 (x : Int)) ∧ w'.cell? ⟨w.heap.size,1,none⟩ = some (.int .i64 (x : Int)) ∧ w'.cell? ⟨S,1,none⟩ = some (.slice At x x) ∧ w'.cell? ⟨W,0,none⟩ = some (.int .i64 (p.i : Int)))
  (first | with_reducible exact hK0.out.1 | with_reducible exact hK3.out | go_keep)
  (first
  | (go_at_call 61;refine (hN.out _).mono ?_;rintro e w3 ⟨rfl,hb3⟩;have hk:=hK.out w3 (((Below.refl _ _).drew).trans (hb3.mono (by simp)));have hK3:=lhi hk.1;have hb3':=lhi hk.2.2;have t03:=hk.2.1;have p03:=hk.1.2.2.2;have z03:=hk.1.1;have z13:=hk.1.2.1;clear hk hb3)
  | (go_at_call 62;refine (hP.out w3 hb3'.out).mono ?_;rintro e w4 ⟨rfl,rfl⟩))
 clear hK hK0 hN hP hF hF2
 cases q with
 | false =>
  go_wp2
  go_ret
  exact hGn.out (by first | rfl | trivial) _ hb3'.out
 | true =>
  have hGo2:=lhi (fun w' hb => hGo.out (by first | rfl | trivial) w' hb)
  clear hGo hGn
  go_wp2
  go_region
  go_wp2
  go_ret
  have hGo3:=hGo2.out _ hb3'.out
  rw [Int.sub_self,Int.add_zero] at hGo3
  exact hGo3.later ((Below.refl _ _).drew)
end
end Go.Proofs.Ytbdfhmefjfaofaa
