/- Contracts and plain facts: M29. -/
import Derived.Test.YtonjnagcdnmcpaaGreatDoorM46
import Derived.Test.YtonjnagcdnmcpaaGreatDoorM47
set_option linter.unusedVariables false
set_option linter.unusedSimpArgs false
set_option maxRecDepth 100000
set_option maxHeartbeats 32000000
namespace Go.Proofs.YtonjnagcdnmcpaaGreatDoor
open Go.RowKit
theorem own_src {w : World} {base size n : Nat} {e : TypeId} {v : Value} {xs : List Value} (h : w.ownsRow base e size v n xs) : ∃ A cap,v = .slice A n cap ∧ n ≤ cap ∧ cap ≤ maxLen ∧ Src w A xs:=by
 obtain ⟨hl,⟨rfl,rfl⟩ | ⟨g,cap,cur,rfl,_,hh,hnc,hcm,hsz,htake⟩⟩:=id h
 · have : xs = []:=by simpa using hl
   subst this
   exact ⟨none,0,rfl,nlr _,by simp [maxLen],fun j u hj => by simp at hj⟩
 · refine ⟨some ⟨g,0,none⟩,cap,rfl,hnc,hcm,fun j u hj => ⟨_,rfl,?_⟩⟩
   have hj' : j < xs.length:=(List.getElem?_eq_some_iff.1 hj).1
   rw [add_zero_off,h.cellAt j (by rw [hl] at hj';exact hj'),hj]
section
variable {P : Program} {w : World}
theorem step_append_at {ops : Array Oper} {o : Oper} {a : Act} {K : Act → World → Prop} {Q : Exit → Act → World → Prop} {E : Prop} (hgd : o.guard = none) (s x : Operand) (t : TypeId)
    (ho : o.op = .call { callee:=.builtin .append,args:=#[s,x],argTypes:=#[t,t] })
    (base : Nat) (e : TypeId) (i : TypeInfo) (z : Value) (size bytes : Nat) (ht : P.underlying t = some (.slice e)) (hi : P.info? e = some i) (hz : i.zero = some z)
    (hi1 : i.size = size) (hib : i.bytes = bytes) (hz1 : z.cells.size = size) (hsz : 0 < size) (v : Value) (n : Nat) (xs : List Value) (hs : a.eval s = v) (hown : w.ownsRow base e size v n xs)
    (A : Option Addr) (m c : Nat) (news : List Value) (hx : a.eval x = .slice A m c) (hl : news.length = m * size) (hv : Src w A news) (h1 : ∀ u ∈ news,u.oneCell' = true)
    (hlen : n + m ≤ maxLen) (hbytes : (n + m) * bytes ≤ 140737488355328) (hbase : base ≤ w.heap.size)
    (h : ∀ v' w',w'.ownsRow base e size v' (n + m) (xs ++ news) → w.grownBy w' v.ownBlock → (∀ k,v'.ownBlock = some k → v.ownBlock = some k ∨ w.heap.size ≤ k) → K (a.put o.dst v') w') :
    if Region.wanted o (yielded ops a.tmps) = true then Oper.wp P o a w K Q else E:=by
 have hw : Region.wanted o (yielded ops a.tmps) = true:=by simp [Region.wanted,hgd]
 rw [if_pos hw]
 obtain ⟨v',w',hrun,h2,h3,h4⟩:=run_append_at (P:=P) (w:=w) base t o.type e i z size bytes ht hi hz hi1 hib hz1 hsz v n xs hown A m c news hl hv h1 hlen hbytes hbase
 unfold Oper.wp execOp
 simp only [ho,resolve,invoke,builtin,Sem.run_bind,Sem.run_pure,Result.andThen_ok,List.map_toArray,List.map_cons,List.map_nil,hs,hx,hrun]
 exact h v' w' h2 h3 h4
end
theorem own_none_of {w : World} {G base : Nat} (h : Held w G 43 #[]) (hb : base ≤ G) : w.ownsRow base 43 10 (.slice (some ⟨G,0,none⟩) 0 0) 0 (nodsL []) :=
 ⟨rfl,.inr ⟨G,0,#[],rfl,hb,h,nlr _,by simp [maxLen],rfl,rfl⟩⟩
theorem own_base {w : World} {b b' size n : Nat} {e : TypeId} {v : Value} {xs : List Value} (h : w.ownsRow b e size v n xs) (hb : b' ≤ b) : w.ownsRow b' e size v n xs:=by
 obtain ⟨hl,h1 | ⟨g,cap,cur,h1,h2,h3⟩⟩:=h
 · exact ⟨hl,.inl h1⟩
 · exact ⟨hl,.inr ⟨g,cap,cur,h1,Nat.le_trans hb h2,h3⟩⟩
theorem Bldr.renew {W w : World} {B T o H : Nat} {v v' u : Value} {ns : List Nod} {g : Nat} {n : Nod} (h : Bldr w B T o v ns g) (hl : ns.length < 1000) (hW : Below W.heap.size W w) (hH : W.heap.size ≤ H) (hB : B ≤ H) (hown : w.ownsRow H 43 10 u (ns.length + 1) (nodsL ns ++ nodL n)) :
    Bldr (w.setCell ⟨T,o,none⟩ u) B T o u (ns ++ [n]) g ∧ Chg W (w.setCell ⟨T,o,none⟩ u) T o v' u:=by
 refine ⟨h.more hl (own_base hown hB) (World.grownBy.refl _ _),?_⟩
 have c : Chg W (w.setCell ⟨T,o,none⟩ u) T o v' v':=(Chg.of_below hW).trans (Chg.store (.inl rfl) u)
 exact ⟨c.os,c.tape,c.output,c.size,c.far,c.near,fun k e => .inr (Nat.le_trans hH (hown.lt k e).1)⟩
theorem own_slice {w : World} {base size n : Nat} {e : TypeId} {v : Value} {xs : List Value} (h : w.ownsRow base e size v n xs) : ∃ A cap,v = .slice A n cap:=by
 obtain ⟨A,cap,e,_⟩:=own_src h
 exact ⟨A,cap,e⟩
theorem refBput_room (B T o : Nat) (v : Value) (ns : List Nod) (g : Nat) (n : Nod) (w : World) (h : Bldr w B T o v ns g) (hl : ns.length < 1000) (hf : fitsN n (ns.length : Int) (g : Int) = true) :
    Calls Tryz.prog 50 #[.pointer (some ⟨T,o,none⟩),nodV n] w (BldRet w B T o v (ns.length : Int) (ns ++ [n]) g):=by
 have hM:=lhi (fun w => may_fits hf w)
 have hb0 : Below w.heap.size w (w.alloc (.cells (nodC n) 43)):=(Below.refl _ _).alloc (nlr _) _
 have hN0:=held_new w 43 (nodC n)
 have h0:=h.keep hb0
 have hcv:=h0.cv
 have hcg:=h0.cg
 have hth:=h0.thawed o
 have hTl:=h.lt
 have hap:=lhi (show some w.heap.size ≠ v.ownBlock from fun e => absurd (h.own.lt _ e.symm).2 (Nat.lt_irrefl _))
 obtain ⟨A,cap,rfl,hk1,hk2,-⟩:=h.slice
 have hne : T ≠ w.heap.size:=by omega
 obtain ⟨i0,hi0,hq0,hq1,hq2⟩:=info_parts node_info
 have hI2:=lhi hq2
 have hh:=lhi h
 have hh0:=lhi h0
 clear h h0 hq2
 unfold maxLen at hk2
 have g1 : decide (1000 ≤ (ns.length : Int)) = false:=decide_eq_false (by omega)
 have hmore:=lhi (fun w w' u v (h : Bldr w B T o v ns g) => h.more (w':=w') (u:=u) (n:=n) hl)
 have hlen:=lhi (show ns.length = ns.length from rfl)
 generalize hLg : ns.length = L at *
 replace hLg:=lhi hLg
 generalize hnn : ns ++ [n] = nn at *
 have hnn':=lhi hnn
 generalize hnl : nodL n = nl at *
 have hnl':=lhi hnl
 have hnl'':=lhi hnl
 have hb0':=lhi hb0
 obtain ⟨kd,a,b,lo,hi',gr,s⟩:=n
 rw [show nodC ⟨kd,a,b,lo,hi',gr,s⟩ = #[.int .i64 kd,.int .i64 a,.int .i64 b,.int .i64 lo,.int .i64 hi',.int .i64 gr,.int .u64 (wd s 0 : Nat),.int .u64 (wd s 1 : Nat),.int .u64 (wd s 2 : Nat),.int .u64 (wd s 3 : Nat)] from rfl] at hN0 hb0 hb0' hcv hcg hth hh0
 rw [nodV_lit] at hM ⊢
 rw [show nodL ⟨kd,a,b,lo,hi',gr,s⟩ = [.int .i64 kd,.int .i64 a,.int .i64 b,.int .i64 lo,.int .i64 hi',.int .i64 gr,.int .u64 (wd s 0 : Nat),.int .u64 (wd s 1 : Nat),.int .u64 (wd s 2 : Nat),.int .u64 (wd s 3 : Nat)] from rfl] at hnl'
 clear hnl hnn hlen hf
 generalize wd s 0 = s0 at *
 generalize wd s 1 = s1 at *
 generalize wd s 2 = s2 at *
 generalize wd s 3 = s3 at *
 have hN0':=lhi hN0
 clear hb0
 go_enter Tryz.func50,Tryz.ntmps50
 go_wp2
 have hN1:=lhi hN0'.out.drew
 have hB1:=lhi hh0.out.drew
 have hW1:=lhi hb0'.out.drew
 clear hN0' hN0 hh0 hb0' hcv hcg hth
 go_region_held3 (fun w' => w'.cell? ⟨w.heap.size,0,none⟩ = some (.int .i64 kd) ∧ w'.cell? ⟨w.heap.size,1,none⟩ = some (.int .i64 a) ∧ w'.cell? ⟨w.heap.size,2,none⟩ = some (.int .i64 b) ∧ w'.cell? ⟨w.heap.size,3,none⟩ = some (.int .i64 lo) ∧ w'.cell? ⟨w.heap.size,4,none⟩ = some (.int .i64 hi') ∧ w'.cell? ⟨w.heap.size,5,none⟩ = some (.int .i64 gr) ∧ w'.cell? ⟨w.heap.size,6,none⟩ = some (.int .u64 (s0 : Int)) ∧ w'.cell? ⟨w.heap.size,7,none⟩ = some (.int .u64 (s1 : Int)) ∧ w'.cell? ⟨w.heap.size,8,none⟩ = some (.int .u64 (s2 : Int)) ∧ w'.cell? ⟨w.heap.size,9,none⟩ = some (.int .u64 (s3 : Int)) ∧ w'.cell? ⟨T,o,none⟩ = some (.slice A L cap) ∧ w'.cell? ⟨T,o + 1,none⟩ = some (.int .i64 (g : Int)))
  (first | exact ⟨hN1.out.cells10.1,hN1.out.cells10.2.1,hN1.out.cells10.2.2.1,hN1.out.cells10.2.2.2.1,hN1.out.cells10.2.2.2.2.1,hN1.out.cells10.2.2.2.2.2.1,hN1.out.cells10.2.2.2.2.2.2.1,hN1.out.cells10.2.2.2.2.2.2.2.1,hN1.out.cells10.2.2.2.2.2.2.2.2.1,hN1.out.cells10.2.2.2.2.2.2.2.2.2,hB1.out.cv,hB1.out.cg⟩ | go_keep)
  (first
  | (go_at_call 23;refine (hM.out _).mono ?_;rintro e w3 ⟨rfl,hb3⟩;replace hN1:=lhi (hN1.out.keep hb3);replace hB1:=lhi (hB1.out.keep hb3);replace hW1:=lhi (hW1.out.trans (hb3.mono hW1.out.size))))
 clear hM
 go_wp2
 have hN2:=lhi hN1.out.drew
 have hB2:=lhi hB1.out.drew
 have hW2:=lhi hW1.out.drew
 clear hN1 hB1 hW1
 have hal:=lhi (fun o' : Obj => (Below.refl w3.drew.heap.size w3.drew).alloc (nlr _) o')
 have hTl2:=hB2.out.lt
 have hcv : w3.cell? ⟨T,o,none⟩ = some (.slice A L cap):=hB2.out.cv
 have hTl3 : T < w3.heap.size:=hTl2
 have hNl3 : w.heap.size < w3.heap.size:=hN2.out.lt
 have ⟨c0,c1,c2,c3,c4,c5,c6,c7,c8,c9⟩ : CellsN w3 w.heap.size kd a b lo hi' gr s0 s1 s2 s3:=hN2.out.cells10
 have hLL : L < 1000:=by have:=hLg.out;omega
 have hSrc:=lhi (fun w' (h : Below w3.drew.heap.size w3.drew w') => show Src w' A (nodsL ns) from by
  obtain ⟨A1,c1,e,_,_,hs⟩:=own_src (hB2.out.keep h).own
  injection e with e1 e2 e3
  subst e1
  exact hs)
 have hlow2:=lhi (show Below w3.drew.heap.size w3.drew ((w3.drew.alloc (.cells #[] 43)).alloc (.cells #[.int .i64 kd,.int .i64 a,.int .i64 b,.int .i64 lo,.int .i64 hi',.int .i64 gr,.int .u64 (s0 : Int),.int .u64 (s1 : Int),.int .u64 (s2 : Int),.int .u64 (s3 : Int)] 43)) from (hal.out _).alloc (hal.out _).size _)
 have hlow3:=lhi (show Below w3.drew.heap.size w3.drew ((w3.drew.alloc (.cells #[.int .i64 kd,.int .i64 a,.int .i64 b,.int .i64 lo,.int .i64 hi',.int .i64 gr,.int .u64 (s0 : Int),.int .u64 (s1 : Int),.int .u64 (s2 : Int),.int .u64 (s3 : Int)] 43)).alloc (.cells #[] 43)) from (hal.out _).alloc (hal.out _).size _)
 have hown2:=lhi (show ((w3.drew.alloc (.cells #[] 43)).alloc (.cells #[.int .i64 kd,.int .i64 a,.int .i64 b,.int .i64 lo,.int .i64 hi',.int .i64 gr,.int .u64 (s0 : Int),.int .u64 (s1 : Int),.int .u64 (s2 : Int),.int .u64 (s3 : Int)] 43)).ownsRow w3.drew.heap.size 43 10 (.slice (some ⟨w3.drew.heap.size,0,none⟩) 0 0) 0 (nodsL []) from own_none_of ((held_new w3.drew _ _).alloc _) (nlr _))
 have hown3:=lhi (show ((w3.drew.alloc (.cells #[.int .i64 kd,.int .i64 a,.int .i64 b,.int .i64 lo,.int .i64 hi',.int .i64 gr,.int .u64 (s0 : Int),.int .u64 (s1 : Int),.int .u64 (s2 : Int),.int .u64 (s3 : Int)] 43)).alloc (.cells #[] 43)).ownsRow w3.drew.heap.size 43 10 (.slice (some ⟨w3.drew.heap.size + 1,0,none⟩) 0 0) 0 (nodsL []) from own_none_of (held_new2 w3.drew _ _ _) (Nat.le_succ _))
 go_region_law (first
  | (refine step_append_at (by rfl) _ _ 24 (by rfl) w3.drew.heap.size 43 i0 _ 10 80 Tryz.underlying24 hi0 hq0 hq1 hI2.out rfl (by decide) (.slice (some ⟨w3.drew.heap.size,0,none⟩) 0 0) 0 (nodsL []) (by rfl) (own_none_of (held_new _ _ _) (nlr _)) A L cap (nodsL ns) (by rfl) (by rw [nodsL_len,hLg.out]) (hSrc.out _ (hal.out (.cells #[] 43))) (nodsL_one ns) (by unfold maxLen;omega) (by omega) ((hal.out (.cells #[] 43))).size ?_;intro v6 w6 hown6 hg6 hv6;have hw6:=lhi ((hal.out (.cells #[] 43)).grown hg6 (by simp) (fun k e => by have e : w3.drew.heap.size = k:=Option.some.inj e;omega));rw [Nat.zero_add,show nodsL [] ++ nodsL ns = nodsL ns from rfl] at hown6;obtain ⟨A6,c6',rfl⟩:=own_slice hown6;replace hown6:=lhi hown6;have ⟨d0,d1,d2,d3,d4,d5,d6,d7,d8,d9⟩ : CellsN w6 w.heap.size kd a b lo hi' gr s0 s1 s2 s3:=(hN2.out.keep hw6.out).cells10;have hNl6 : w.heap.size < w6.heap.size:=nll hNl3 hw6.out.size;clear hg6 hv6)
  | (refine step_append_at (by rfl) _ _ 24 (by rfl) w3.drew.heap.size 43 i0 _ 10 80 Tryz.underlying24 hi0 hq0 hq1 hI2.out rfl (by decide) (.slice (some ⟨w3.drew.heap.size,0,none⟩) 0 0) 0 (nodsL []) (by rfl) hown2.out A L cap (nodsL ns) (by rfl) (by rw [nodsL_len,hLg.out]) (hSrc.out _ hlow2.out) (nodsL_one ns) (by unfold maxLen;omega) (by omega) (hlow2.out).size ?_;intro v6 w6 hown6 hg6 hv6;have hw6:=lhi (hlow2.out.grown hg6 (by simp;omega) (fun k e => by have e : w3.drew.heap.size = k:=Option.some.inj e;omega));have hlit6:=lhi ((held_new2 w3.drew (.cells #[] 43) 43 #[.int .i64 kd,.int .i64 a,.int .i64 b,.int .i64 lo,.int .i64 hi',.int .i64 gr,.int .u64 (s0 : Int),.int .u64 (s1 : Int),.int .u64 (s2 : Int),.int .u64 (s3 : Int)]).grown hg6 (fun e => by have e' : w3.drew.heap.size + 1 = w3.drew.heap.size:=Option.some.inj e;omega));rw [Nat.zero_add,show nodsL [] ++ nodsL ns = nodsL ns from rfl] at hown6;obtain ⟨A6,c6',rfl⟩:=own_slice hown6;replace hown6:=lhi hown6;have ⟨d0,d1,d2,d3,d4,d5,d6,d7,d8,d9⟩ : CellsN w6 w.heap.size kd a b lo hi' gr s0 s1 s2 s3:=(hN2.out.keep hw6.out).cells10;have hNl6 : w.heap.size < w6.heap.size:=nll hNl3 hw6.out.size;clear hg6 hv6)
  | (refine step_append_at (by rfl) _ _ 24 (by rfl) w3.drew.heap.size 43 i0 _ 10 80 Tryz.underlying24 hi0 hq0 hq1 hI2.out rfl (by decide) (.slice (some ⟨w3.drew.heap.size + 1,0,none⟩) 0 0) 0 (nodsL []) (by rfl) hown3.out A L cap (nodsL ns) (by rfl) (by rw [nodsL_len,hLg.out]) (hSrc.out _ hlow3.out) (nodsL_one ns) (by unfold maxLen;omega) (by omega) (hlow3.out).size ?_;intro v6 w6 hown6 hg6 hv6;have hw6:=lhi (hlow3.out.grown hg6 (by simp;omega) (fun k e => by have e : w3.drew.heap.size + 1 = k:=Option.some.inj e;omega));have hlit6:=lhi (((held_new w3.drew 43 #[.int .i64 kd,.int .i64 a,.int .i64 b,.int .i64 lo,.int .i64 hi',.int .i64 gr,.int .u64 (s0 : Int),.int .u64 (s1 : Int),.int .u64 (s2 : Int),.int .u64 (s3 : Int)]).alloc (.cells #[] 43)).grown hg6 (fun e => by have e' : w3.drew.heap.size = w3.drew.heap.size + 1:=Option.some.inj e;omega));rw [Nat.zero_add,show nodsL [] ++ nodsL ns = nodsL ns from rfl] at hown6;obtain ⟨A6,c6',rfl⟩:=own_slice hown6;replace hown6:=lhi hown6;have ⟨d0,d1,d2,d3,d4,d5,d6,d7,d8,d9⟩ : CellsN w6 w.heap.size kd a b lo hi' gr s0 s1 s2 s3:=(hN2.out.keep hw6.out).cells10;have hNl6 : w.heap.size < w6.heap.size:=nll hNl3 hw6.out.size;clear hg6 hv6)
  | (refine step_append_at (by rfl) _ _ 24 (by rfl) w3.drew.heap.size 43 i0 _ 10 80 Tryz.underlying24 hi0 hq0 hq1 hI2.out rfl (by decide) (.slice A6 L c6') L (nodsL ns) (by rfl) (hown6.out.alloc _) (some ⟨w6.heap.size,0,none⟩) 1 1 [.int .i64 kd,.int .i64 a,.int .i64 b,.int .i64 lo,.int .i64 hi',.int .i64 gr,.int .u64 (s0 : Int),.int .u64 (s1 : Int),.int .u64 (s2 : Int),.int .u64 (s3 : Int)] (by rfl) rfl (src_new w6 [.int .i64 kd,.int .i64 a,.int .i64 b,.int .i64 lo,.int .i64 hi',.int .i64 gr,.int .u64 (s0 : Int),.int .u64 (s1 : Int),.int .u64 (s2 : Int),.int .u64 (s3 : Int)] 43) (by simp [Value.oneCell']) (by unfold maxLen;omega) (by omega) ((hw6.out.alloc hw6.out.size (.cells #[.int .i64 kd,.int .i64 a,.int .i64 b,.int .i64 lo,.int .i64 hi',.int .i64 gr,.int .u64 (s0 : Int),.int .u64 (s1 : Int),.int .u64 (s2 : Int),.int .u64 (s3 : Int)] 43))).size ?_;intro v7 w7 hown7 hg7 hv7;have hw7:=lhi ((hw6.out.alloc hw6.out.size (.cells #[.int .i64 kd,.int .i64 a,.int .i64 b,.int .i64 lo,.int .i64 hi',.int .i64 gr,.int .u64 (s0 : Int),.int .u64 (s1 : Int),.int .u64 (s2 : Int),.int .u64 (s3 : Int)] 43)).grown hg7 ((hw6.out.alloc hw6.out.size (.cells #[.int .i64 kd,.int .i64 a,.int .i64 b,.int .i64 lo,.int .i64 hi',.int .i64 gr,.int .u64 (s0 : Int),.int .u64 (s1 : Int),.int .u64 (s2 : Int),.int .u64 (s3 : Int)] 43))).size (fun k e => (hown6.out.lt k e).1));rw [hnl'.out] at hown7;have hown7':=hown7;rw [← hLg.out] at hown7';have hB7:=hB2.out.keep hw7.out;have hfin:=lhi (hB7.renew (v':=.slice A L cap) (n:=⟨kd,a,b,lo,hi',gr,s⟩) (by rw [hLg.out];exact hLL) (hW2.out.trans (hw7.out.mono hW2.out.size)) hW2.out.size hB2.out.base (by rw [hnl''.out];exact hown7'));have hc7:=hB7.cv;have hf7:=hB7.thawed o;obtain ⟨A7,c7',rfl⟩:=own_slice hown7;clear hown7 hg7 hv7 hB7 hown7')
  | (refine step_append_at (by rfl) _ _ 24 (by rfl) w3.drew.heap.size 43 i0 _ 10 80 Tryz.underlying24 hi0 hq0 hq1 hI2.out rfl (by decide) (.slice A6 L c6') L (nodsL ns) (by rfl) hown6.out (some ⟨w3.drew.heap.size + 1,0,none⟩) 1 1 [.int .i64 kd,.int .i64 a,.int .i64 b,.int .i64 lo,.int .i64 hi',.int .i64 gr,.int .u64 (s0 : Int),.int .u64 (s1 : Int),.int .u64 (s2 : Int),.int .u64 (s3 : Int)] (by rfl) rfl (fun j u hj => ⟨_,rfl,by rw [add_zero_off];exact hlit6.out.at_ (by simpa using hj)⟩) (by simp [Value.oneCell']) (by unfold maxLen;omega) (by omega) hw6.out.size ?_;intro v7 w7 hown7 hg7 hv7;have hw7:=lhi (hw6.out.grown hg7 hw6.out.size (fun k e => (hown6.out.lt k e).1));rw [hnl'.out] at hown7;have hown7':=hown7;rw [← hLg.out] at hown7';have hB7:=hB2.out.keep hw7.out;have hfin:=lhi (hB7.renew (v':=.slice A L cap) (n:=⟨kd,a,b,lo,hi',gr,s⟩) (by rw [hLg.out];exact hLL) (hW2.out.trans (hw7.out.mono hW2.out.size)) hW2.out.size hB2.out.base (by rw [hnl''.out];exact hown7'));have hc7:=hB7.cv;have hf7:=hB7.thawed o;obtain ⟨A7,c7',rfl⟩:=own_slice hown7;clear hown7 hg7 hv7 hB7 hown7')
  | (refine step_append_at (by rfl) _ _ 24 (by rfl) w3.drew.heap.size 43 i0 _ 10 80 Tryz.underlying24 hi0 hq0 hq1 hI2.out rfl (by decide) (.slice A6 L c6') L (nodsL ns) (by rfl) hown6.out (some ⟨w3.drew.heap.size,0,none⟩) 1 1 [.int .i64 kd,.int .i64 a,.int .i64 b,.int .i64 lo,.int .i64 hi',.int .i64 gr,.int .u64 (s0 : Int),.int .u64 (s1 : Int),.int .u64 (s2 : Int),.int .u64 (s3 : Int)] (by rfl) rfl (fun j u hj => ⟨_,rfl,by rw [add_zero_off];exact hlit6.out.at_ (by simpa using hj)⟩) (by simp [Value.oneCell']) (by unfold maxLen;omega) (by omega) hw6.out.size ?_;intro v7 w7 hown7 hg7 hv7;have hw7:=lhi (hw6.out.grown hg7 hw6.out.size (fun k e => (hown6.out.lt k e).1));rw [hnl'.out] at hown7;have hown7':=hown7;rw [← hLg.out] at hown7';have hB7:=hB2.out.keep hw7.out;have hfin:=lhi (hB7.renew (v':=.slice A L cap) (n:=⟨kd,a,b,lo,hi',gr,s⟩) (by rw [hLg.out];exact hLL) (hW2.out.trans (hw7.out.mono hW2.out.size)) hW2.out.size hB2.out.base (by rw [hnl''.out];exact hown7'));have hc7:=hB7.cv;have hf7:=hB7.thawed o;obtain ⟨A7,c7',rfl⟩:=own_slice hown7;clear hown7 hg7 hv7 hB7 hown7'))
 all_goals
  go_wp2
  go_ret
  exact BldRet.mk rfl (by rw [← hnn'.out];exact hfin.out.1) hfin.out.2
theorem refBput_full (B T o : Nat) (v : Value) (ns : List Nod) (g : Nat) (n : Nod) (w : World) (h : Bldr w B T o v ns g) (hl : ¬ ns.length < 1000) :
    Calls Tryz.prog 50 #[.pointer (some ⟨T,o,none⟩),nodV n] w (BldRet w B T o v (-1) ns g):=by
 have hb0 : Below w.heap.size w (w.alloc (.cells (nodC n) 43)):=(Below.refl _ _).alloc (nlr _) _
 have h0:=h.keep hb0
 have hcv:=h0.cv
 have hTl:=h.lt
 obtain ⟨A,cap,rfl,hk1,hk2,-⟩:=h.slice
 have hlen:=h.len
 have hh:=lhi h
 have hh0:=lhi h0
 clear h h0
 unfold maxLen at hk2
 have g1 : decide (1000 ≤ (ns.length : Int)) = true:=decide_eq_true (by omega)
 have hlen : ns.length = 1000:=by omega
 rw [hlen] at hcv g1
 replace hlen:=lhi hlen
 rw [hlen.out] at hh hh0 ⊢
 clear hk1 hl
 have hb0':=lhi hb0
 clear hb0
 show Calls Tryz.prog 50 #[.pointer (some ⟨T,o,none⟩),.agg (nodC n)] w _
 go_enter Tryz.func50,Tryz.ntmps50
 go_wp2
 go_quiet (fail)
 go_wp2
 go_ret
 exact BldRet.mk rfl ((hh0.out).keep (below_drewN (Below.refl _ _) _)) (Chg.of_below (below_drewN hb0'.out _))
def RPut (w : World) (B T : Nat) (A : Option Addr) (n c : Nat) (l : List UInt8) (v : Value) (ns : List Nod) (g j : Nat) (cl : Nat → Bool) (nd : Nod) (e : Ending) (w' : World) : Prop :=
 (ns.length < 1000 ∧ ∃ v',e = .returned (.int .i64 (ns.length : Int)) ∧ Rdr w' B T A n c l v' (ns ++ [nd]) g j cl 0 ∧ ChP w w' T v v') ∨
 (¬ ns.length < 1000 ∧ ∃ v',e = .returned (.int .i64 (-1)) ∧ Rdr w' B T A n c l v' ns g j cl 8 ∧ ChP w w' T v v')
section
variable {w w' : World} {B T : Nat} {A : Option Addr} {n c : Nat} {l : List UInt8} {v v' : Value} {ns ns' : List Nod} {g g' i : Nat} {cl : Nat → Bool} {e : Nat}
theorem RPut.yes {j : Nat} {nd : Nod} (hl : ns.length < 1000) (h : Rdr w' B T A n c l v' (ns ++ [nd]) g j cl 0) (hc : ChP w w' T v v') : RPut w B T A n c l v ns g j cl nd (.returned (.int .i64 (ns.length : Int))) w':=.inl ⟨hl,_,rfl,h,hc⟩
theorem RPut.no {j : Nat} {nd : Nod} (hl : ¬ ns.length < 1000) (h : Rdr w' B T A n c l v' ns g j cl 8) (hc : ChP w w' T v v') : RPut w B T A n c l v ns g j cl nd (.returned (.int .i64 (-1))) w':=.inr ⟨hl,_,rfl,h,hc⟩
theorem RPut.from {w0 : World} {v0 : Value} {j : Nat} {nd : Nod} {x : Ending} (h : RPut w B T A n c l v ns g j cl nd x w') (h0 : ChP w0 w T v0 v) : RPut w0 B T A n c l v0 ns g j cl nd x w':=by
 rcases h with ⟨a,v',b,k,m⟩ | ⟨a,v',b,k,m⟩
 · exact .inl ⟨a,v',b,k,h0.trans m⟩
 · exact .inr ⟨a,v',b,k,h0.trans m⟩
theorem RPut.ret {j : Nat} {nd : Nod} {x : Ending} (h : RPut w B T A n c l v ns g j cl nd x w') : ∃ z,x = .returned (.int .i64 z) ∧ RPut w B T A n c l v ns g j cl nd (.returned (.int .i64 z)) w':=by
 rcases h with ⟨a,v',rfl,b⟩ | ⟨a,v',rfl,b⟩
 · exact ⟨_,rfl,.inl ⟨a,v',rfl,b⟩⟩
 · exact ⟨_,rfl,.inr ⟨a,v',rfl,b⟩⟩
theorem rput_any (h : Rdr w B T A n c l v ns g i cl 0) (nd : Nod) (hf : fitsN nd (ns.length : Int) (g : Int) = true) :
    Calls Tryz.prog 30 #[.pointer (some ⟨T,0,none⟩),nodV nd] w (RPut w B T A n c l v ns g i cl nd):=by
 have hb0 : Below w.heap.size w (w.alloc (.cells (nodC nd) 43)):=(Below.refl _ _).alloc (nlr _) _
 have hN0:=held_new w 43 (nodC nd)
 have h0:=h.keep hb0
 have c2:=h0.c2
 have hTl:=h.lt
 have hne : T ≠ w.heap.size:=by omega
 have hap:=lhi (show some w.heap.size ≠ v.ownBlock from fun e => absurd (h.own.lt _ e.symm).2 (Nat.lt_irrefl _))
 have hP:=lhi (fun (w1 : World) (h1 : Rdr w1 B T A n c l v ns g i cl 0) (hl : ns.length < 1000) => refBput_room B T 3 v ns g nd w1 h1.bldr hl hf)
 have hQ:=lhi (fun (w1 : World) (h1 : Rdr w1 B T A n c l v ns g i cl 0) (hl : ¬ ns.length < 1000) => refBput_full B T 3 v ns g nd w1 h1.bldr hl)
 have hk0:=lhi (ChP.of_below (T:=T) (v:=v) hb0)
 have hh0:=lhi h0
 clear h h0 hf
 obtain ⟨nd',hnd⟩ : ∃ x,x = nd:=⟨_,rfl⟩
 rw [← hnd]
 rw [← hnd] at hP hQ hh0 c2 hN0 hb0 hk0
 generalize hnn : ns ++ [nd'] = nn at hP
 replace hnn:=lhi hnn
 replace hnd:=lhi hnd
 obtain ⟨kd,a,b,lo,hi',gr,s⟩:=nd'
 rw [show nodC ⟨kd,a,b,lo,hi',gr,s⟩ = #[.int .i64 kd,.int .i64 a,.int .i64 b,.int .i64 lo,.int .i64 hi',.int .i64 gr,.int .u64 (wd s 0 : Nat),.int .u64 (wd s 1 : Nat),.int .u64 (wd s 2 : Nat),.int .u64 (wd s 3 : Nat)] from rfl] at hN0 hb0 hh0 c2 hk0
 simp only [nodV_lit] at hP hQ ⊢
 generalize wd s 0 = s0 at *
 generalize wd s 1 = s1 at *
 generalize wd s 2 = s2 at *
 generalize wd s 3 = s3 at *
 have hN1:=lhi hN0.drew
 have hB1:=lhi (hh0.out.keep (Below.refl _ _).drew)
 have hk1:=lhi (hk0.out.trans (ChP.of_below (Below.refl _ _).drew))
 clear hN0 hh0 hb0 hk0
 by_cases hl : ns.length < 1000
 · have hl':=lhi hl
   have hlz : ¬ (ns.length : Int) < 0:=by omega
   generalize hL : (ns.length : Int) = L at *
   replace hL:=lhi hL
   clear hl hQ
   go_enter Tryz.func30,Tryz.ntmps30
   go_wp2
   go_region_held3 (fun w' => w'.cell? ⟨w.heap.size,0,none⟩ = some (.int .i64 kd) ∧ w'.cell? ⟨w.heap.size,1,none⟩ = some (.int .i64 a) ∧ w'.cell? ⟨w.heap.size,2,none⟩ = some (.int .i64 b) ∧ w'.cell? ⟨w.heap.size,3,none⟩ = some (.int .i64 lo) ∧ w'.cell? ⟨w.heap.size,4,none⟩ = some (.int .i64 hi') ∧ w'.cell? ⟨w.heap.size,5,none⟩ = some (.int .i64 gr) ∧ w'.cell? ⟨w.heap.size,6,none⟩ = some (.int .u64 (s0 : Int)) ∧ w'.cell? ⟨w.heap.size,7,none⟩ = some (.int .u64 (s1 : Int)) ∧ w'.cell? ⟨w.heap.size,8,none⟩ = some (.int .u64 (s2 : Int)) ∧ w'.cell? ⟨w.heap.size,9,none⟩ = some (.int .u64 (s3 : Int)))
    (first | exact hN1.out.cells10 | go_keep)
    (first
    | (go_at_call 50;refine (hP.out _ hB1.out hl'.out).mono ?_;rintro x w2 ⟨v2,rfl,h2,k2⟩;have h3:=lhi (hB1.out.built (nlr _) h2 k2);replace k2:=k2.chp;replace hN1:=lhi (hN1.out.chp k2 hne.symm hap.out);replace k2:=lhi (hk1.out.trans k2);clear h2))
   all_goals
    go_wp2
    go_ret
    exact .inl ⟨hl'.out,v2,(by show Ending.returned (.int .i64 L) = _;rw [hL.out]),(by rw [hnn.out];exact h3.out),k2.out⟩
 · have hl':=lhi hl
   clear hl hP
   go_enter Tryz.func30,Tryz.ntmps30
   go_wp2
   go_region_held3 (fun w' => w'.cell? ⟨w.heap.size,0,none⟩ = some (.int .i64 kd) ∧ w'.cell? ⟨w.heap.size,1,none⟩ = some (.int .i64 a) ∧ w'.cell? ⟨w.heap.size,2,none⟩ = some (.int .i64 b) ∧ w'.cell? ⟨w.heap.size,3,none⟩ = some (.int .i64 lo) ∧ w'.cell? ⟨w.heap.size,4,none⟩ = some (.int .i64 hi') ∧ w'.cell? ⟨w.heap.size,5,none⟩ = some (.int .i64 gr) ∧ w'.cell? ⟨w.heap.size,6,none⟩ = some (.int .u64 (s0 : Int)) ∧ w'.cell? ⟨w.heap.size,7,none⟩ = some (.int .u64 (s1 : Int)) ∧ w'.cell? ⟨w.heap.size,8,none⟩ = some (.int .u64 (s2 : Int)) ∧ w'.cell? ⟨w.heap.size,9,none⟩ = some (.int .u64 (s3 : Int)))
    (first | exact hN1.out.cells10 | go_keep)
    (first
    | (go_at_call 50;refine (hQ.out _ hB1.out hl'.out).mono ?_;rintro x w2 ⟨v2,rfl,h2,k2⟩;have h3:=hB1.out.built (nlr _) h2 k2;replace k2:=k2.chp;replace hN1:=lhi (hN1.out.chp k2 hne.symm hap.out);have e2:=h3.c2;have t2:=h3.thawed 2;have h4:=lhi (h3.erred 8 (z:=8) rfl);have k4:=lhi ((hk1.out.trans k2).trans (ChP.store w2 T 2 (.int .i64 8) v2));clear h2 h3 k2))
   all_goals
    go_wp2
    go_ret
    exact .inr ⟨hl'.out,v2,rfl,h4.out,k4.out⟩
theorem rput_off (h : Rdr w B T A n c l v ns g i cl e) (he : e ≠ 0) (nd : Nod) :
    Calls Tryz.prog 30 #[.pointer (some ⟨T,0,none⟩),nodV nd] w fun x w' => x = .returned (.int .i64 0) ∧ Below w.heap.size w w':=by
 have hb0 : Below w.heap.size w (w.alloc (.cells (nodC nd) 43)):=(Below.refl _ _).alloc (nlr _) _
 have c2:=(h.keep hb0).c2
 have heb : ((e : Int) != 0) = true:=by rw [bne_iff_ne];omega
 replace hb0:=lhi hb0
 clear h he
 show Calls Tryz.prog 30 #[.pointer (some ⟨T,0,none⟩),.agg (nodC nd)] w _
 go_enter Tryz.func30,Tryz.ntmps30
 go_wp2
 go_ret
 exact ⟨rfl,hb0.out⟩
end
theorem inRow_al (c : UInt8) : inRow [65,90,97,122,48,57] (c.toNat : Int) = isAl c:=by
 unfold isAl cAlnum cAlpha cUpper cLower cDigit
 rw [Bool.eq_iff_iff]
 simp [inRow,isW]
 omega
theorem refAlnum_any (c : UInt8) (w : World) : Calls Tryz.prog 97 #[.int .i64 (c.toNat : Int)] w fun e w' => e = .returned (.bool (isAl c)) ∧ w = w':=by
 have h0 : (0 : Int) ≤ (c.toNat : Int):=by omega
 have h1 : (c.toNat : Int) < 256:=by have:=UInt8.toNat_lt c;omega
 have hw : IntKind.u8.wrap (c.toNat : Int) = (c.toNat : Int):=IntWalk.u8_in _ (by omega)
 have hI:=lhi (in_any ⟨#[65,90,97,122,48,57]⟩ (c.toNat : Int) w (by decide))
 rw [show inRow (ByteArray.mk #[65,90,97,122,48,57]).data.toList (c.toNat : Int) = isAl c from inRow_al c] at hI
 generalize isAl c = r at *
 generalize (c.toNat : Int) = d at *
 go_enter Tryz.func97,Tryz.ntmps97
 go_wp2_with (go_at_call 119;refine (hI.out).mono ?_;rintro e w' ⟨rfl,rfl⟩)
 go_ret
 exact ⟨rfl,rfl⟩
theorem oneF_more (c : UInt8) : (fun x => noneF x || decide (x = c.toNat)) = oneF c:=by
 funext x
 simp [noneF,oneF,oneF.ofB,eq_comm]
theorem or_zero_u64 (n : Nat) (hn : n < 18446744073709551616) : bits .or .u64 ((0 : Nat) : Int) (n : Int) = (n : Int):=by
 rw [bits_or_u64_nat 0 n (by decide) hn,Nat.zero_or]
theorem one_cells (c : UInt8) {K i : Nat} (he : c.toNat = 64 * K + i) (hi : i < 64) (hK : K = 0 ∨ K = 1 ∨ K = 2 ∨ K = 3) (w : World) : setC (oneF c) = (setC noneF).setIfInBounds K (.int .u64 ((bitN c.toNat : Nat) : Int)):=by
 have hz:=set_new w noneF
 have hs:=hz.more he hi hK
 rw [oneF_more,show wd noneF K = 0 from wd_none K,or_zero_u64 _ (bitN_lt _)] at hs
 have h2:=heap_setCell_same _ w.heap.size K _ _ (.int .u64 ((bitN c.toNat : Nat) : Int)) hz
 unfold SetAt at hs
 rw [hs] at h2
 injection h2 with h2
 injection h2
theorem refOne_any (c : UInt8) (w : World) : Calls Tryz.prog 14 #[.int .u8 (c.toNat : Int)] w fun e w' => e = .returned (.agg (setC (oneF c))) ∧ Below w.heap.size w w':=by
 have hc : c.toNat < 256:=UInt8.toNat_lt c
 obtain ⟨K,i,he,hi,hK⟩:=byte_parts c.toNat hc
 have h0:=tdiv_of he hi
 have h1:=ediv_of he hi
 have hset:=one_cells c he hi hK w
 rw [hset,setC_noneF]
 have m1 : (0 : Int) ≤ (c.toNat : Int) % 64:=by omega
 have m2 : (c.toNat : Int) % 64 ≤ 64:=by omega
 have mt : ((c.toNat : Int) % 64).toNat = c.toNat % 64:=by omega
 have hpw : IntKind.u64.wrap ((2 : Int) ^ (c.toNat % 64)) = ((bitN c.toNat : Nat) : Int):=by
  rw [show (2 : Int) ^ (c.toNat % 64) = ((bitN c.toNat : Nat) : Int) by simp [bitN]]
  exact IntWalk.u64_in _ (by have:=bitN_lt c.toNat;omega)
 clear he hi hc hset
 generalize c.toNat = x at *
 generalize bitN x = bt at *
 rcases hK with rfl | rfl | rfl | rfl
 all_goals
  go_enter Tryz.func14,Tryz.ntmps14
  go_wp2
 all_goals
  exact bodyPost_ret (results_cell_row Tryz.results14 _ _ w.heap.size 41 _ (0,0) _ rfl ((held_new w 41 _).alloc _) Tryz.underlying41 rfl (by kernel_rfl)) rfl ⟨rfl,((Below.refl w.heap.size w).alloc (nlr _) _).alloc (by simp) _⟩
def RNode (pc : Bool) (w : World) (B T : Nat) (A : Option Addr) (n c : Nat) (l : List UInt8) (v : Value) (ns : List Nod) (g i : Nat) (cl : Nat → Bool) (inG : Bool) (e : Ending) (w' : World) : Prop :=
 (∃ x v' ns' g' i' cl',e = .returned (.int .i64 x) ∧ okP (ns'.length : Int) x = true ∧ Rdr w' B T A n c l v' ns' g' i' cl' 0 ∧ ChP w w' T v v' ∧ ns.length ≤ ns'.length ∧ g ≤ g' ∧ i < i' ∧ (pc = true → bg [92,123] (l.drop i') = false) ∧
  ∀ ps lv,lv.isEmpty = !inG → Steps l ⟨.L,i,ns,g,cl,ps,lv⟩ ⟨toC pc x,i',ns',g',cl',toP pc x ps,lv⟩) ∨
 (∃ x v' ns' g' i' cl' q,q ≠ 0 ∧ e = .returned (.int .i64 x) ∧ Rdr w' B T A n c l v' ns' g' i' cl' q ∧ ChP w w' T v v' ∧ ∀ ps lv,lv.isEmpty = !inG → Ends l ⟨.L,i,ns,g,cl,ps,lv⟩ (.bad i' q))
def RBad (w : World) (B T : Nat) (A : Option Addr) (n c : Nat) (l : List UInt8) (v : Value) (i q : Nat) (e : Ending) (w' : World) : Prop :=
 ∃ x v' ns g cl,e = .returned (.int .i64 x) ∧ Rdr w' B T A n c l v' ns g i cl q ∧ ChP w w' T v v'
section
variable {w w' : World} {B T : Nat} {A : Option Addr} {n c : Nat} {l : List UInt8} {v v' : Value} {ns ns' : List Nod} {g g' i i' : Nat} {cl cl' : Nat → Bool} {inG : Bool} {e : Ending}
theorem RPut.node {j : Nat} {nd : Nod} (h : RPut w B T A n c l v ns g j cl nd e w') (hi : i < l.length) (hc : inG = true → bg [92,41] (l.drop i) = false) (ha : atomA l i = .nod j nd) (hj : i < j) : RNode false w B T A n c l v ns g i cl inG e w':=by
 rcases h with ⟨hl,v',rfl,k,m⟩ | ⟨hl,v',rfl,k,m⟩
 · refine .inl ⟨_,v',_,_,_,_,rfl,?_,k,m,by simp,nlr _,hj,(fun e => by cases e),fun ps lv hlv => .one ?_⟩
   · rw [lla];exact okP_last _
   · rw [step_atom hi hc hlv,ha]
     simp only [stepA,putS]
     rw [if_pos hl];rfl
 · refine .inr ⟨_,v',_,_,_,_,_,by decide,rfl,k,m,fun ps lv hlv => .bad ?_⟩
   rw [step_atom hi hc hlv,ha]
   simp only [stepA,putS]
   rw [if_neg hl]
theorem RPut.bak {q : Nat} (h : RPut w B T A n c l v ns g (i + 2) cl (backN (q : Int)) e w') (hi : i < l.length) (hc : inG = true → bg [92,41] (l.drop i) = false) (ha : atomA l i = .bak q) (hq : cl q = true) : RNode false w B T A n c l v ns g i cl inG e w':=by
 rcases h with ⟨hl,v',rfl,k,m⟩ | ⟨hl,v',rfl,k,m⟩
 · refine .inl ⟨_,v',_,_,_,_,rfl,?_,k,m,by simp,nlr _,by omega,(fun e => by cases e),fun ps lv hlv => .one ?_⟩
   · rw [lla];exact okP_last _
   · rw [step_atom hi hc hlv,ha]
     simp only [stepA,putS]
     rw [if_pos hq,if_pos hl];rfl
 · refine .inr ⟨_,v',_,_,_,_,_,by decide,rfl,k,m,fun ps lv hlv => .bad ?_⟩
   rw [step_atom hi hc hlv,ha]
   simp only [stepA,putS]
   rw [if_pos hq,if_neg hl]
theorem RBad.node {pc : Bool} {q : Nat} (h : RBad w B T A n c l v i q e w') (hi : i < l.length) (hc : inG = true → bg [92,41] (l.drop i) = false) (hs : ∀ ps lv,stepA ⟨.L,i,ns,g,cl,ps,lv⟩ (atomA l i) = .bad i q) (hq : q ≠ 0) : RNode pc w B T A n c l v ns g i cl inG e w':=by
 obtain ⟨x,v',ns',g',cl',rfl,k,m⟩:=h
 refine .inr ⟨x,v',_,_,_,_,_,hq,rfl,k,m,fun ps lv hlv => .bad ?_⟩
 rw [step_atom hi hc hlv,hs]
theorem RNode.ret {pc : Bool} (h : RNode pc w B T A n c l v ns g i cl inG e w') : ∃ z,e = .returned (.int .i64 z) ∧ RNode pc w B T A n c l v ns g i cl inG (.returned (.int .i64 z)) w':=by
 rcases h with ⟨x,v',ns',g',i',cl',rfl,h⟩ | ⟨x,v',ns',g',i',cl',q,hq,rfl,h⟩
 · exact ⟨_,rfl,.inl ⟨x,v',ns',g',i',cl',rfl,h⟩⟩
 · exact ⟨_,rfl,.inr ⟨x,v',ns',g',i',cl',q,hq,rfl,h⟩⟩
theorem RNode.from {pc : Bool} {w0 : World} {v0 : Value} (h : RNode pc w B T A n c l v ns g i cl inG e w') (h0 : ChP w0 w T v0 v) : RNode pc w0 B T A n c l v0 ns g i cl inG e w':=by
 rcases h with ⟨x,v',ns',g',i',cl',h1,h2,h3,h4,h5⟩ | ⟨x,v',ns',g',i',cl',q,h1,h2,h3,h4,h5⟩
 · exact .inl ⟨x,v',ns',g',i',cl',h1,h2,h3,h0.trans h4,h5⟩
 · exact .inr ⟨x,v',ns',g',i',cl',q,h1,h2,h3,h0.trans h4,h5⟩
end
theorem set_lit (s : Nat → Bool) : ∃ s0 s1 s2 s3 : Nat,setC s = #[.int .u64 (s0 : Int),.int .u64 (s1 : Int),.int .u64 (s2 : Int),.int .u64 (s3 : Int)] ∧
    nodV (setN s) = .agg #[.int .i64 1,.int .i64 0,.int .i64 0,.int .i64 0,.int .i64 0,.int .i64 0,.int .u64 (s0 : Int),.int .u64 (s1 : Int),.int .u64 (s2 : Int),.int .u64 (s3 : Int)] :=
 ⟨wd s 0,wd s 1,wd s 2,wd s 3,rfl,nodV_lit 1 0 0 0 0 0 s⟩
def RAm (w : World) (B T : Nat) (A : Option Addr) (n c : Nat) (l : List UInt8) (v : Value) (ns : List Nod) (g i : Nat) (cl : Nat → Bool) (a : Am) (e : Ending) (w' : World) : Prop:=match a with
 | .bad q => RBad w B T A n c l v i q e w'
 | .opn => False
 | .bak q => if cl q = true then RPut w B T A n c l v ns g (i + 2) cl (backN (q : Int)) e w' else RBad w B T A n c l v i 16 e w'
 | .nod j nd => RPut w B T A n c l v ns g j cl nd e w'
section
variable {w : World} {B T : Nat} {A : Option Addr} {n c : Nat} {l : List UInt8} {v : Value} {ns : List Nod} {g i : Nat} {cl : Nat → Bool} (h : Rdr w B T A n c l v ns g i cl 0) {inG : Bool}
include h
theorem rescape_0 (hx : l.drop i = [92]) : Calls Tryz.prog 75 #[.pointer (some ⟨T,0,none⟩)] w (RAm w B T A n c l v ns g i cl (escE i [])):=by
 obtain ⟨hi,-,hr⟩:=drop_at hx
 have hN:=lhi (next_at h 1 1 rfl (by decide))
 rw [show nx l (i + 1) = -1 from by rw [nx_drop,hx];rfl] at hN
 have hP:=lhi (fun w1 (hb : Below w.heap.size w w1) => h.keep hb)
 have hfin:=lhi (fun (w' : World) (x : Ending) (y : RBad w B T A n c l v i 10 x w') => show RAm w B T A n c l v ns g i cl (escE i []) x w' from y)
 clear h hx hi hr
 go_enter Tryz.func75,Tryz.ntmps75
 go_wp2_with (go_at_call 51;refine (hN.out).mono ?_;rintro e w1 ⟨rfl,hb1⟩;have h1:=hP.out _ hb1;have c2:=h1.c2;have t2:=h1.thawed 2;have h2:=lhi (h1.erred 10 (z:=10) rfl);have k2:=lhi ((ChP.of_below (T:=T) (v:=v) hb1).trans (ChP.store w1 T 2 (.int .i64 10) v));clear h1)
 go_ret
 exact hfin.out _ _ ⟨0,v,_,_,_,rfl,h2.out,k2.out⟩
theorem rescape_bak {x : UInt8} {r : List UInt8} (hx : l.drop i = 92 :: x :: r) (h1 : 49 ≤ x) (h9 : x ≤ 57) :
    Calls Tryz.prog 75 #[.pointer (some ⟨T,0,none⟩)] w (RAm w B T A n c l v ns g i cl (escE i (x :: r))):=by
 obtain ⟨hi,-,hr⟩:=drop_at hx
 obtain ⟨hi1,hx1,-⟩:=drop_at hr
 have hns : n ≤ 1000000:=h.txt.2.2.2.1
 have hi2 : i + 2 ≤ n:=by have:=h.hn;omega
 have hi0 : (i : Int) ≤ 1000000:=by omega
 have hN:=lhi (next_at h 1 1 rfl (by decide))
 rw [show nx l (i + 1) = (x.toNat : Int) from nx_some hx1] at hN
 have d1 : 49 ≤ x.toNat:=UInt8.le_iff_toNat_le.1 h1
 have d9 : x.toNat ≤ 57:=UInt8.le_iff_toNat_le.1 h9
 obtain ⟨q,hq⟩ : ∃ q,q = x.toNat - 48:=⟨_,rfl⟩
 have e1 : 49 ≤ (x.toNat : Int):=by omega
 have e9 : (x.toNat : Int) ≤ 57:=by omega
 have hw : IntKind.i64.wrap ((x.toNat : Int) - 48) = (q : Int):=by rw [IntWalk.i64_in _ (by omega)];omega
 have q0 : (0 : Int) ≤ (q : Int):=by omega
 have q9 : (q : Int) < 10:=by omega
 have hq9 : q ≤ 9:=by omega
 have ha : escE i (x :: r) = .bak q:=by
  rw [hq]
  simp only [escE]
  rw [if_neg (by rintro rfl;exact absurd d9 (by decide)),if_pos ⟨h1,h9⟩]
 rw [ha]
 have hP:=lhi (fun w1 (hb : Below w.heap.size w w1) => h.keep hb)
 by_cases hcl : cl q = true
 · have hqg:=h.clg q hcl
   have hf:=lhi (fits_back (q:=(q : Int)) (t:=(ns.length : Int)) (g:=(g : Int)) (by omega) (by omega))
   have hU:=lhi (fun w1 (h1 : Rdr w1 B T A n c l v ns g (i + 2) cl 0) => rput_any h1 (backN (q : Int)) hf.out)
   rw [show nodV (backN (q : Int)) = _ from nodV_z 6 0 0 0 0 (q : Int)] at hU
   have hfin:=lhi (fun (w' : World) (x : Ending) (y : RPut w B T A n c l v ns g (i + 2) cl (backN (q : Int)) x w') => show RAm w B T A n c l v ns g i cl (.bak q) x w' from by simp only [RAm];rw [if_pos hcl];exact y)
   replace hcl:=lhi hcl
   clear h hx hx1 hr hi hi1 ha hq d1 d9 h1 h9 hqg
   generalize (x.toNat : Int) = d at *
   go_enter Tryz.func75,Tryz.ntmps75
   go_wp2_with (first
    | (go_at_call 51;refine (hN.out).mono ?_;rintro e w1 ⟨rfl,hb1⟩;have h1:=hP.out _ hb1;have cq:=h1.cQ q hq9;rw [hcl.out] at cq;have c1:=h1.c1;have t1:=h1.thawed 1;have h2:=lhi (h1.goto hi2 (z:=(i : Int) + 2) (by omega));have k2:=lhi ((ChP.of_below (T:=T) (v:=v) hb1).trans (ChP.store w1 T 1 (.int .i64 ((i : Int) + 2)) v));clear h1)
    | (go_at_call 30;refine (hU.out _ h2.out).mono ?_;intro x w3 hy;obtain ⟨z,rfl,hy⟩:=hy.ret;replace hy:=lhi (hfin.out _ _ (hy.from k2.out))))
   go_ret
   exact hy.out
 · have hcl' : cl q = false:=by simpa using hcl
   have hfin:=lhi (fun (w' : World) (x : Ending) (y : RBad w B T A n c l v i 16 x w') => show RAm w B T A n c l v ns g i cl (.bak q) x w' from by simp only [RAm];rw [if_neg hcl];exact y)
   replace hcl':=lhi hcl'
   clear h hx hx1 hr hi hi1 ha hq d1 d9 h1 h9 hcl
   generalize (x.toNat : Int) = d at *
   go_enter Tryz.func75,Tryz.ntmps75
   go_wp2_with (go_at_call 51;refine (hN.out).mono ?_;rintro e w1 ⟨rfl,hb1⟩;have h1:=hP.out _ hb1;have cq:=h1.cQ q hq9;rw [hcl'.out] at cq;have c2:=h1.c2;have t2:=h1.thawed 2;have h2:=lhi (h1.erred 16 (z:=16) rfl);have k2:=lhi ((ChP.of_below (T:=T) (v:=v) hb1).trans (ChP.store w1 T 2 (.int .i64 16) v));clear h1)
   go_ret
   exact hfin.out _ _ ⟨0,v,_,_,_,rfl,h2.out,k2.out⟩
theorem rescape_n {r : List UInt8} (hx : l.drop i = 92 :: 110 :: r) :
    Calls Tryz.prog 75 #[.pointer (some ⟨T,0,none⟩)] w (RAm w B T A n c l v ns g i cl (escE i (110 :: r))):=by
 obtain ⟨hi,-,hr⟩:=drop_at hx
 obtain ⟨hi1,hx1,-⟩:=drop_at hr
 have hns : n ≤ 1000000:=h.txt.2.2.2.1
 have hi2 : i + 2 ≤ n:=by have:=h.hn;omega
 have hi0 : (i : Int) ≤ 1000000:=by omega
 have hN:=lhi (next_at h 1 1 rfl (by decide))
 rw [show nx l (i + 1) = 110 from nx_some hx1] at hN
 have ha : escE i (110 :: r) = .nod (i + 2) (setN (oneF 10)):=by simp only [escE,ofL_one];rfl
 rw [ha]
 have hP:=lhi (fun w1 (hb : Below w.heap.size w w1) => h.keep hb)
 have hA:=lhi (fun w => refAlnum_any 110 w)
 rw [show isAl 110 = true by decide] at hA
 replace hA:=lhi (show ∀ w,Calls Tryz.prog 97 #[.int .i64 110] w fun e w' => e = .returned (.bool true) ∧ w = w' from hA.out)
 have hO:=lhi (show ∀ w,Calls Tryz.prog 14 #[.int .u8 10] w fun e w' => e = .returned (.agg (setC (oneF 10))) ∧ Below w.heap.size w w' from fun w => refOne_any 10 w)
 have hU:=lhi (fun w1 (h1 : Rdr w1 B T A n c l v ns g (i + 2) cl 0) => rput_any h1 (setN (oneF 10)) (fits_set _ _ _))
 have hfin:=lhi (fun (w' : World) (x : Ending) (y : RPut w B T A n c l v ns g (i + 2) cl (setN (oneF 10)) x w') => show RAm w B T A n c l v ns g i cl (.nod (i + 2) (setN (oneF 10))) x w' from y)
 obtain ⟨s0,s1,s2,s3,es,en⟩:=set_lit (oneF 10)
 rw [es] at hO
 rw [en] at hU
 clear h hx hx1 hr hi hi1 ha es en
 go_enter Tryz.func75,Tryz.ntmps75
 go_wp2_with (first
  | (go_at_call 51;refine (hN.out).mono ?_;rintro e w1 ⟨rfl,hb1⟩;have h1:=hP.out _ hb1;have c1:=h1.c1;have t1:=h1.thawed 1;have h2:=lhi (h1.goto hi2 (z:=(i : Int) + 2) (by omega));have k2:=lhi ((ChP.of_below (T:=T) (v:=v) hb1).trans (ChP.store w1 T 1 (.int .i64 ((i : Int) + 2)) v));clear h1)
  | (go_at_call 97;refine (hA.out _).mono ?_;rintro e w' ⟨rfl,rfl⟩)
  | (go_at_call 14;refine (hO.out _).mono ?_;rintro e w3 ⟨rfl,hb3⟩;have h3:=lhi (h2.out.keep hb3);have k3:=lhi (k2.out.trans (ChP.of_below hb3));clear hb3)
  | (go_at_call 30;refine (hU.out _ h3.out).mono ?_;intro x w4 hy;obtain ⟨z,rfl,hy⟩:=hy.ret;replace hy:=lhi (hfin.out _ _ (hy.from k3.out))))
 go_ret
 exact hy.out
theorem rescape_else {x : UInt8} {r : List UInt8} (hx : l.drop i = 92 :: x :: r) (h110 : x ≠ 110) (hdg : ¬ (49 ≤ x ∧ x ≤ 57)) :
    Calls Tryz.prog 75 #[.pointer (some ⟨T,0,none⟩)] w (RAm w B T A n c l v ns g i cl (escE i (x :: r))):=by
 obtain ⟨hi,-,hr⟩:=drop_at hx
 obtain ⟨hi1,hx1,-⟩:=drop_at hr
 have hns : n ≤ 1000000:=h.txt.2.2.2.1
 have hi2 : i + 2 ≤ n:=by have:=h.hn;omega
 have hi0 : (i : Int) ≤ 1000000:=by omega
 have hN:=lhi (next_at h 1 1 rfl (by decide))
 rw [show nx l (i + 1) = (x.toNat : Int) from nx_some hx1] at hN
 have hxl : x.toNat < 256:=UInt8.toNat_lt x
 have edg : (x.toNat : Int) < 49 ∨ 57 < (x.toNat : Int):=by
  by_cases e1 : (x.toNat : Int) < 49
  · exact .inl e1
  · by_cases e2 : 57 < (x.toNat : Int)
    · exact .inr e2
    · exact absurd ⟨UInt8.le_iff_toNat_le.2 (by show 49 ≤ x.toNat;omega),UInt8.le_iff_toNat_le.2 (by show x.toNat ≤ 57;omega)⟩ hdg
 have hP:=lhi (fun w1 (hb : Below w.heap.size w w1) => h.keep hb)
 have hA:=lhi (fun w => refAlnum_any x w)
 have hO:=lhi (fun w => refOne_any x w)
 have hU:=lhi (fun w1 (h1 : Rdr w1 B T A n c l v ns g (i + 2) cl 0) => rput_any h1 (setN (oneF x)) (fits_set _ _ _))
 have hfin1:=lhi (fun (ha : isAl x = false) (w' : World) (z : Ending) (y : RPut w B T A n c l v ns g (i + 2) cl (setN (oneF x)) z w') => show RAm w B T A n c l v ns g i cl (escE i (x :: r)) z w' from by
  rw [show escE i (x :: r) = .nod (i + 2) (setN (oneF x)) from by simp only [escE,ofL_one];rw [if_neg h110,if_neg hdg,if_neg (by rw [ha];decide)]];exact y)
 have hfin2:=lhi (fun (ha : isAl x = true) (w' : World) (z : Ending) (y : RBad w B T A n c l v i 10 z w') => show RAm w B T A n c l v ns g i cl (escE i (x :: r)) z w' from by
  rw [show escE i (x :: r) = .bad 10 from by simp only [escE];rw [if_neg h110,if_neg hdg,if_pos ha]];exact y)
 obtain ⟨s0,s1,s2,s3,es,en⟩:=set_lit (oneF x)
 rw [es] at hO
 rw [en] at hU
 have e110 : ((x.toNat : Int) == 110) = false:=u8_ne h110
 have e110' : ((x.toNat : Int) != 110) = true:=by rw [bne_iff_ne];intro e;exact h110 (UInt8.toNat_inj.1 (show x.toNat = 110 by omega))
 have e0 : ¬ (x.toNat : Int) < 0:=by omega
 have e0' : (0 : Int) ≤ (x.toNat : Int):=by omega
 have hw8 : IntKind.u8.wrap (x.toNat : Int) = (x.toNat : Int):=IntWalk.u8_in _ (by omega)
 generalize hal : isAl x = al at *
 generalize escE i (x :: r) = am at *
 clear h hx hx1 hr hi hi1 es en h110 hdg hxl hal
 generalize (x.toNat : Int) = d at *
 cases al with
 | true =>
  replace hfin2:=lhi (hfin2.out rfl)
  clear hfin1 hO hU
  rcases edg with e1 | e1
  · have e2 : ¬ 49 ≤ d:=by omega
    go_enter Tryz.func75,Tryz.ntmps75
    go_wp2_with (first
     | (go_at_call 51;refine (hN.out).mono ?_;rintro e w1 ⟨rfl,hb1⟩;have h1:=hP.out _ hb1;have c2:=h1.c2;have t2:=h1.thawed 2;have h2:=lhi (h1.erred 10 (z:=10) rfl);have k2:=lhi ((ChP.of_below (T:=T) (v:=v) hb1).trans (ChP.store w1 T 2 (.int .i64 10) v));clear h1)
     | (go_at_call 97;refine (hA.out _).mono ?_;rintro e w' ⟨rfl,rfl⟩))
    go_ret
    exact hfin2.out _ _ ⟨0,v,_,_,_,rfl,h2.out,k2.out⟩
  · have e2 : 49 ≤ d:=by omega
    have e3 : ¬ d ≤ 57:=by omega
    go_enter Tryz.func75,Tryz.ntmps75
    go_wp2_with (first
     | (go_at_call 51;refine (hN.out).mono ?_;rintro e w1 ⟨rfl,hb1⟩;have h1:=hP.out _ hb1;have c2:=h1.c2;have t2:=h1.thawed 2;have h2:=lhi (h1.erred 10 (z:=10) rfl);have k2:=lhi ((ChP.of_below (T:=T) (v:=v) hb1).trans (ChP.store w1 T 2 (.int .i64 10) v));clear h1)
     | (go_at_call 97;refine (hA.out _).mono ?_;rintro e w' ⟨rfl,rfl⟩))
    go_ret
    exact hfin2.out _ _ ⟨0,v,_,_,_,rfl,h2.out,k2.out⟩
 | false =>
  replace hfin1:=lhi (hfin1.out rfl)
  clear hfin2
  rcases edg with e1 | e1
  · have e2 : ¬ 49 ≤ d:=by omega
    go_enter Tryz.func75,Tryz.ntmps75
    go_wp2_with (first
     | (go_at_call 51;refine (hN.out).mono ?_;rintro e w1 ⟨rfl,hb1⟩;have h1:=hP.out _ hb1;have c1:=h1.c1;have t1:=h1.thawed 1;have h2:=lhi (h1.goto hi2 (z:=(i : Int) + 2) (by omega));have k2:=lhi ((ChP.of_below (T:=T) (v:=v) hb1).trans (ChP.store w1 T 1 (.int .i64 ((i : Int) + 2)) v));clear h1)
     | (go_at_call 97;refine (hA.out _).mono ?_;rintro e w' ⟨rfl,rfl⟩)
     | (go_at_call 14;refine (hO.out _).mono ?_;rintro e w3 ⟨rfl,hb3⟩;have h3:=lhi (h2.out.keep hb3);have k3:=lhi (k2.out.trans (ChP.of_below hb3));clear hb3)
     | (go_at_call 30;refine (hU.out _ h3.out).mono ?_;intro x w4 hy;obtain ⟨z,rfl,hy⟩:=hy.ret;replace hy:=lhi (hfin1.out _ _ (hy.from k3.out))))
    go_ret
    exact hy.out
  · have e2 : 49 ≤ d:=by omega
    have e3 : ¬ d ≤ 57:=by omega
    go_enter Tryz.func75,Tryz.ntmps75
    go_wp2_with (first
     | (go_at_call 51;refine (hN.out).mono ?_;rintro e w1 ⟨rfl,hb1⟩;have h1:=hP.out _ hb1;have c1:=h1.c1;have t1:=h1.thawed 1;have h2:=lhi (h1.goto hi2 (z:=(i : Int) + 2) (by omega));have k2:=lhi ((ChP.of_below (T:=T) (v:=v) hb1).trans (ChP.store w1 T 1 (.int .i64 ((i : Int) + 2)) v));clear h1)
     | (go_at_call 97;refine (hA.out _).mono ?_;rintro e w' ⟨rfl,rfl⟩)
     | (go_at_call 14;refine (hO.out _).mono ?_;rintro e w3 ⟨rfl,hb3⟩;have h3:=lhi (h2.out.keep hb3);have k3:=lhi (k2.out.trans (ChP.of_below hb3));clear hb3)
     | (go_at_call 30;refine (hU.out _ h3.out).mono ?_;intro x w4 hy;obtain ⟨z,rfl,hy⟩:=hy.ret;replace hy:=lhi (hfin1.out _ _ (hy.from k3.out))))
    go_ret
    exact hy.out
theorem rescape_am {r : List UInt8} (hx : l.drop i = 92 :: r) : Calls Tryz.prog 75 #[.pointer (some ⟨T,0,none⟩)] w (RAm w B T A n c l v ns g i cl (escE i r)):=by
 cases r with
 | nil => exact rescape_0 h hx
 | cons x r =>
  by_cases h110 : x = 110
  · subst h110;exact rescape_n h hx
  by_cases hdg : 49 ≤ x ∧ x ≤ 57
  · exact rescape_bak h hx hdg.1 hdg.2
  · exact rescape_else h hx h110 hdg
theorem rescape_any {r : List UInt8} (hx : l.drop i = 92 :: r) (hc : inG = true → bg [92,41] (l.drop i) = false) (h40 : bg [40] r = false) (h41 : bg [41] r = false) (h123 : bg [123] r = false) :
    Calls Tryz.prog 75 #[.pointer (some ⟨T,0,none⟩)] w (RNode false w B T A n c l v ns g i cl inG):=by
 obtain ⟨hi,-,-⟩:=drop_at hx
 have ha : atomA l i = escA i r:=by unfold atomA;rw [hx];rfl
 rw [escA_esc i h40 h41 h123] at ha
 refine (rescape_am h hx).mono fun e w' hy => ?_
 cases hs : escE i r with
 | bad q =>
  rw [hs] at hy ha
  have hq : q = 10:=by
   cases r with
   | nil => simp only [escE] at hs;injection hs with hs;exact hs.symm
   | cons x r =>
    simp only [escE] at hs
    repeat' split at hs
    all_goals first
     | cases hs;done
     | (injection hs with hs;exact hs.symm)
  exact RBad.node hy hi hc (fun ps lv => by rw [ha];rfl) (by omega)
 | opn => rw [hs] at hy;exact hy.elim
 | bak q =>
  rw [hs] at hy ha
  simp only [RAm] at hy
  split at hy
  · exact RPut.bak hy hi hc ha (by assumption)
  · rename_i hq
    exact RBad.node hy hi hc (fun ps lv => by rw [ha];simp only [stepA];rw [if_neg hq]) (by decide)
 | nod j nd =>
  rw [hs] at hy ha
  have hj : i < j:=by
   cases r with
   | nil => cases hs
   | cons x r =>
    simp only [escE] at hs
    repeat' split at hs
    all_goals first
     | cases hs;done
     | (injection hs with hs _;omega)
  exact RPut.node hy hi hc ha hj
end
end Go.Proofs.YtonjnagcdnmcpaaGreatDoor
