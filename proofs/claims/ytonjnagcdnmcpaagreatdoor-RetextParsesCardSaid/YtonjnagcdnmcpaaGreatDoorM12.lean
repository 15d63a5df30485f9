/- Contracts and plain facts: M12. -/
import Derived.Test.YtonjnagcdnmcpaaGreatDoorM11
set_option linter.unusedVariables false
set_option linter.unusedSimpArgs false
set_option maxRecDepth 100000
set_option maxHeartbeats 32000000
namespace Go.Proofs.YtonjnagcdnmcpaaGreatDoor
open Go.RowKit
theorem node_info' : (Tryz.prog.info? 43).map (fun i => (i.zero,i.size,i.bytes)) = some (some (.agg #[.int .i64 0,.int .i64 0,.int .i64 0,.int .i64 0,.int .i64 0,.int .i64 0,.int .u64 0,.int .u64 0,.int .u64 0,.int .u64 0]),10,80):=by kernel_rfl
theorem nods_src {w : World} {B : Nat} {A : Option Addr} {ns : List Nod} (h : Nods w B A ns) : Src w A (nodsL ns):=fun j u hj => by
 have hl : j < ns.length * 10:=by have:=(List.getElem?_eq_some_iff.1 hj).1;rwa [nodsL_len] at this
 obtain ⟨ad,hA,_,hc⟩:=h (j / 10) (by omega)
 refine ⟨ad,hA,?_⟩
 have e : j / 10 * 10 + j % 10 = j:=by omega
 have:=hc (j % 10) u (by rw [← nodsL_at ns (j / 10) (j % 10) (by omega) (by omega),e];exact hj)
 rwa [e] at this
theorem own_empty (w : World) (t : TypeId) : (w.alloc (.cells #[] t)).ownsRow w.heap.size t 10 (.slice (some ⟨w.heap.size,0,none⟩) 0 0) 0 (nodsL []):=by
 refine ⟨rfl,.inr ⟨w.heap.size,0,#[],rfl,nlr _,heap_alloc_new w _,nlr _,Nat.zero_le _,rfl,rfl⟩⟩
theorem cloneNs_any (A : Option Addr) (n c : Nat) (ns : List Nod) (B : Nat) (w : World) (hn : n = ns.length) (hl : n ≤ 1000) (h : Nods w B A ns) (hB : B ≤ w.heap.size) :
    Calls Tryz.prog 64 #[.slice A n c] w fun e w' => ∃ v',e = .returned v' ∧ w'.ownsRow w.heap.size 43 10 v' ns.length (nodsL ns) ∧ Below w.heap.size w w':=by
 obtain ⟨i0,hi0,hq0,hq1,hq2⟩:=info_parts node_info'
 have hI2:=lhi hq2
 have hb0 : Below w.heap.size w (w.alloc (.cells #[] 43)):=(Below.refl _ _).alloc (nlr _) _
 have hS:=lhi (nods_src (h.below (hb0.mono hB)))
 have hE:=lhi (own_empty w 43)
 have hH:=lhi hn
 have hb:=lhi hb0
 clear hq2 hb0 hn
 cases A with
 | none =>
  have : ns = []:=by cases ns with | nil => rfl | cons x r => obtain ⟨ad,e,_⟩:=h 0 (by simp);cases e
  subst this
  obtain rfl : n = 0:=hH.out
  have he : ∀ w : World,(binOp .eql 24 (.slice none 0 c) (.slice none 0 0)).run Tryz.prog w = .ok (.bool true) w:=fun _ => rfl
  clear h
  go_enter Tryz.func64,Tryz.ntmps64
  go_wp2
  go_ret
  exact ⟨_,rfl,World.ownsRow_nil _ _ _ _,Below.refl _ _⟩
 | some ad =>
  have he : ∀ w : World,(binOp .eql 24 (.slice (some ad) n c) (.slice none 0 0)).run Tryz.prog w = .ok (.bool false) w:=fun _ => rfl
  clear h
  go_enter Tryz.func64,Tryz.ntmps64
  go_wp2_with (at_builtin;refine wpList_append_at rfl _ _ 24 rfl w.heap.size 43 i0 _ 10 80 Tryz.underlying24 hi0 hq0 hq1 hI2.out rfl (by decide) (.slice (some ⟨w.heap.size,0,none⟩) 0 0) 0 (nodsL []) rfl hE.out (some ad) n c (nodsL ns) rfl (by rw [nodsL_len,hH.out]) hS.out (nodsL_one ns) (by unfold maxLen;omega) (by omega) (by simp) ?_;intro v2 w2 hown2 hg2 hb2)
  go_ret
  refine ⟨_,rfl,?_,hb.out.grown hg2 (by simp) (fun k e => by have : w.heap.size = k:=Option.some.inj e;omega)⟩
  rw [Nat.zero_add,hH.out] at hown2
  exact hown2
def ReYes (w : World) (ns : List Nod) (g : Nat) (e : Ending) (w' : World) : Prop :=
 ∃ v',e = .returned (.tuple #[.agg #[v',.int .i64 (g : Int)],.bool true]) ∧ w'.ownsRow w.heap.size 43 10 v' ns.length (nodsL ns) ∧ Below w.heap.size w w'
def ReNo (w : World) (e : Ending) (w' : World) : Prop:=e = .returned (.tuple #[.agg #[.slice none 0 0,.int .i64 0],.bool false]) ∧ Below w.heap.size w w'
theorem cell_far2 {w : World} {a : Addr} {G : Nat} {u1 u2 v : Value} (h : w.cell? a = some v) (hne : a.block ≠ G) : ((w.setCell ⟨G,0,none⟩ u1).setCell ⟨G,1,none⟩ u2).cell? a = some v:=by
 rw [World.cell?_of_block ((heap_setCell_other (w.setCell ⟨G,0,none⟩ u1) ⟨G,1,none⟩ a.block u2 hne).trans (heap_setCell_other w ⟨G,0,none⟩ a.block u1 hne))]
 exact h
theorem own_low {w : World} {B B' : Nat} {e : TypeId} {s n : Nat} {v : Value} {xs : List Value} (h : w.ownsRow B e s v n xs) (hB : B' ≤ B) : w.ownsRow B' e s v n xs :=
 ⟨h.1,h.2.imp id fun ⟨g,cap,cur,e1,hb,r⟩ => ⟨g,cap,cur,e1,Nat.le_trans hB hb,r⟩⟩
theorem own_far {w : World} {B G : Nat} {e t : TypeId} {s n : Nat} {v : Value} {xs : List Value} {cs : Array Value} (h : Held w G t cs) (hne : e ≠ t) (ho : w.ownsRow B e s v n xs) (i : Nat) (u : Value) : (w.setCell ⟨G,i,none⟩ u).ownsRow B e s v n xs:=by
 have hb : Below 0 w (w.setCell ⟨G,i,none⟩ u):=(Below.refl 0 w).setCell (Nat.zero_le _) u
 exact ho.kept (v:=v) ⟨hb.os,hb.tape,hb.output,hb.size,fun k _ hk => Below.heap_setCell w _ u k (fun e => hk (by rw [e]))⟩ (.inr (h.not_own ho hne))
structure Fin2 (W w : World) (G : Nat) (v : Value) (ms : List Nod) (g : Nat) : Prop where
 re : Held w G 26 #[v,.int .i64 (g : Int)]
 z : Held w W.heap.size 26 #[.slice none 0 0,.int .i64 0]
 low : Below W.heap.size W w
 own : w.ownsRow W.heap.size 43 10 v ms.length (nodsL ms)
theorem Fin2.keep {W w w' : World} {G : Nat} {v : Value} {ms : List Nod} {g : Nat} (h : Fin2 W w G v ms g) (hb : Below w.heap.size w w') : Fin2 W w' G v ms g:=⟨h.re.keep hb,h.z.keep hb,h.low.trans (hb.mono h.low.size),own_below h.own hb⟩
structure St2 (W w : World) (B T o : Nat) (v : Value) (ns : List Nod) (g : Nat) : Prop where
 b : Bldr w B T o v ns g
 z : Held w W.heap.size 26 #[.slice none 0 0,.int .i64 0]
 low : Below W.heap.size W w
theorem St2.keep {W w w' : World} {B T o : Nat} {v : Value} {ns : List Nod} {g : Nat} (h : St2 W w B T o v ns g) (hb : Below w.heap.size w w') : St2 W w' B T o v ns g:=⟨h.b.keep hb,h.z.keep hb,h.low.trans (hb.mono h.low.size)⟩
theorem re_in (B T o : Nat) (v : Value) (ns : List Nod) (g : Nat) (x : Nat) (w : World) (h : Bldr w B T o v ns g) (hx : x < ns.length) :
    Calls Tryz.prog 40 #[.pointer (some ⟨T,o,none⟩),.int .i64 (x : Int)] w fun e w' => (rightN (ns.take (x + 1)) (g : Int) = true ∧ ReYes w (ns.take (x + 1)) g e w') ∨ (rightN (ns.take (x + 1)) (g : Int) = false ∧ ReNo w e w'):=by
 have hb : Below w.heap.size w (w.alloc (.cells #[.slice none 0 0,.int .i64 0] 26)):=(Below.refl _ _).alloc (nlr _) _
 have h1:=h.keep hb
 have hH:=lhi (bhas_any B T o v ns g (x : Int) _ h1)
 rw [okP_yes (by omega) (by omega)] at hH
 have hTl:=lhi h.lt
 obtain ⟨A,cap,rfl,hk1,hk2,hN⟩:=h.slice
 have hl:=h.len
 have hZ:=held_new w 26 #[.slice none 0 0,.int .i64 0]
 have hC:=lhi (fun (w' : World) (hb' : Below w.heap.size w w') => cloneNs_any A (x + 1) cap (ns.take (x + 1)) w.heap.size w' (by rw [List.length_take];omega) (by omega) ((hN.take (x + 1)).below hb') hb'.size)
 have hb':=lhi hb
 have h1':=lhi h1
 have hZ':=lhi hZ
 have hlen : (ns.take (x + 1)).length = x + 1:=by rw [List.length_take];omega
 generalize ns.take (x + 1) = ms at *
 unfold maxLen at hk2
 replace hlen:=lhi hlen
 have hs1 : IntKind.i64.wrap ((x : Int) + 1) = (x : Int) + 1:=IntWalk.i64_in _ (by omega)
 have hs2 : ((x : Int) + 1).toNat = x + 1:=by omega
 have hs3 : (0 : Int) ≤ (x : Int) + 1:=by omega
 have hs4 : (x : Int) + 1 ≤ (cap : Int):=by omega
 generalize hL : ns.length = L at *
 replace hL:=lhi hL
 clear hb h1 h hN hZ
 go_enter Tryz.func40,Tryz.ntmps40
 go_wp2_with (go_at_call 63;refine (hH.out).mono ?_;rintro e w' ⟨rfl,rfl⟩)
 have hTne : T ≠ w.heap.size + 1:=by have:=hTl.out;omega
 have hS1:=lhi (show St2 w (w.alloc (.cells #[.slice none 0 0,.int .i64 0] 26)).drew B T o (.slice A L cap) ns g from ⟨h1'.out.drew,hZ'.out.drew,hb'.out.drew⟩)
 have hS2:=lhi (show St2 w ((w.alloc (.cells #[.slice none 0 0,.int .i64 0] 26)).alloc (.cells #[.slice none 0 0,.int .i64 0] 26)).drew B T o (.slice A L cap) ns g from
  ⟨(h1'.out.keep ((Below.refl _ _).alloc (nlr _) _)).drew,(hZ'.out.alloc _).drew,(alloc2_below w _ _).drew⟩)
 have hZ2:=lhi ((held_new2 w (.cells #[.slice none 0 0,.int .i64 0] 26) 26 #[.slice none 0 0,.int .i64 0]).drew)
 clear h1' hb' hZ' hH
 go_region_held3 (fun w' => w'.cell? ⟨T,o,none⟩ = some (.slice A L cap) ∧ w'.cell? ⟨T,o + 1,none⟩ = some (.int .i64 (g : Int)))
  (first | exact ⟨hS3.out.b.cv,hS3.out.b.cg⟩ | exact ⟨(hS3.out.b.keep ((Below.refl _ _).alloc (nlr _) _)).cv,(hS3.out.b.keep ((Below.refl _ _).alloc (nlr _) _)).cg⟩ | exact ⟨cell_far2 hS3.out.b.cv hTne,cell_far2 hS3.out.b.cg hTne⟩ | exact ⟨hS1.out.b.cv,hS1.out.b.cg⟩ | exact ⟨hS2.out.b.cv,hS2.out.b.cg⟩ | go_keep)
  (first
  | (go_at_call 64;(with_reducible refine (hC.out _ hS1.out.low).mono ?_);rintro e w3 ⟨v3,rfl,ho3,hb3⟩;have hS3:=lhi (hS1.out.keep hb3);obtain ⟨A3,c3,rfl,-,-,-,-⟩:=own_nods ho3;have ho3':=lhi ho3;clear ho3)
  | (go_at_call 64;refine (hC.out _ hS2.out.low).mono ?_;rintro e w3 ⟨v3,rfl,ho3,hb3⟩;have hS3:=lhi (hS2.out.keep hb3);have hZ3:=lhi (hZ2.out.keep hb3);have z0:=hZ3.out.at_ (i:=0) rfl;have z1:=hZ3.out.at_ (i:=1) rfl;have y0:=hZ3.out.thawed 0;have y1:=hZ3.out.thawed 1;obtain ⟨A3,c3,rfl,-,-,-,-⟩:=own_nods ho3;have ho3':=lhi ho3;clear ho3))
 · have hF:=lhi (show Fin2 w (w3.alloc (.cells #[.slice A3 ms.length c3,.int .i64 (g : Int)] 26)) w3.heap.size (.slice A3 ms.length c3) ms g from
     ⟨held_new w3 _ _,hS3.out.z.alloc _,hS3.out.low.alloc hS3.out.low.size _,own_low (own_below ho3'.out ((Below.refl _ _).alloc (nlr _) _)) (by show w.heap.size ≤ (w.alloc _).heap.size;rw [sizeA'];omega)⟩)
   generalize w3.alloc (.cells #[.slice A3 ms.length c3,.int .i64 (g : Int)] 26) = w4 at *
   generalize w3.heap.size = G at *
   obtain ⟨A4,c4,e4,-,hc4,hm4,hN4⟩:=own_nods hF.out.own
   injection e4 with e4 _ e5
   subst e4
   subst e5
   have hRt:=lhi (right_any A3 ms.length c3 ms (g : Int) w4.heap.size w4 rfl hc4 hm4 (nlr _) hN4)
   clear hN4 hc4 hm4 hS3 ho3' hb3 hS1 hS2 hZ2 hC hs1 hs2 hs3 hs4 hx hk1 hl hTne hk2
   generalize hmn : ms.length = M at *
   replace hmn:=lhi hmn
   cases hr : rightN ms (g : Int)
   · rw [hr] at hRt
     replace hr:=lhi hr
     have r0:=hF.out.re.at_ (i:=0) rfl
     have r1:=hF.out.re.at_ (i:=1) rfl
     go_wp2_with (go_at_call 19;refine (hRt.out).mono ?_;rintro e w5 ⟨rfl,hb5⟩
                  have hF5:=lhi (hF.out.keep hb5)
                  have r50:=hF5.out.re.at_ (i:=0) rfl
                  have r51:=hF5.out.re.at_ (i:=1) rfl
                  have z50:=hF5.out.z.at_ (i:=0) rfl
                  have z51:=hF5.out.z.at_ (i:=1) rfl
                  have y50:=hF5.out.z.thawed 0
                  have y51:=hF5.out.z.thawed 1)
     exact bodyPost_ret (v:=.tuple #[.agg #[.slice none 0 0,.int .i64 0],.bool false]) (results_cell_two Tryz.results40 _ _ w.heap.size 26 #[.slice none 0 0,.int .i64 0] (0,0) _ rfl rfl ((hF5.out.z.put 0 _).put 1 _) Tryz.underlying26 rfl (by kernel_rfl)) rfl
      (.inr ⟨hr.out,rfl,(hF5.out.low.setCell (nlr _) _).setCell (nlr _) _⟩)
   · rw [hr] at hRt
     replace hr:=lhi hr
     have r0:=hF.out.re.at_ (i:=0) rfl
     have r1:=hF.out.re.at_ (i:=1) rfl
     go_wp2_with (go_at_call 19;refine (hRt.out).mono ?_;rintro e w5 ⟨rfl,hb5⟩
                  have hF5:=lhi (hF.out.keep hb5)
                  have r50:=hF5.out.re.at_ (i:=0) rfl
                  have r51:=hF5.out.re.at_ (i:=1) rfl
                  have z50:=hF5.out.z.at_ (i:=0) rfl
                  have z51:=hF5.out.z.at_ (i:=1) rfl
                  have y50:=hF5.out.z.thawed 0
                  have y51:=hF5.out.z.thawed 1)
     exact bodyPost_ret (v:=.tuple #[.agg #[.slice A3 M c3,.int .i64 (g : Int)],.bool true]) (results_cell_two Tryz.results40 _ _ w.heap.size 26 #[.slice A3 M c3,.int .i64 (g : Int)] (0,0) _ rfl rfl ((hF5.out.z.put 0 _).put 1 _) Tryz.underlying26 rfl (by kernel_rfl)) rfl
      (.inl ⟨hr.out,_,rfl,by have q:=own_far (hF5.out.z.put 0 (.slice A3 M c3)) (by decide) (own_far hF5.out.z (by decide) hF5.out.own 0 (.slice A3 M c3)) 1 (.int .i64 (g : Int));rw [hmn.out] at q ⊢;exact q,(hF5.out.low.setCell (nlr _) _).setCell (nlr _) _⟩)
 · have hF:=lhi (show Fin2 w ((w3.setCell ⟨w.heap.size + 1,0,none⟩ (.slice A3 ms.length c3)).setCell ⟨w.heap.size + 1,1,none⟩ (.int .i64 (g : Int))) (w.heap.size + 1) (.slice A3 ms.length c3) ms g from
     ⟨(hZ3.out.put 0 _).put 1 _,(hS3.out.z.far (fun e => by have : w.heap.size = w.heap.size + 1:=e;omega) _).far (fun e => by have : w.heap.size = w.heap.size + 1:=e;omega) _,
      (hS3.out.low.setCell (by show w.heap.size ≤ w.heap.size + 1;omega) _).setCell (by show w.heap.size ≤ w.heap.size + 1;omega) _,
      own_low (own_far (hZ3.out.put 0 _) (by decide) (own_far hZ3.out (by decide) ho3'.out _ _) _ _) (by show w.heap.size ≤ ((w.alloc _).alloc _).heap.size;rw [sizeA',sizeA'];omega)⟩)
   generalize (w3.setCell ⟨w.heap.size + 1,0,none⟩ (.slice A3 ms.length c3)).setCell ⟨w.heap.size + 1,1,none⟩ (.int .i64 (g : Int)) = w4 at *
   clear hZ3 z0 z1 y0 y1
   obtain ⟨A4,c4,e4,-,hc4,hm4,hN4⟩:=own_nods hF.out.own
   injection e4 with e4 _ e5
   subst e4
   subst e5
   have hRt:=lhi (right_any A3 ms.length c3 ms (g : Int) w4.heap.size w4 rfl hc4 hm4 (nlr _) hN4)
   clear hN4 hc4 hm4 hS3 ho3' hb3 hS1 hS2 hZ2 hC hs1 hs2 hs3 hs4 hx hk1 hl hTne hk2
   generalize hmn : ms.length = M at *
   replace hmn:=lhi hmn
   cases hr : rightN ms (g : Int)
   · rw [hr] at hRt
     replace hr:=lhi hr
     have r0:=hF.out.re.at_ (i:=0) rfl
     have r1:=hF.out.re.at_ (i:=1) rfl
     go_wp2_with (go_at_call 19;refine (hRt.out).mono ?_;rintro e w5 ⟨rfl,hb5⟩
                  have hF5:=lhi (hF.out.keep hb5)
                  have r50:=hF5.out.re.at_ (i:=0) rfl
                  have r51:=hF5.out.re.at_ (i:=1) rfl
                  have z50:=hF5.out.z.at_ (i:=0) rfl
                  have z51:=hF5.out.z.at_ (i:=1) rfl
                  have y50:=hF5.out.z.thawed 0
                  have y51:=hF5.out.z.thawed 1)
     exact bodyPost_ret (v:=.tuple #[.agg #[.slice none 0 0,.int .i64 0],.bool false]) (results_cell_two Tryz.results40 _ _ w.heap.size 26 #[.slice none 0 0,.int .i64 0] (0,0) _ rfl rfl ((hF5.out.z.put 0 _).put 1 _) Tryz.underlying26 rfl (by kernel_rfl)) rfl
      (.inr ⟨hr.out,rfl,(hF5.out.low.setCell (nlr _) _).setCell (nlr _) _⟩)
   · rw [hr] at hRt
     replace hr:=lhi hr
     have r0:=hF.out.re.at_ (i:=0) rfl
     have r1:=hF.out.re.at_ (i:=1) rfl
     go_wp2_with (go_at_call 19;refine (hRt.out).mono ?_;rintro e w5 ⟨rfl,hb5⟩
                  have hF5:=lhi (hF.out.keep hb5)
                  have r50:=hF5.out.re.at_ (i:=0) rfl
                  have r51:=hF5.out.re.at_ (i:=1) rfl
                  have z50:=hF5.out.z.at_ (i:=0) rfl
                  have z51:=hF5.out.z.at_ (i:=1) rfl
                  have y50:=hF5.out.z.thawed 0
                  have y51:=hF5.out.z.thawed 1)
     exact bodyPost_ret (v:=.tuple #[.agg #[.slice A3 M c3,.int .i64 (g : Int)],.bool true]) (results_cell_two Tryz.results40 _ _ w.heap.size 26 #[.slice A3 M c3,.int .i64 (g : Int)] (0,0) _ rfl rfl ((hF5.out.z.put 0 _).put 1 _) Tryz.underlying26 rfl (by kernel_rfl)) rfl
      (.inl ⟨hr.out,_,rfl,by have q:=own_far (hF5.out.z.put 0 (.slice A3 M c3)) (by decide) (own_far hF5.out.z (by decide) hF5.out.own 0 (.slice A3 M c3)) 1 (.int .i64 (g : Int));rw [hmn.out] at q ⊢;exact q,(hF5.out.low.setCell (nlr _) _).setCell (nlr _) _⟩)
theorem fits_set (s : Nat → Bool) (t g : Int) : fitsN (setN s) t g = true:=by
 unfold fitsN
 rw [show partsN (setN s) = [] from rfl,show wantedN (setN s) = setN s from rfl,sameN_self]
 simp [setN]
theorem fits_two (k : Int) (hk : k = 2 ∨ k = 3) (a b t g : Int) : fitsN (twoN k a b) t g = (okP t a && okP t b):=by
 unfold fitsN
 rcases hk with rfl | rfl
 · rw [show partsN (twoN 2 a b) = [a,b] from rfl,show wantedN (twoN 2 a b) = twoN 2 a b from rfl,sameN_self]
   simp [twoN]
 · rw [show partsN (twoN 3 a b) = [a,b] from rfl,show wantedN (twoN 3 a b) = twoN 3 a b from rfl,sameN_self]
   simp [twoN]
theorem fits_plain (k : Int) (hk : k = 0 ∨ k = 7 ∨ k = 8) (t g : Int) : fitsN ⟨k,0,0,0,0,0,zset⟩ t g = true:=by
 unfold fitsN
 rcases hk with rfl | rfl | rfl
 · rw [show partsN ⟨0,0,0,0,0,0,zset⟩ = [] from rfl,show wantedN ⟨0,0,0,0,0,0,zset⟩ = ⟨0,0,0,0,0,0,zset⟩ from rfl,sameN_self];simp
 · rw [show partsN ⟨7,0,0,0,0,0,zset⟩ = [] from rfl,show wantedN ⟨7,0,0,0,0,0,zset⟩ = ⟨7,0,0,0,0,0,zset⟩ from rfl,sameN_self];simp
 · rw [show partsN ⟨8,0,0,0,0,0,zset⟩ = [] from rfl,show wantedN ⟨8,0,0,0,0,0,zset⟩ = ⟨8,0,0,0,0,0,zset⟩ from rfl,sameN_self];simp
theorem putI_yes {ns : List Nod} {g : Nat} {n : Nod} (h : canPut ns g n = true) : putI ns g n = (ns.length : Int):=by simp [putI,h]
theorem putL_yes {ns : List Nod} {g : Nat} {n : Nod} (h : canPut ns g n = true) : putL ns g n = ns ++ [n]:=by simp [putL,h]
theorem putI_no {ns : List Nod} {g : Nat} {n : Nod} (h : canPut ns g n = false) : putI ns g n = -1:=by simp [putI,h]
theorem putL_no {ns : List Nod} {g : Nat} {n : Nod} (h : canPut ns g n = false) : putL ns g n = ns:=by simp [putL,h]
theorem canPut_of {ns : List Nod} {g : Nat} {n : Nod} (hl : ns.length < 1000) (h : fitsN n (ns.length : Int) (g : Int) = true) : canPut ns g n = true:=by
 unfold canPut;rw [decide_eq_true hl,h];rfl
theorem canPut_full {ns : List Nod} {g : Nat} {n : Nod} (hl : 1000 ≤ ns.length) : canPut ns g n = false:=by
 unfold canPut;rw [decide_eq_false (by omega)];rfl
theorem re_yes (B T o : Nat) (v : Value) (ns : List Nod) (g x : Nat) (w : World) (h : Bldr w B T o v ns g) (hx : x < ns.length) (hr : rightN (ns.take (x + 1)) (g : Int) = true) :
    Calls Tryz.prog 40 #[.pointer (some ⟨T,o,none⟩),.int .i64 (x : Int)] w (ReYes w (ns.take (x + 1)) g) :=
 (re_in B T o v ns g x w h hx).mono fun e w' hh => by
  rcases hh with ⟨_,h1⟩ | ⟨h1,_⟩
  · exact h1
  · rw [hr] at h1;cases h1
inductive Ct
 | B
 | L
 | P (x : Int)
structure Cf where
 ct : Ct
 i : Nat
 ns : List Nod
 g : Nat
 cl : Nat → Bool
 ps : List Int
 lv : List (Nat × List Int)
inductive Rs
 | go (c : Cf)
 | bad (i e : Nat)
 | fin (ns : List Nod) (g : Nat)
def putS (ns : List Nod) (i : Nat) (n : Nod) (k : Int → List Nod → Rs) : Rs:=if ns.length < 1000 then k (ns.length : Int) (ns ++ [n]) else .bad i 8
def catGo : Int → List Nod → List Int → Option (Int × List Nod)
 | x,ns,[] => some (x,ns)
 | x,ns,p :: r => if ns.length < 1000 then catGo (ns.length : Int) (ns ++ [twoN 2 x p]) r else none
def catS (ns : List Nod) : List Int → Option (Int × List Nod)
 | [] => if ns.length < 1000 then some ((ns.length : Int),ns ++ [emptyN]) else none
 | x :: r => catGo x ns r
theorem catGo_nil (x : Int) (ns : List Nod) : catGo x ns [] = some (x,ns):=rfl
theorem catGo_cons (x : Int) (ns : List Nod) (p : Int) (r : List Int) : catGo x ns (p :: r) = if ns.length < 1000 then catGo (ns.length : Int) (ns ++ [twoN 2 x p]) r else none:=rfl
theorem catS_nil (ns : List Nod) : catS ns [] = if ns.length < 1000 then some ((ns.length : Int),ns ++ [emptyN]) else none:=rfl
theorem catS_cons (ns : List Nod) (x : Int) (r : List Int) : catS ns (x :: r) = catGo x ns r:=rfl
def allS : Nat → Bool:=fun c => !(ofL [] c)
def ivB (b : List UInt8) : Option (Int × Int × Nat) :=
 if (numS b 2 255).2.2 ≠ 0 then none else
 if bg [44,92,125] (b.drop (numS b 2 255).2.1.toNat) then some ((numS b 2 255).1,-1,(numS b 2 255).2.1.toNat + 3) else
 if bg [44] (b.drop (numS b 2 255).2.1.toNat) then
  if (numS b ((numS b 2 255).2.1 + 1) 255).2.2 ≠ 0 ∨ (numS b ((numS b 2 255).2.1 + 1) 255).1 < (numS b 2 255).1 then none else
  if bg [92,125] (b.drop (numS b ((numS b 2 255).2.1 + 1) 255).2.1.toNat) then some ((numS b 2 255).1,(numS b ((numS b 2 255).2.1 + 1) 255).1,(numS b ((numS b 2 255).2.1 + 1) 255).2.1.toNat + 2) else none
 else if bg [92,125] (b.drop (numS b 2 255).2.1.toNat) then some ((numS b 2 255).1,(numS b 2 255).1,(numS b 2 255).2.1.toNat + 2) else none
def ivl (t : List UInt8) (i : Nat) : Option (Int × Int × Nat):=(ivB (t.drop i)).map fun x => (x.1,x.2.1,i + x.2.2)
inductive Am
 | bad (e : Nat)
 | opn
 | bak (q : Nat)
 | nod (j : Nat) (n : Nod)
def isAl (c : UInt8) : Bool:=cAlnum (c.toNat : Int)
def escA (i : Nat) : List UInt8 → Am
 | [] => .bad 10
 | c :: _ => if c = 40 then .opn else if c = 41 then .bad 14 else if c = 123 then .bad 13 else if c = 110 then .nod (i + 2) (setN (ofL [10]))
  else if 49 ≤ c ∧ c ≤ 57 then .bak (c.toNat - 48) else if isAl c then .bad 10 else .nod (i + 2) (setN (ofL [c]))
def brkA (t : List UInt8) (i : Nat) : Am:=match readB t (i + 1) with
 | .error e => .bad e
 | .ok (f,j) => .nod j (setN f)
def atomR (t : List UInt8) (i : Nat) : List UInt8 → Am
 | [] => .bad 0
 | c :: r => if c = 92 then escA i r else if c = 91 then brkA t i else if c = 46 then .nod (i + 1) (setN allS)
  else if c = 36 ∧ (r = [] ∨ bg [92,41] r = true) then .nod (i + 1) eolN else .nod (i + 1) (setN (ofL [c]))
def atomA (t : List UInt8) (i : Nat) : Am:=atomR t i (t.drop i)
def setQ (cl : Nat → Bool) (q : Nat) : Nat → Bool:=fun x => if x = q then true else cl x
def stepB (t : List UInt8) (c : Cf) : Rs :=
 if bg [94] (t.drop c.i) then putS c.ns (c.i + 1) bolN fun x ns => .go ⟨.L,c.i + 1,ns,c.g,c.cl,[x],c.lv⟩
 else .go ⟨.L,c.i,c.ns,c.g,c.cl,[],c.lv⟩
def stepP (t : List UInt8) (c : Cf) (x : Int) : Rs :=
 if bg [42] (t.drop c.i) then putS c.ns (c.i + 1) (repN x 0 (-1)) fun y ns => .go ⟨.P y,c.i + 1,ns,c.g,c.cl,c.ps,c.lv⟩
 else if bg [92,123] (t.drop c.i) then match ivl t c.i with
  | none => .bad c.i 13
  | some (lo,hi,j) => putS c.ns j (repN x lo hi) fun y ns => .go ⟨.P y,j,ns,c.g,c.cl,c.ps,c.lv⟩
 else .go ⟨.L,c.i,c.ns,c.g,c.cl,c.ps ++ [x],c.lv⟩
def stepA (c : Cf) : Am → Rs
 | .bad e => .bad c.i e
 | .opn => if c.g < 9 then .go ⟨.B,c.i + 2,c.ns,c.g + 1,c.cl,[],(c.g + 1,c.ps) :: c.lv⟩ else .bad c.i 17
 | .bak q => if c.cl q then putS c.ns (c.i + 2) (backN (q : Int)) fun x ns => .go ⟨.P x,c.i + 2,ns,c.g,c.cl,c.ps,c.lv⟩ else .bad c.i 16
 | .nod j n => putS c.ns j n fun x ns => .go ⟨.P x,j,ns,c.g,c.cl,c.ps,c.lv⟩
def stepL (t : List UInt8) (c : Cf) : Rs :=
 match c.lv with
 | [] => if t.length ≤ c.i then (match catS c.ns c.ps with | none => .bad c.i 8 | some (_,ns) => .fin ns c.g) else stepA c (atomA t c.i)
 | (q,ps) :: lv => if t.length ≤ c.i then .bad c.i 14 else
  if bg [92,41] (t.drop c.i) then (match catS c.ns c.ps with
   | none => .bad c.i 8
   | some (x,ns) => putS ns (c.i + 2) (groupN (q : Int) x) fun y ns => .go ⟨.P y,c.i + 2,ns,c.g,setQ c.cl q,ps,lv⟩)
  else stepA c (atomA t c.i)
def step (t : List UInt8) (c : Cf) : Rs:=match c.ct with
 | .B => stepB t c
 | .L => stepL t c
 | .P x => stepP t c x
inductive Steps (t : List UInt8) : Cf → Cf → Prop
 | refl (c : Cf) : Steps t c c
 | head {c c1 c2 : Cf} (h : step t c = .go c1) (k : Steps t c1 c2) : Steps t c c2
theorem Steps.trans {t : List UInt8} {a b c : Cf} (h : Steps t a b) (k : Steps t b c) : Steps t a c:=by
 induction h with
 | refl => exact k
 | head h1 _ ih => exact .head h1 (ih k)
theorem Steps.one {t : List UInt8} {a b : Cf} (h : step t a = .go b) : Steps t a b:=.head h (.refl b)
theorem Steps.snoc {t : List UInt8} {a b c : Cf} (h : Steps t a b) (k : step t b = .go c) : Steps t a c:=h.trans (.one k)
def Ends (t : List UInt8) (c : Cf) (r : Rs) : Prop:=∃ c',Steps t c c' ∧ step t c' = r ∧ ∀ c2,r ≠ .go c2
theorem Ends.det {t : List UInt8} {c : Cf} {r s : Rs} (h : Ends t c r) (k : Ends t c s) : r = s:=by
 obtain ⟨c1,h1,h2,h3⟩:=h
 obtain ⟨c2,k1,k2,k3⟩:=k
 induction h1 with
 | refl =>
  cases k1 with
  | refl => rw [← h2,← k2]
  | head q _ => rw [q] at h2;exact absurd h2.symm (h3 _)
 | head q _ ih =>
  cases k1 with
  | refl => rw [q] at k2;exact absurd k2.symm (k3 _)
  | head q' k1 => rw [q] at q';injection q' with q';subst q';exact ih h2 k1
theorem Steps.ends {t : List UInt8} {a b : Cf} {r : Rs} (h : Steps t a b) (k : Ends t b r) : Ends t a r:=by
 obtain ⟨c,k1,k2⟩:=k
 exact ⟨c,h.trans k1,k2⟩
theorem Ends.bad {t : List UInt8} {c : Cf} {i e : Nat} (h : step t c = .bad i e) : Ends t c (.bad i e):=⟨c,.refl c,h,fun _ => by simp⟩
theorem Ends.fin {t : List UInt8} {c : Cf} {ns : List Nod} {g : Nat} (h : step t c = .fin ns g) : Ends t c (.fin ns g):=⟨c,.refl c,h,fun _ => by simp⟩
def cf0 : Cf:=⟨.B,0,[],0,fun _ => false,[],[]⟩
theorem fits_rep {x lo hi t g : Int} (hx : okP t x = true) (ht : timesN lo hi = true) : fitsN (repN x lo hi) t g = true:=by
 unfold fitsN
 rw [show partsN (repN x lo hi) = [x] from rfl,show wantedN (repN x lo hi) = repN x lo hi from rfl,sameN_self]
 simp [repN,hx,ht]
theorem fits_group {x q t g : Int} (hx : okP t x = true) (h1 : 1 ≤ q) (h2 : q ≤ g) : fitsN (groupN q x) t g = true:=by
 unfold fitsN
 rw [show partsN (groupN q x) = [x] from rfl,show wantedN (groupN q x) = groupN q x from rfl,sameN_self]
 simp [groupN,hx,h1,h2]
theorem fits_back {q t g : Int} (h1 : 1 ≤ q) (h2 : q ≤ g) : fitsN (backN q) t g = true:=by
 unfold fitsN
 rw [show partsN (backN q) = [] from rfl,show wantedN (backN q) = backN q from rfl,sameN_self]
 simp [backN,h1,h2]
theorem okP_more {t t' p : Int} (h : okP t p = true) (ht : t ≤ t') : okP t' p = true:=by
 simp only [okP,Bool.and_eq_true,decide_eq_true_eq] at h ⊢;omega
theorem okP_last (n : Nat) : okP ((n + 1 : Nat) : Int) (n : Int) = true:=okP_yes (by omega) (by omega)
theorem fitsN_more {n : Nod} {t g g' : Int} (h : fitsN n t g = true) (hg : g ≤ g') : fitsN n t g' = true:=by
 unfold fitsN at h ⊢
 simp only [Bool.and_eq_true,Bool.or_eq_true,decide_eq_true_eq] at h ⊢
 obtain ⟨h1,h2,h3,h4⟩:=h
 refine ⟨h1,h2,h3.imp id (fun h => ⟨h.1,by omega⟩),h4⟩
theorem chain_cat (g : Nat) : ∀ (r : List Int) (x : Int) (ns : List Nod),okP (ns.length : Int) x = true → (∀ p ∈ r,okP (ns.length : Int) p = true) →
    (∀ y ns',catGo x ns r = some (y,ns') → chainGo g 2 x ns r = (y,ns')) ∧ (catGo x ns r = none → (chainGo g 2 x ns r).1 = -1)
 | [],x,ns,_,_ => by
  rw [catGo_nil]
  refine ⟨fun y ns' h => ?_,fun h => by cases h⟩
  rw [chainGo]
  exact Option.some.inj h
 | p :: r,x,ns,hx,hp => by
  have hf : fitsN (twoN 2 x p) (ns.length : Int) (g : Int) = true:=by rw [fits_two 2 (.inl rfl),hx,hp p (by simp)];rfl
  rw [catGo_cons,chainGo]
  by_cases hl : ns.length < 1000
  · rw [if_pos hl,if_pos (canPut_of hl hf)]
    exact chain_cat g r _ _ (by rw [lla];exact okP_last _) fun q hq => okP_more (hp q (by simp [hq])) (by rw [lla];simp;omega)
  · rw [if_neg hl,if_neg (by rw [canPut_full (by omega)];decide)]
    exact ⟨fun y ns' h => (by cases h),fun _ => rfl⟩
theorem catR_some {ns : List Nod} {g : Nat} {ps : List Int} {y : Int} {ns' : List Nod} (hp : ∀ p ∈ ps,okP (ns.length : Int) p = true) (h : catS ns ps = some (y,ns')) : catR ns g ps = (y,ns'):=by
 cases ps with
 | nil =>
  rw [catS_nil] at h
  split at h
  · rename_i hl
    simp only [Option.some.injEq,Prod.mk.injEq] at h
    have hc : canPut ns g emptyN = true:=canPut_of hl (fits_plain 0 (.inl rfl) _ _)
    unfold catR
    rw [if_pos rfl,putI_yes hc,putL_yes hc,h.1,h.2]
  · cases h
 | cons x r =>
  have hx:=hp x (by simp)
  unfold catR chainN
  rw [if_neg (by simp)]
  simp only [hx,if_true]
  exact (chain_cat g r x ns hx fun p hq => hp p (by simp [hq])).1 y ns' h
theorem catR_none {ns : List Nod} {g : Nat} {ps : List Int} (hp : ∀ p ∈ ps,okP (ns.length : Int) p = true) (h : catS ns ps = none) : (catR ns g ps).1 = -1:=by
 cases ps with
 | nil =>
  rw [catS_nil] at h
  split at h
  · cases h
  · rename_i hl
    unfold catR
    rw [if_pos rfl,putI_no (canPut_full (by omega))]
 | cons x r =>
  have hx:=hp x (by simp)
  unfold catR chainN
  rw [if_neg (by simp)]
  simp only [hx,if_true]
  exact (chain_cat g r x ns hx fun p hq => hp p (by simp [hq])).2 h
theorem catGo_up : ∀ (r : List Int) (x : Int) (ns : List Nod) (y : Int) (ns' : List Nod),catGo x ns r = some (y,ns') → okP (ns.length : Int) x = true → ns.length ≤ ns'.length ∧ okP (ns'.length : Int) y = true ∧ (ns.length ≤ 1000 → ns'.length ≤ 1000)
 | [],x,ns,y,ns',h,hx => by
  rw [catGo_nil] at h
  simp only [Option.some.injEq,Prod.mk.injEq] at h
  obtain ⟨rfl,rfl⟩:=h
  exact ⟨nlr _,hx,id⟩
 | p :: r,x,ns,y,ns',h,hx => by
  rw [catGo_cons] at h
  split at h
  · rename_i hl
    have:=catGo_up r _ _ y ns' h (by rw [lla];exact okP_last _)
    rw [lla,lls] at this
    exact ⟨by omega,this.2.1,fun _ => this.2.2 (by omega)⟩
  · cases h
theorem catS_up {ns : List Nod} {ps : List Int} {y : Int} {ns' : List Nod} (hp : ∀ p ∈ ps,okP (ns.length : Int) p = true) (h : catS ns ps = some (y,ns')) : ns.length ≤ ns'.length ∧ okP (ns'.length : Int) y = true ∧ (ns.length ≤ 1000 → ns'.length ≤ 1000):=by
 cases ps with
 | nil =>
  rw [catS_nil] at h
  split at h
  · simp only [Option.some.injEq,Prod.mk.injEq] at h
    obtain ⟨rfl,rfl⟩:=h
    rw [lla,lls]
    exact ⟨by omega,okP_last _,fun _ => by omega⟩
  · cases h
 | cons x r => exact catGo_up r x ns y ns' h (hp x (by simp))
end Go.Proofs.YtonjnagcdnmcpaaGreatDoor
