/- Contracts and plain facts: M34. -/
import Derived.Test.YtonjnagcdnmcpaaGreatDoorM32
import Derived.Test.YtonjnagcdnmcpaaGreatDoorM33
import Derived.Test.YtonjnagcdnmcpaaGreatDoorM29
set_option linter.unusedVariables false
set_option linter.unusedSimpArgs false
set_option maxRecDepth 100000
set_option maxHeartbeats 32000000
namespace Go.Proofs.YtonjnagcdnmcpaaGreatDoor
open Go.RowKit
theorem refParse_any (A : Option Addr) (n c : Nat) (l : List UInt8) (w : World) (hn : n = l.length) (hnc : n ≤ c) (hns : n ≤ 1000000) (hbt : Byt w w.heap.size A l) (k : Nat) (hk : k ≤ n) :
    Calls Tryz.prog 98 #[.slice A n c,.int .i64 (k : Int)] w fun e w' => e = .returned (.tuple #[.agg (setC (told (readB l k)).1),.int .i64 ((told (readB l k)).2.1 : Int),.int .i64 ((told (readB l k)).2.2 : Int)]) ∧ Below w.heap.size w w':=by
 cases hx : bg [94] (l.drop k) with
 | true => exact refParse_true A n c l w hn hnc hns hbt k hk hx
 | false => exact refParse_false A n c l w hn hnc hns hbt k hk hx
theorem num_full (m : Nat) : num (fun _ => true) m = 2 ^ m - 1:=by
 apply Nat.eq_of_testBit_eq
 intro i
 rw [num_bit,Nat.testBit_two_pow_sub_one];simp
theorem setC_all : setC allS = #[.int .u64 18446744073709551615,.int .u64 18446744073709551615,.int .u64 18446744073709551615,.int .u64 18446744073709551615]:=by
 have h : ∀ k,wd allS k = 18446744073709551615:=fun k => by
  unfold wd
  rw [show (fun i => allS (64 * k + i)) = fun _ => true from by funext i;simp [allS,ofL]]
  exact num_full 64
 unfold setC
 rw [h,h,h,h];rfl
theorem refAny_any (w : World) : Calls Tryz.prog 77 #[] w fun e w' => e = .returned (.agg (setC allS)) ∧ Below w.heap.size w w':=by
 rw [setC_all]
 go_enter Tryz.func77,Tryz.ntmps77
 go_wp2
 exact bodyPost_ret (results_cell_row Tryz.results77 _ _ w.heap.size 41 _ (0,0) _ rfl (held_new w 41 _) Tryz.underlying41 rfl (by kernel_rfl)) rfl ⟨rfl,(Below.refl w.heap.size w).alloc (nlr _) _⟩
section
variable {w : World} {B T : Nat} {A : Option Addr} {n c : Nat} {l : List UInt8} {v : Value} {ns : List Nod} {g i : Nat} {cl : Nat → Bool} (h : Rdr w B T A n c l v ns g i cl 0) {inG : Bool}
include h
theorem Rdr.two : w.cell? ⟨T,0,none⟩ = some (.slice A n c) ∧ w.cell? ⟨T,1,none⟩ = some (.int .i64 (i : Int)):=⟨h.c0,h.c1⟩
theorem rparse_at {k : Nat} (hk : k ≤ n) : Calls Tryz.prog 98 #[.slice A n c,.int .i64 (k : Int)] w fun e w' => e = .returned (.tuple #[.agg (setC (told (readB l k)).1),.int .i64 ((told (readB l k)).2.1 : Int),.int .i64 ((told (readB l k)).2.2 : Int)]) ∧ Below w.heap.size w w' :=
 refParse_any A n c l w h.inp.1 h.inp.2.1 h.inp.2.2.2.1 h.inp.2.2.2.2.1 k hk
theorem rbracket_no (hi : i < n) {e : Nat} (hv : readB l (i + 1) = .error e) : Calls Tryz.prog 76 #[.pointer (some ⟨T,0,none⟩)] w (RBad w B T A n c l v i e):=by
 have c0:=h.c0
 have c1:=h.c1
 have hns : n ≤ 1000000:=h.txt.2.2.2.1
 have hTl:=h.lt
 have hTG : T ≠ w.heap.size:=by omega
 have he : ((e : Int) != 0) = true:=by have:=readB_wrong hv;rw [bne_iff_ne];omega
 have hP:=lhi (fun w1 (hb : Below w.heap.size w w1) => rparse_at (h.keep hb) (k:=i + 1) (by omega))
 rw [hv] at hP
 rw [show told (.error e) = (noneF,0,e) from rfl] at hP
 simp only at hP
 rw [show setC noneF = #[.int .u64 0,.int .u64 0,.int .u64 0,.int .u64 0] from setC_noneF,show (((i + 1 : Nat)) : Int) = (i : Int) + 1 by omega] at hP
 have hx:=lhi (show Below w.heap.size w w from Below.refl _ _)
 have hx2:=lhi (show Below w.heap.size w (w.alloc (.cells #[.int .u64 0,.int .u64 0,.int .u64 0,.int .u64 0] 41)) from (Below.refl _ _).alloc (nlr _) _)
 have hR:=lhi (fun w1 (hb : Below w.heap.size w w1) => h.keep hb)
 have hK:=lhi (fun w1 (hb : Below w.heap.size w w1) => (h.keep hb).two)
 have hZ:=lhi (held_new w 41 #[.int .u64 0,.int .u64 0,.int .u64 0,.int .u64 0])
 have hi1 : i + 1 ≤ n:=hi
 have hw1 : IntKind.i64.wrap ((i : Int) + 1) = (i : Int) + 1:=IntWalk.i64_in _ (by omega)
 have hKa:=lhi (hK.out _ hx.out.drew)
 have hKb:=lhi (hK.out _ hx2.out.drew)
 have hPa:=lhi (hP.out _ hx.out.drew)
 have hPb:=lhi (hP.out _ hx2.out.drew)
 clear h hv hP
 go_enter Tryz.func76,Tryz.ntmps76
 go_wp2
 go_region_held3 (fun w' => w'.cell? ⟨T,0,none⟩ = some (.slice A n c) ∧ w'.cell? ⟨T,1,none⟩ = some (.int .i64 (i : Int)))
  (first | with_reducible exact hKa.out | with_reducible exact hKb.out | with_reducible exact hK1.out | with_reducible exact ⟨cell_far4 hK1.out.1 hTG,cell_far4 hK1.out.2 hTG⟩ | go_keep)
  (first
  | (go_at_call 98;(with_reducible refine (hPa.out).mono ?_);rintro y w1 ⟨rfl,hb1⟩;replace hb1:=hx.out.drew.trans hb1;have hK1:=lhi (hK.out _ hb1);replace hb1:=lhi hb1)
  | (go_at_call 98;(with_reducible refine (hPb.out).mono ?_);rintro y w1 ⟨rfl,hb1⟩;have hZ1:=hZ.out.drew.keep hb1;have z:=hZ1.cells4;have y0:=hZ1.thawed 0;have y1:=hZ1.thawed 1;have y2:=hZ1.thawed 2;have y3:=hZ1.thawed 3;replace hZ1:=lhi hZ1;replace hb1:=hx2.out.drew.trans (hb1.mono hx2.out.drew.size);have hK1:=lhi (hK.out _ hb1);replace hb1:=lhi hb1))
 · have hB4:=hb1.out.alloc hb1.out.size (.cells #[.int .u64 0,.int .u64 0,.int .u64 0,.int .u64 0] 41)
   generalize w1.alloc (.cells #[.int .u64 0,.int .u64 0,.int .u64 0,.int .u64 0] 41) = w4 at *
   have h4:=hR.out _ hB4
   have k2:=h4.c2
   have t2:=h4.thawed 2
   have h5:=lhi (h4.erred e (z:=(e : Int)) rfl)
   have k5:=lhi ((ChP.of_below (T:=T) (v:=v) hB4).trans (ChP.store w4 T 2 (.int .i64 (e : Int)) v))
   clear hKa hKb hPa hPb hK1 hZ hx hx2 hb1 h4 hB4
   go_wp2
   go_ret
   exact ⟨0,v,_,_,_,rfl,h5.out,k5.out⟩
 · have hB4:=(((hb1.out.setCell (p:=⟨w.heap.size,0,none⟩) (nlr _) (.int .u64 0)).setCell (p:=⟨w.heap.size,1,none⟩) (nlr _) (.int .u64 0)).setCell (p:=⟨w.heap.size,2,none⟩) (nlr _) (.int .u64 0)).setCell (p:=⟨w.heap.size,3,none⟩) (nlr _) (.int .u64 0)
   generalize (((w1.setCell ⟨w.heap.size,0,none⟩ (.int .u64 0)).setCell ⟨w.heap.size,1,none⟩ (.int .u64 0)).setCell ⟨w.heap.size,2,none⟩ (.int .u64 0)).setCell ⟨w.heap.size,3,none⟩ (.int .u64 0) = w4 at *
   have h4:=hR.out _ hB4
   have k2:=h4.c2
   have t2:=h4.thawed 2
   have h5:=lhi (h4.erred e (z:=(e : Int)) rfl)
   have k5:=lhi ((ChP.of_below (T:=T) (v:=v) hB4).trans (ChP.store w4 T 2 (.int .i64 (e : Int)) v))
   clear hKa hKb hPa hPb hK1 hZ hx hx2 hb1 h4 hB4
   go_wp2
   go_ret
   exact ⟨0,v,_,_,_,rfl,h5.out,k5.out⟩
theorem rbracket_yes (hi : i < n) {f : Nat → Bool} {j : Nat} (hv : readB l (i + 1) = .ok (f,j)) : Calls Tryz.prog 76 #[.pointer (some ⟨T,0,none⟩)] w (RPut w B T A n c l v ns g j cl (setN f)):=by
 have c0:=h.c0
 have c1:=h.c1
 have hns : n ≤ 1000000:=h.txt.2.2.2.1
 have hTl:=h.lt
 have hTG : T ≠ w.heap.size:=by omega
 have hnl:=h.hn
 have hj:=readB_size (by omega) hv
 have hjn : j ≤ n:=by omega
 have hP:=lhi (fun w1 (hb : Below w.heap.size w w1) => rparse_at (h.keep hb) (k:=i + 1) (by omega))
 rw [hv] at hP
 rw [show told (.ok (f,j)) = (f,j,0) from rfl] at hP
 simp only at hP
 rw [show (((i + 1 : Nat)) : Int) = (i : Int) + 1 by omega] at hP
 have hU:=lhi (fun w1 (h1 : Rdr w1 B T A n c l v ns g j cl 0) => rput_any h1 (setN f) (fits_set _ _ _))
 obtain ⟨s0,s1,s2,s3,es,en⟩:=set_lit f
 rw [es] at hP
 rw [en] at hU
 clear es en
 have hx:=lhi (show Below w.heap.size w w from Below.refl _ _)
 have hx2:=lhi (show Below w.heap.size w (w.alloc (.cells #[.int .u64 0,.int .u64 0,.int .u64 0,.int .u64 0] 41)) from (Below.refl _ _).alloc (nlr _) _)
 have hR:=lhi (fun w1 (hb : Below w.heap.size w w1) => h.keep hb)
 have hK:=lhi (fun w1 (hb : Below w.heap.size w w1) => (h.keep hb).two)
 have hZ:=lhi (held_new w 41 #[.int .u64 0,.int .u64 0,.int .u64 0,.int .u64 0])
 have hi1 : i + 1 ≤ n:=hi
 have hw1 : IntKind.i64.wrap ((i : Int) + 1) = (i : Int) + 1:=IntWalk.i64_in _ (by omega)
 have hKa:=lhi (hK.out _ hx.out.drew)
 have hKb:=lhi (hK.out _ hx2.out.drew)
 have hPa:=lhi (hP.out _ hx.out.drew)
 have hPb:=lhi (hP.out _ hx2.out.drew)
 clear h hv hP hj hnl
 go_enter Tryz.func76,Tryz.ntmps76
 go_wp2
 go_region_held3 (fun w' => w'.cell? ⟨T,0,none⟩ = some (.slice A n c) ∧ w'.cell? ⟨T,1,none⟩ = some (.int .i64 (i : Int)))
  (first | with_reducible exact hKa.out | with_reducible exact hKb.out | with_reducible exact hK1.out | with_reducible exact hKc.out | with_reducible exact ⟨cell_far4 hK1.out.1 hTG,cell_far4 hK1.out.2 hTG⟩ | go_keep)
  (first
  | (go_at_call 98;(with_reducible refine (hPa.out).mono ?_);rintro y w1 ⟨rfl,hb1⟩;replace hb1:=hx.out.drew.trans hb1;have hK1:=lhi (hK.out _ hb1);have hKc:=lhi (hK.out _ (hb1.alloc hb1.size (.cells #[.int .u64 (s0 : Int),.int .u64 (s1 : Int),.int .u64 (s2 : Int),.int .u64 (s3 : Int)] 41)));replace hb1:=lhi hb1)
  | (go_at_call 98;(with_reducible refine (hPb.out).mono ?_);rintro y w1 ⟨rfl,hb1⟩;have hZ1:=hZ.out.drew.keep hb1;have z:=hZ1.cells4;have y0:=hZ1.thawed 0;have y1:=hZ1.thawed 1;have y2:=hZ1.thawed 2;have y3:=hZ1.thawed 3;replace hZ1:=lhi hZ1;replace hb1:=hx2.out.drew.trans (hb1.mono hx2.out.drew.size);have hK1:=lhi (hK.out _ hb1);replace hb1:=lhi hb1))
 · have hQ:=lhi (show StS w (w1.alloc (.cells #[.int .u64 (s0 : Int),.int .u64 (s1 : Int),.int .u64 (s2 : Int),.int .u64 (s3 : Int)] 41)) w1.heap.size #[.int .u64 (s0 : Int),.int .u64 (s1 : Int),.int .u64 (s2 : Int),.int .u64 (s3 : Int)] from
     ⟨hb1.out.alloc hb1.out.size _,held_new _ _ _,hb1.out.size⟩)
   generalize w1.alloc (.cells #[.int .u64 (s0 : Int),.int .u64 (s1 : Int),.int .u64 (s2 : Int),.int .u64 (s3 : Int)] 41) = w4 at *
   generalize w1.heap.size = G at *
   have h4:=hR.out _ hQ.out.low
   have k1:=h4.c1
   have t1:=h4.thawed 1
   have h5:=lhi (h4.goto hjn (z:=(j : Int)) rfl)
   have k5:=lhi ((ChP.of_below (T:=T) (v:=v) hQ.out.low).trans (ChP.store w4 T 1 (.int .i64 (j : Int)) v))
   have hGT : G ≠ T:=by have:=hQ.out.new;omega
   clear hKa hKb hPa hPb hK1 hKc hZ hx hx2 hb1 h4
   obtain ⟨q0,q1,q2,q3⟩:=hQ.out.s.cells4
   go_wp2_with (go_at_call 30;refine (hU.out _ h5.out).mono ?_;intro y w6 hy;obtain ⟨z,rfl,hy⟩:=hy.ret;replace hy:=lhi (hy.from k5.out))
   go_ret
   exact hy.out
 · have hQ:=lhi (show StS w ((((w1.setCell ⟨w.heap.size,0,none⟩ (.int .u64 (s0 : Int))).setCell ⟨w.heap.size,1,none⟩ (.int .u64 (s1 : Int))).setCell ⟨w.heap.size,2,none⟩ (.int .u64 (s2 : Int))).setCell ⟨w.heap.size,3,none⟩ (.int .u64 (s3 : Int))) w.heap.size #[.int .u64 (s0 : Int),.int .u64 (s1 : Int),.int .u64 (s2 : Int),.int .u64 (s3 : Int)] from
     ⟨(((hb1.out.setCell (p:=⟨w.heap.size,0,none⟩) (nlr _) _).setCell (p:=⟨w.heap.size,1,none⟩) (nlr _) _).setCell (p:=⟨w.heap.size,2,none⟩) (nlr _) _).setCell (p:=⟨w.heap.size,3,none⟩) (nlr _) _,(((hZ1.out.put 0 _).put 1 _).put 2 _).put 3 _,nlr _⟩)
   generalize (((w1.setCell ⟨w.heap.size,0,none⟩ (.int .u64 (s0 : Int))).setCell ⟨w.heap.size,1,none⟩ (.int .u64 (s1 : Int))).setCell ⟨w.heap.size,2,none⟩ (.int .u64 (s2 : Int))).setCell ⟨w.heap.size,3,none⟩ (.int .u64 (s3 : Int)) = w4 at *
   have h4:=hR.out _ hQ.out.low
   have k1:=h4.c1
   have t1:=h4.thawed 1
   have h5:=lhi (h4.goto hjn (z:=(j : Int)) rfl)
   have k5:=lhi ((ChP.of_below (T:=T) (v:=v) hQ.out.low).trans (ChP.store w4 T 1 (.int .i64 (j : Int)) v))
   have hGT : w.heap.size ≠ T:=by omega
   clear hKa hKb hPa hPb hK1 hZ hx hx2 hb1 h4
   obtain ⟨q0,q1,q2,q3⟩:=hQ.out.s.cells4
   go_wp2_with (go_at_call 30;refine (hU.out _ h5.out).mono ?_;intro y w6 hy;obtain ⟨z,rfl,hy⟩:=hy.ret;replace hy:=lhi (hy.from k5.out))
   go_ret
   exact hy.out
theorem rbracket_any {r : List UInt8} (hx : l.drop i = 91 :: r) (hc : inG = true → bg [92,41] (l.drop i) = false) :
    Calls Tryz.prog 76 #[.pointer (some ⟨T,0,none⟩)] w (RNode false w B T A n c l v ns g i cl inG):=by
 obtain ⟨hi,hx1,-⟩:=drop_at hx
 have hnl:=h.hn
 have hin : i < n:=by omega
 have ha : atomA l i = brkA l i:=by rw [atom_at hx];rfl
 cases hv : readB l (i + 1) with
 | error e =>
  have he:=readB_wrong hv
  exact (rbracket_no h hin hv).mono fun _ _ y => y.node hi hc (fun ps lv => by rw [ha];unfold brkA;rw [hv];rfl) (by omega)
 | ok p =>
  obtain ⟨f,j⟩:=p
  have hj:=readB_size (by omega) hv
  exact (rbracket_yes h hin hv).mono fun _ _ y => y.node hi hc (by rw [ha];unfold brkA;rw [hv]) (by omega)
end
theorem catGo_snoc : ∀ (r : List Int) (x : Int) (ns : List Nod) (p : Int),catGo x ns (r ++ [p]) = match catGo x ns r with
    | some (y,m) => if m.length < 1000 then some ((m.length : Int),m ++ [twoN 2 y p]) else none
    | none => none
 | [],x,ns,p => by
  rfl
 | q :: r,x,ns,p => by
  rw [List.cons_append,catGo_cons,catGo_cons]
  split
  · exact catGo_snoc r _ _ p
  · rfl
theorem catGo_step {r : List Int} {x : Int} {ns : List Nod} {j : Nat} {y : Int} {m : List Nod} (hj : j < r.length) (h : catGo x ns (r.take j) = some (y,m)) : catGo x ns (r.take (j + 1)) = if m.length < 1000 then some ((m.length : Int),m ++ [twoN 2 y (r[j]'hj)]) else none:=by
 rw [List.take_succ_eq_append_getElem hj,catGo_snoc,h]
theorem catGo_stop {r : List Int} {x : Int} {ns : List Nod} {j : Nat} (hj : j < r.length) (h : catGo x ns (r.take j) = none) : catGo x ns (r.take (j + 1)) = none:=by
 rw [List.take_succ_eq_append_getElem hj,catGo_snoc,h]
section
variable {w w' w0 : World} {B T W : Nat} {A : Option Addr} {n c : Nat} {l : List UInt8} {v v' v0 pv : Value} {ns : List Nod} {g i : Nat} {cl : Nat → Bool} {e : Nat} {ps : List Int}
theorem Pcs.chr (h : Pcs W w pv ps) (hp : Rdr w B T A n c l v ns g i cl e) (k : ChP w w' T v v') (hT : T < W) : Pcs W w' pv ps:=by
 refine ⟨?_,Nat.le_trans h.base k.size⟩
 rcases h.own.2 with ⟨rfl,e1⟩ | ⟨q,cap,cur,rfl,hb,hh,r⟩
 · exact ⟨h.own.1,.inl ⟨rfl,e1⟩⟩
 · refine ⟨h.own.1,.inr ⟨q,cap,cur,rfl,hb,?_,r⟩⟩
   have hk : Held w q 3 cur:=hh
   exact (k.far q hk.lt (by omega) (fun e => hk.not_own hp.own (by decide) e.symm)).trans hh
theorem Rdr.grown (h : Rdr w B T A n c l v ns g i cl e) (hp : Pcs W w pv ps) (hg : w.grownBy w' pv.ownBlock) (hT : T < W) : Rdr w' B T A n c l v ns g i cl e:=by
 have hB : Below B w w':=⟨hg.os,hg.tape,hg.output,hg.size,fun k hk => hg.block k (nll hk h.bhs) (fun e => by have:=hp.lt k e.symm;have:=h.base;omega)⟩
 refine ⟨h.held.grown hg (fun e => by have:=hp.lt T e.symm;omega),h.own.kept hg ?_,h.len,h.grp,h.base,h.le,h.clg,h.txt.below hB⟩
 rcases own_apart hp.own h.own (by decide) with e1 | e1
 · rw [e1]
   cases hv : v.ownBlock with
   | none => exact .inl rfl
   | some k => exact .inr (by simp)
 · exact .inr fun e => e1 e.symm
theorem Pcs.elem {Ap : Option Addr} {m k : Nat} (h : Pcs W w (.slice Ap m k) ps) {j : Nat} (hj : j < ps.length) : ∃ ad,Ap = some ad ∧ w.cell? (ad.add j) = some (.int .i64 (ps[j]'hj)):=by
 obtain ⟨h1,h2,h3,h4,h5⟩:=h.slice'
 obtain ⟨ad,h6,h7,h8⟩:=h4.at_ (k:=j) (by rw [List.length_map];exact hj)
 rw [List.getElem_map] at h8
 exact ⟨ad,h6,h8⟩
def RCat (w : World) (B T : Nat) (A : Option Addr) (n c : Nat) (l : List UInt8) (v : Value) (ns : List Nod) (g i : Nat) (cl : Nat → Bool) (ps : List Int) (e : Ending) (w' : World) : Prop :=
 (∃ x v' ns',e = .returned (.int .i64 x) ∧ catS ns ps = some (x,ns') ∧ okP (ns'.length : Int) x = true ∧ ns.length ≤ ns'.length ∧ Rdr w' B T A n c l v' ns' g i cl 0 ∧ ChP w w' T v v') ∨
 (∃ x v' ns',e = .returned (.int .i64 x) ∧ catS ns ps = none ∧ Rdr w' B T A n c l v' ns' g i cl 8 ∧ ChP w w' T v v')
theorem RCat.ret {x : Ending} (h : RCat w B T A n c l v ns g i cl ps x w') : ∃ z,x = .returned (.int .i64 z) ∧ RCat w B T A n c l v ns g i cl ps (.returned (.int .i64 z)) w':=by
 rcases h with ⟨x,v',ns',rfl,h⟩ | ⟨x,v',ns',rfl,h⟩
 · exact ⟨_,rfl,.inl ⟨x,v',ns',rfl,h⟩⟩
 · exact ⟨_,rfl,.inr ⟨x,v',ns',rfl,h⟩⟩
def RelCat (w : World) (B T : Nat) (A : Option Addr) (n c : Nat) (l : List UInt8) (v : Value) (ns : List Nod) (g i : Nat) (cl : Nat → Bool) (x : Int) (r : List Int) (kv iv : Value) (wr : World) : Prop :=
 ∃ j : Nat,j ≤ r.length ∧ iv = .int .i64 ((j : Int) + 1) ∧
 ((∃ y v' ns',kv = .int .i64 y ∧ catGo x ns (r.take j) = some (y,ns') ∧ okP (ns'.length : Int) y = true ∧ ns.length ≤ ns'.length ∧ Rdr wr B T A n c l v' ns' g i cl 0 ∧ ChP w wr T v v') ∨
 (∃ y v' ns',kv = .int .i64 y ∧ catGo x ns (r.take j) = none ∧ Rdr wr B T A n c l v' ns' g i cl 8 ∧ ChP w wr T v v'))
theorem RelCat.mk {x : Int} {r : List Int} {kv iv : Value} {wr : World} (h : ∃ j : Nat,j ≤ r.length ∧ iv = .int .i64 ((j : Int) + 1) ∧
 ((∃ y v' ns',kv = .int .i64 y ∧ catGo x ns (r.take j) = some (y,ns') ∧ okP (ns'.length : Int) y = true ∧ ns.length ≤ ns'.length ∧ Rdr wr B T A n c l v' ns' g i cl 0 ∧ ChP w wr T v v') ∨
 (∃ y v' ns',kv = .int .i64 y ∧ catGo x ns (r.take j) = none ∧ Rdr wr B T A n c l v' ns' g i cl 8 ∧ ChP w wr T v v'))) : RelCat w B T A n c l v ns g i cl x r kv iv wr:=h
theorem rcat_any (h : Rdr w B T A n c l v ns g i cl 0) {m k : Nat} {Ap : Option Addr} (hp : Pcs W w (.slice Ap m k) ps) (hT : T < W) (hok : ∀ p ∈ ps,okP (ns.length : Int) p = true) (hpn : ps.length ≤ 2000000) :
    Calls Tryz.prog 53 #[.pointer (some ⟨T,0,none⟩),.slice Ap m k] w (RCat w B T A n c l v ns g i cl ps):=by
 obtain ⟨hm,hmk,hk3,-,-⟩:=hp.slice'
 cases ps with
 | nil =>
  obtain rfl : m = 0:=by simpa using hm
  have hP:=lhi (rput_any h emptyN (fits_plain 0 (.inl rfl) _ _))
  rw [show nodV emptyN = _ from nodV_z 0 0 0 0 0 0] at hP
  have hfin:=lhi (show ∀ z w',RPut w B T A n c l v ns g i cl emptyN (.returned (.int .i64 z)) w' → RCat w B T A n c l v ns g i cl [] (.returned (.int .i64 z)) w' from fun z w' hy => by
   rcases hy with ⟨hl,v',e1,h1,h2⟩ | ⟨hl,v',e1,h1,h2⟩
   · refine .inl ⟨_,v',_,e1,by rw [catS_nil,if_pos hl],by rw [lla];exact okP_last _,by simp,h1,h2⟩
   · exact .inr ⟨_,v',_,e1,by rw [catS_nil,if_neg hl],h1,h2⟩)
  clear h hp hok hm hpn
  go_enter Tryz.func53,Tryz.ntmps53
  go_wp2_with (go_at_call 30;refine (hP.out).mono ?_;intro x w2 hy;obtain ⟨z,rfl,hy⟩:=hy.ret;replace hy:=lhi (hfin.out _ _ hy))
  go_ret
  exact hy.out
 | cons x r =>
  obtain ⟨ad,rfl,c00⟩:=hp.elem (j:=0) (by simp)
  rw [show ad.add 0 = ad by cases ad;simp [Addr.add]] at c00
  simp only [List.getElem_cons_zero] at c00
  have hm1 : m = r.length + 1:=by simpa using hm
  have hrl : r.length ≤ 2000000:=by simp at hpn;omega
  have hm0 : ((m : Int) == 0) = false:=by rw [bef];omega
  have hmi : (0 : Int) < (m : Int):=by omega
  have hx0:=hok x (by simp)
  have hokr:=lhi (fun p (hp : p ∈ r) => hok p (by simp [hp]))
  have hh:=lhi h
  have hpp:=lhi hp
  have hx0':=lhi hx0
  replace hm1:=lhi hm1
  clear h hp hok hx0 hm hpn
  go_enter Tryz.func53,Tryz.ntmps53
  go_wp2
  go_loopw [5,6] (fun kv iv wr => RelCat w B T (A:=A) n c l v ns g i cl x r kv iv wr) (fun _ iv _ => m - (intOf iv).toNat)
  case atStart => exact RelCat.mk ⟨0,by omega,rfl,.inl ⟨x,v,ns,rfl,by rw [List.take_zero,catGo_nil],hx0'.out,nlr _,hh.out,ChP.of_below (Below.refl _ _)⟩⟩
  case round =>
   clear c00
   obtain ⟨j,hj,rfl,hst⟩:=hrel
   by_cases hlt : j < r.length
   · have hji : (j : Int) + 1 < (m : Int):=by have:=hm1.out;omega
     obtain ⟨q,hq⟩ : ∃ q,q = j + 1:=⟨_,rfl⟩
     have hqi : (j : Int) + 1 = (q : Int):=by omega
     rw [hqi] at hji ⊢
     have hqm : q < m:=by omega
     have hq0 : (0 : Int) ≤ (q : Int):=by omega
     have hq2 : (q : Int) ≤ 2000001:=by omega
     have hqj:=lhi hq
     rcases hst with ⟨y,v1,ns1,rfl,hc,hy,hln,h1,k1⟩ | ⟨y,v1,ns1,rfl,hc,h1,k1⟩
     · have hp1:=hpp.out.chr hh.out k1 hT
       obtain ⟨ad',e',hcell⟩:=hp1.elem (j:=q) (by rw [List.length_cons];omega)
       cases e'
       have hel : (x :: r)[q]'(by rw [List.length_cons];omega) = r[j]'hlt:=by subst hq;rfl
       rw [hel] at hcell
       have hpo:=okP_more (hokr.out _ (List.getElem_mem hlt)) (show (ns.length : Int) ≤ (ns1.length : Int) by omega)
       have hP:=lhi (rput_any h1 (twoN 2 y (r[j]'hlt)) (by rw [fits_two 2 (.inl rfl),hy,hpo];rfl))
       have hst:=lhi (catGo_step hlt hc)
       rw [show nodV (twoN 2 y (r[j]'hlt)) = _ from nodV_z 2 y (r[j]'hlt) 0 0 0] at hP
       have hfin:=lhi (show ∀ z w',RPut wr B T A n c l v1 ns1 g i cl (twoN 2 y (r[j]'hlt)) (.returned (.int .i64 z)) w' → RelCat w B T A n c l v ns g i cl x r (.int .i64 z) (.int .i64 ((q : Int) + 1)) w' from fun z w' hy => by
        refine RelCat.mk ⟨j + 1,hlt,by rw [hq],?_⟩
        have hst:=hst.out
        rcases hy with ⟨hl,v',e1,h1,h2⟩ | ⟨hl,v',e1,h1,h2⟩
        · rw [if_pos hl] at hst
          injection e1 with e1
          refine .inl ⟨_,v',_,e1,hst,by rw [lla];exact okP_last _,by rw [lla];omega,h1,k1.trans h2⟩
        · rw [if_neg hl] at hst
          injection e1 with e1
          exact .inr ⟨_,v',_,e1,hst,h1,k1.trans h2⟩)
       generalize r[j]'hlt = p at *
       clear h1 hp1 hy hc hpo hel hst hln k1 hq hqi
       go_wp2_with (go_at_call 30;refine (hP.out).mono ?_;intro x w2 hy;obtain ⟨z,rfl,hy⟩:=hy.ret;replace hy:=lhi (hfin.out _ _ hy))
       go_roundw
       case rel => exact hy.out
       case measure => have:=hqj.out;simp [intOf];omega
     · have hp1:=hpp.out.chr hh.out k1 hT
       obtain ⟨ad',e',hcell⟩:=hp1.elem (j:=q) (by rw [List.length_cons];omega)
       cases e'
       generalize (x :: r)[q]'(by rw [List.length_cons];omega) = p at hcell
       have hP:=lhi (rput_off h1 (by decide) (twoN 2 y p))
       rw [show nodV (twoN 2 y p) = _ from nodV_z 2 y p 0 0 0] at hP
       have hfin:=lhi (show ∀ w',Below wr.heap.size wr w' → RelCat w B T A n c l v ns g i cl x r (.int .i64 0) (.int .i64 ((q : Int) + 1)) w' from fun w' hb =>
        RelCat.mk ⟨j + 1,hlt,by rw [hq],.inr ⟨0,v1,ns1,rfl,catGo_stop hlt hc,h1.keep hb,k1.trans (ChP.of_below hb)⟩⟩)
       clear h1 hp1 hc k1 hq hqi
       go_wp2_with (go_at_call 30;refine (hP.out).mono ?_;rintro x w2 ⟨rfl,hb2⟩;have hy:=lhi (hfin.out _ hb2))
       go_roundw
       case rel => exact hy.out
       case measure => have:=hqj.out;simp [intOf];omega
   · obtain rfl : j = r.length:=by omega
     rw [List.take_length] at hst
     have hmm : (r.length : Int) + 1 = (m : Int):=by have:=hm1.out;omega
     rw [hmm]
     rcases hst with ⟨y,v1,ns1,rfl,hc,hy,hln,h1,k1⟩ | ⟨y,v1,ns1,rfl,hc,h1,k1⟩
     · have hfin:=lhi (show RCat w B T A n c l v ns g i cl (x :: r) (.returned (.int .i64 y)) wr from .inl ⟨y,v1,ns1,rfl,by rw [catS_cons];exact hc,hy,hln,h1,k1⟩)
       clear h1 hc hy k1 hmm
       go_wp2
       go_ret
       exact hfin.out
     · have hfin:=lhi (show RCat w B T A n c l v ns g i cl (x :: r) (.returned (.int .i64 y)) wr from .inr ⟨y,v1,ns1,rfl,by rw [catS_cons];exact hc,h1,k1⟩)
       clear h1 hc k1 hmm
       go_wp2
       go_ret
       exact hfin.out
end
end Go.Proofs.YtonjnagcdnmcpaaGreatDoor
