/- Contracts and plain facts: M38. -/
import Derived.Test.YtbdfhmefjfaofaaM37
set_option linter.unusedVariables false
set_option linter.unusedSimpArgs false
set_option maxRecDepth 100000
set_option maxHeartbeats 32000000
namespace Go.Proofs.Ytbdfhmefjfaofaa
open Go.ChangeShapes Go.WideShapes Go.Deep Go.RowKit
theorem list10 {α : Type} (l : List α) (h : l.length = 10) : ∃ a b c d e f g i j k,l = [a,b,c,d,e,f,g,i,j,k]:=by
 match l,h with
 | [a,b,c,d,e,f,g,i,j,k],_ => exact ⟨a,b,c,d,e,f,g,i,j,k,rfl⟩
theorem cells_int1 : Try.prog.cellsOf 3 = 1:=by kernel_rfl
theorem cells_nod : Try.prog.cellsOf 54 = 10:=by kernel_rfl
theorem cells_re : Try.prog.cellsOf 24 = 2:=by kernel_rfl
theorem cells_nods : Try.prog.cellsOf 22 = 1:=by kernel_rfl
section
variable {H : Type} {enc : TypeId × Value → H} {W : World} {held : Bool}
theorem fld_at {fs : Array Field} {f : Field} {t : TypeId} {o k : Nat} {cs : List Value} {xs : List (DataW H × List MemPlace)} {n c : Nat} (hf : ∀ (i : Nat) (f : Field),fs[i]? = some f → DataW.trod enc Try.prog W 0 (fun _ => true) held n f.type ((cs.drop f.offset).take (Try.prog.cellsOf f.type)) = xs[i]?)
    (hl : xs.length = fs.size) (hk : fs[k]? = some f) (h : fldK f = (true,t,o)) (hc : Try.prog.cellsOf t = c) : ∃ y,DataW.trod enc Try.prog W 0 (fun _ => true) held n t ((cs.drop o).take c) = some y:=by
 simp only [fldK,Prod.mk.injEq] at h
 obtain ⟨-,rfl,rfl⟩:=h
 have:=hf k f hk
 rw [hc] at this
 have hlt : k < xs.length:=by rw [hl];exact (Array.getElem?_eq_some_iff.1 hk).1
 rw [List.getElem?_eq_getElem hlt] at this
 exact ⟨_,this⟩
theorem nod_trod {fuel : Nat} {cs : List Value} {x : DataW H × List MemPlace} (h : DataW.trod enc Try.prog W 0 (fun _ => true) held fuel 54 cs = some x) : ∃ n : Nod,cs = nodL n:=by
 obtain ⟨xs,m,-,-,hlen,hxl,hf⟩:=DataW.trod_struct under_nod h
 rw [cells_nod] at hlen
 obtain ⟨c0,c1,c2,c3,c4,c5,c6,c7,c8,c9,rfl⟩:=list10 cs hlen
 have hfl:=flds_nod
 have hsz : (Try.prog.fieldsOf 54).toList.length = (Try.prog.fieldsOf 54).size:=by simp
 have hat : ∀ (j : Nat),(Try.prog.fieldsOf 54)[j]? = (Try.prog.fieldsOf 54).toList[j]?:=fun j => by simp
 generalize (Try.prog.fieldsOf 54) = F at *
 generalize hL : F.toList = L at *
 match L,(show L.length = 7 by have:=congrArg List.length hfl;simpa using this),hfl with
 | [f0,f1,f2,f3,f4,f5,f6],_,hfl =>
  simp only [List.map_cons,List.map_nil,List.cons.injEq,and_true] at hfl
  obtain ⟨h0,h1,h2,h3,h4,h5,h6⟩:=hfl
  obtain ⟨y0,q0⟩:=fld_at hf hxl (by rw [hat 0];rfl) h0 cells_int1
  obtain ⟨y1,q1⟩:=fld_at hf hxl (by rw [hat 1];rfl) h1 cells_int1
  obtain ⟨y2,q2⟩:=fld_at hf hxl (by rw [hat 2];rfl) h2 cells_int1
  obtain ⟨y3,q3⟩:=fld_at hf hxl (by rw [hat 3];rfl) h3 cells_int1
  obtain ⟨y4,q4⟩:=fld_at hf hxl (by rw [hat 4];rfl) h4 cells_int1
  obtain ⟨y5,q5⟩:=fld_at hf hxl (by rw [hat 5];rfl) h5 cells_int1
  obtain ⟨y6,q6⟩:=fld_at hf hxl (by rw [hat 6];rfl) h6 cells_set
  obtain ⟨k,e0,-⟩:=DataW.trod_int Try.underlying3 q0
  obtain ⟨a,e1,-⟩:=DataW.trod_int Try.underlying3 q1
  obtain ⟨b,e2,-⟩:=DataW.trod_int Try.underlying3 q2
  obtain ⟨lo,e3,-⟩:=DataW.trod_int Try.underlying3 q3
  obtain ⟨hi,e4,-⟩:=DataW.trod_int Try.underlying3 q4
  obtain ⟨gr,e5,-⟩:=DataW.trod_int Try.underlying3 q5
  obtain ⟨s,e6,e7,e8,e9⟩:=set_trod (c0:=c6) (c1:=c7) (c2:=c8) (c3:=c9) q6
  simp only [List.drop_zero,List.drop_succ_cons,List.take_succ_cons,List.take_zero,List.cons.injEq,and_true] at e0 e1 e2 e3 e4 e5
  exact ⟨⟨k,a,b,lo,hi,gr,s⟩,by rw [e0,e1,e2,e3,e4,e5,e6,e7,e8,e9];rfl⟩
theorem nods_trod {fuel : Nat} {cs : List Value} {x : DataW H × List MemPlace} (h : DataW.trod enc Try.prog W 0 (fun _ => true) true fuel 22 cs = some x) :
    ∃ (A : Option Addr) (n cap : Nat) (ns : List Nod),cs = [.slice A n cap] ∧ n = ns.length ∧ n ≤ cap ∧ cap ≤ maxLen ∧ Nods W W.heap.size A ns:=by
 rcases open_slice Try.underlying22 h with ⟨hcs,_⟩ | ⟨a,len',cap',m,n,D,Pl,hcs,hb,hl,hm,hmm,hx,hi⟩
 · exact ⟨none,0,0,[],hcs,rfl,nlr _,by simp [maxLen],Nods.none_ _ _ _⟩
 · simp only [if_true] at hmm
   rw [cells_nod] at hi
   have key : ∀ i,i < len' → ∃ nd : Nod,∀ j u,(nodL nd)[j]? = some u → W.cell? (a.add (i * 10 + j)) = some u:=by
    intro i hil
    obtain ⟨cs',hc,ht⟩:=hi i (by omega)
    obtain ⟨_,hcl,hat⟩:=World.cells?_some hc
    obtain ⟨nd,rfl⟩:=nod_trod ht
    refine ⟨nd,fun j u hj => ?_⟩
    have hj10 : j < 10:=by have:=(List.getElem?_eq_some_iff.1 hj).1;rwa [nodL_len] at this
    have:=hat j hj10
    rw [add_two,hj] at this
    exact this
   have hex : ∃ F : Nat → Nod,∀ i,i < len' → ∀ j u,(nodL (F i))[j]? = some u → W.cell? (a.add (i * 10 + j)) = some u :=
    ⟨fun i => if hil : i < len' then Classical.choose (key i hil) else ⟨0,0,0,0,0,0,zset⟩,fun i hil => by simp only [dif_pos hil];exact Classical.choose_spec (key i hil)⟩
   obtain ⟨F,hF⟩:=hex
   refine ⟨some a,len',cap',(List.range len').map F,hcs,by simp,hl,hm,?_⟩
   intro k hk
   rw [List.length_map,List.length_range] at hk
   have e2 : ((List.range len').map F)[k]'(by simpa using hk) = F k:=by simp
   rw [e2]
   refine ⟨a,rfl,?_,hF k hk⟩
   have:=World.block_lt_of_cell? _ _ (hF k hk 0 _ rfl)
   rwa [block_add] at this
theorem under_re : Try.prog.underlying 24 = some (.struct (Try.prog.fieldsOf 24)):=by kernel_rfl
theorem flds_re : (Try.prog.fieldsOf 24).toList.map fldK = [(true,22,0),(true,3,1)]:=by kernel_rfl
theorem re_trod {fuel : Nat} {cs : List Value} {x : DataW H × List MemPlace} (h : DataW.trod enc Try.prog W 0 (fun _ => true) true fuel 24 cs = some x) :
    ∃ (A : Option Addr) (n cap : Nat) (ns : List Nod) (g : Int),cs = [.slice A n cap,.int .i64 g] ∧ n = ns.length ∧ n ≤ cap ∧ cap ≤ maxLen ∧ Nods W W.heap.size A ns:=by
 obtain ⟨xs,m,-,-,hlen,hxl,hf⟩:=DataW.trod_struct under_re h
 rw [cells_re] at hlen
 obtain ⟨c0,c1,rfl⟩ : ∃ c0 c1,cs = [c0,c1]:=by
  match cs,hlen with
  | [c0,c1],_ => exact ⟨c0,c1,rfl⟩
 have hfl:=flds_re
 have hat : ∀ (j : Nat),(Try.prog.fieldsOf 24)[j]? = (Try.prog.fieldsOf 24).toList[j]?:=fun j => by simp
 generalize (Try.prog.fieldsOf 24) = F at *
 generalize hL : F.toList = L at *
 match L,(show L.length = 2 by have:=congrArg List.length hfl;simpa using this),hfl with
 | [f0,f1],_,hfl =>
  simp only [List.map_cons,List.map_nil,List.cons.injEq,and_true] at hfl
  obtain ⟨h0,h1⟩:=hfl
  obtain ⟨y0,q0⟩:=fld_at hf hxl (by rw [hat 0];rfl) h0 cells_nods
  obtain ⟨y1,q1⟩:=fld_at hf hxl (by rw [hat 1];rfl) h1 cells_int1
  obtain ⟨A,n,cap,ns,e0,r1,r2,r3,r4⟩:=nods_trod q0
  obtain ⟨g,e1,-⟩:=DataW.trod_int Try.underlying3 q1
  simp only [List.drop_zero,List.drop_succ_cons,List.take_succ_cons,List.take_zero,List.cons.injEq,and_true] at e0 e1
  exact ⟨A,n,cap,ns,g,by rw [e0,e1],r1,r2,r3,r4⟩
theorem open_re {v : Value} {d : DataW H} {ps : List MemPlace} {r : Reach} {base : Nat}
    (hv : Value.okWide Try.prog W r base 24 v) (h : DataW.Trod enc Try.prog W 0 (fun _ => true) true 24 v d ps) :
    ∃ (A : Option Addr) (n cap : Nat) (ns : List Nod) (g : Int),v = .agg #[.slice A n cap,.int .i64 g] ∧ n = ns.length ∧ n ≤ cap ∧ cap ≤ maxLen ∧ Nods W W.heap.size A ns:=by
 obtain ⟨cs,rfl,hsz⟩:=okWide_struct under_re hv
 obtain ⟨fuel,hf⟩:=h
 obtain ⟨A,n,cap,ns,g,e,r1,r2,r3,r4⟩:=re_trod hf
 obtain ⟨l⟩:=cs
 have e' : l = [.slice A n cap,.int .i64 g]:=e
 subst e'
 exact ⟨A,n,cap,ns,g,rfl,r1,r2,r3,r4⟩
end
end Go.Proofs.Ytbdfhmefjfaofaa
namespace Go.Proofs.Ytbdfhmefjfaofaa
open Go.RowKit
theorem onceL_at {l : List Int} (h : onceL l = true) {k : Nat} (hk : k < l.length) : l[k]'hk = 1:=by
 unfold onceL at h
 rw [List.all_eq_true] at h
 simpa using h _ (List.getElem_mem hk)
theorem right_all {ns : List Nod} {g : Nat} (h : rightN ns (g : Int) = true) : (1 ≤ ns.length ∧ ns.length ≤ 1000 ∧ g ≤ 9) ∧ (∀ k (hk : k < ns.length),fitsN (ns[k]'hk) (k : Int) (g : Int) = true) ∧ (∀ i,i < ns.length - 1 → usesN ns i = 1) ∧ (∀ q,1 ≤ q → q ≤ g → grpsN ns q = 1):=by
 have hs : 1 ≤ ns.length ∧ ns.length ≤ 1000 ∧ 0 ≤ (g : Int) ∧ (g : Int) ≤ 9:=by
  by_cases hx : 1 ≤ ns.length ∧ ns.length ≤ 1000 ∧ 0 ≤ (g : Int) ∧ (g : Int) ≤ 9
  · exact hx
  · rw [rightN_size hx] at h;cases h
 have hf : ∀ k (hk : k < ns.length),fitsN (ns[k]'hk) (k : Int) (g : Int) = true:=fun k hk => by
  cases hx : fitsN (ns[k]'hk) (k : Int) (g : Int) with
  | true => rfl
  | false => rw [rightN_fits hk hx] at h;cases h
 rw [rightN_end hs hf,Bool.and_eq_true] at h
 refine ⟨⟨hs.1,hs.2.1,by omega⟩,hf,fun i hi => ?_,fun q h1 h2 => ?_⟩
 · have:=onceL_at h.1 (k:=i) (by simpa using hi)
   simpa using this
 · have:=onceL_at h.2 (k:=q - 1) (by simp;omega)
   simp only [List.getElem_map,List.getElem_range] at this
   rwa [show q - 1 + 1 = q by omega] at this
structure StR (W w : World) (G1 G2 G : Nat) (nd : Nod) (rv r1 r2 : Array Value) : Prop where
 re : Held w W.heap.size 24 rv
 a : Held w G1 3 r1
 b : Held w G2 3 r2
 nd : Held w G 54 (nodC nd)
 low : Below W.heap.size W w
 h12 : G1 ≠ G2
 h1 : W.heap.size ≤ G1
 h2 : W.heap.size ≤ G2
section
variable {W w w' : World} {G1 G2 G : Nat} {nd : Nod} {rv r1 r2 : Array Value} {n : Nat} {P : List Int} {q : Nat}
theorem StR.below (h : StR W w G1 G2 G nd rv r1 r2) (hb : Below w.heap.size w w') : StR W w' G1 G2 G nd rv r1 r2 :=
 ⟨h.re.keep hb,h.a.keep hb,h.b.keep hb,h.nd.keep hb,h.low.trans (hb.mono h.low.size),h.h12,h.h1,h.h2⟩
theorem StR.incA (h : StR W w G1 G2 G nd rv (rowC n (cntI P)) r2) : StR W (w.setCell ⟨G1,q,none⟩ (.int .i64 (cntI P q + 1))) G1 G2 G nd rv (rowC n (cntI (P ++ [(q : Int)]))) r2:=by
 refine ⟨h.re.far (Held.apart h.re h.a (by decide)) _,?_,h.b.far h.h12.symm _,h.nd.far (Held.apart h.nd h.a (by decide)) _,h.low.setCell (p:=⟨G1,q,none⟩) h.h1 _,h.h12,h.h1,h.h2⟩
 have:=h.a.put q (.int .i64 (cntI P q + 1))
 rw [rowC_set] at this
 have e : cntI (P ++ [(q : Int)]) = fun i => if i = q then cntI P q + 1 else cntI P i:=by
  funext i
  rw [cntI_snoc]
 rw [e]
 exact this
theorem StR.incB (h : StR W w G1 G2 G nd rv r1 (rowC n (cntI P))) : StR W (w.setCell ⟨G2,q,none⟩ (.int .i64 (cntI P q + 1))) G1 G2 G nd rv r1 (rowC n (cntI (P ++ [(q : Int)]))):=by
 refine ⟨h.re.far (Held.apart h.re h.b (by decide)) _,h.a.far h.h12 _,?_,h.nd.far (Held.apart h.nd h.b (by decide)) _,h.low.setCell (p:=⟨G2,q,none⟩) h.h2 _,h.h12,h.h1,h.h2⟩
 have:=h.b.put q (.int .i64 (cntI P q + 1))
 rw [rowC_set] at this
 have e : cntI (P ++ [(q : Int)]) = fun i => if i = q then cntI P q + 1 else cntI P i:=by
  funext i
  rw [cntI_snoc]
 rw [e]
 exact this
theorem StR.cellA (h : StR W w G1 G2 G nd rv (rowC n (cntI P)) r2) (hq : q < n) : w.cell? ⟨G1,q,none⟩ = some (.int .i64 (cntI P q)) ∧ w.frozen? ⟨G1,q,none⟩ = false ∧ 0 ≤ cntI P q ∧ cntI P q ≤ P.length :=
 ⟨h.a.at_ (rowC_get n _ q hq),h.a.thawed q,cntI_le P q⟩
theorem StR.cellB (h : StR W w G1 G2 G nd rv r1 (rowC n (cntI P))) (hq : q < n) : w.cell? ⟨G2,q,none⟩ = some (.int .i64 (cntI P q)) ∧ w.frozen? ⟨G2,q,none⟩ = false ∧ 0 ≤ cntI P q ∧ cntI P q ≤ P.length :=
 ⟨h.b.at_ (rowC_get n _ q hq),h.b.thawed q,cntI_le P q⟩
end
def RelR2 (W : World) (G1 G2 : Nat) (ns : List Nod) (n : Nat) (rv : Array Value) (i : Value) (wr : World) : Prop :=
 ∃ k : Nat,k ≤ n ∧ i = .int .i64 (k : Nat) ∧ Held wr W.heap.size 24 rv ∧ Held wr G1 3 (rowC n (cntI ((ns.take k).flatMap partsN))) ∧ Held wr G2 3 (rowC 10 (grpsN (ns.take k))) ∧ Below W.heap.size W wr
theorem RelR2.mk {W : World} {G1 G2 : Nat} {ns : List Nod} {n : Nat} {rv : Array Value} {i : Value} {wr : World} (h : ∃ k : Nat,k ≤ n ∧ i = .int .i64 (k : Nat) ∧ Held wr W.heap.size 24 rv ∧ Held wr G1 3 (rowC n (cntI ((ns.take k).flatMap partsN))) ∧ Held wr G2 3 (rowC 10 (grpsN (ns.take k))) ∧ Below W.heap.size W wr) : RelR2 W G1 G2 ns n rv i wr:=h
theorem rel2_next {W w' : World} {G1 G2 G : Nat} {ns : List Nod} {n k : Nat} {nd : Nod} {rv : Array Value} (hk : k < ns.length) (hn : n = ns.length) (hnd : ns[k]'hk = nd) (h : StR W w' G1 G2 G nd rv (rowC n (cntI ((ns.take k).flatMap partsN ++ partsN nd))) (rowC 10 (grpsN (ns.take (k + 1))))) : RelR2 W G1 G2 ns n rv (.int .i64 ((k : Int) + 1)) w':=by
 refine RelR2.mk ⟨k + 1,by omega,by rw [Int.natCast_add];rfl,h.re,?_,h.b,h.low⟩
 have:=h.a
 rw [flat_snoc ns k hk,hnd]
 exact this
theorem bne_yes {a b : Int} (h : a ≠ b) : (a != b) = true:=by rw [bne_iff_ne];exact h
theorem set_neq2 (f : Nat → Bool) (w : World) : (binOp .neq 51 (.agg #[.int .u64 (wd f 0 : Nat),.int .u64 (wd f 1 : Nat),.int .u64 (wd f 2 : Nat),.int .u64 (wd f 3 : Nat)]) (.agg #[.int .u64 0,.int .u64 0,.int .u64 0,.int .u64 0])).run Try.prog w = .ok (.bool (!sameS f zset)) w:=by
 have : (binOp .neq 51 (.agg #[.int .u64 (wd f 0 : Nat),.int .u64 (wd f 1 : Nat),.int .u64 (wd f 2 : Nat),.int .u64 (wd f 3 : Nat)]) (.agg #[.int .u64 (wd zset 0 : Nat),.int .u64 (wd zset 1 : Nat),.int .u64 (wd zset 2 : Nat),.int .u64 (wd zset 3 : Nat)])).run Try.prog w = .ok (.bool (!sameS f zset)) w :=
  (run_neq_struct w _ _ _).trans (by rw [run_equalIn_lit];rfl)
 simp only [zset_wd] at this
 exact this
theorem set_guard2 (p q : Operand) (x y : Array Value) (w : World) : (eqGuard .neq 51 p q (.agg x) (.agg y)).run Try.prog w = .ok () w:=run_eqGuard_agg w .neq _ p q _ _ guard_set
def MayP (t g : Int) (k a b lo hi q : Int) (z : Bool) : Prop :=
 ((k = 0 ∨ k = 7 ∨ k = 8) ∧ a = 0 ∧ b = 0 ∧ q = 0 ∧ z = true ∧ lo = 0 ∧ hi = 0) ∨
 (k = 1 ∧ a = 0 ∧ b = 0 ∧ q = 0 ∧ lo = 0 ∧ hi = 0) ∨
 ((k = 2 ∨ k = 3) ∧ 0 ≤ a ∧ a < t ∧ 0 ≤ b ∧ b < t ∧ q = 0 ∧ z = true ∧ lo = 0 ∧ hi = 0) ∨
 (k = 4 ∧ 0 ≤ a ∧ a < t ∧ b = 0 ∧ q = 0 ∧ z = true ∧ timesN lo hi = true) ∨
 (k = 5 ∧ 0 ≤ a ∧ a < t ∧ b = 0 ∧ 1 ≤ q ∧ q ≤ g ∧ z = true ∧ lo = 0 ∧ hi = 0) ∨
 (k = 6 ∧ a = 0 ∧ b = 0 ∧ 1 ≤ q ∧ q ≤ g ∧ z = true ∧ lo = 0 ∧ hi = 0)
theorem fits_may {t g k a b lo hi q : Int} {s : Nat → Bool} (h : MayP t g k a b lo hi q (sameS s zset)) : fitsN ⟨k,a,b,lo,hi,q,s⟩ t g = true:=by
 have hs : sameS s s = true:=sameS_of fun _ _ => rfl
 unfold fitsN
 rw [sameN_and]
 rcases h with ⟨hk,rfl,rfl,rfl,hz,rfl,rfl⟩ | ⟨rfl,rfl,rfl,rfl,rfl,rfl⟩ | ⟨hk,h1,h2,h3,h4,rfl,hz,rfl,rfl⟩ | ⟨rfl,h1,h2,rfl,rfl,hz,ht⟩ | ⟨rfl,h1,h2,rfl,h3,h4,hz,rfl,rfl⟩ | ⟨rfl,rfl,rfl,h3,h4,hz,rfl,rfl⟩
 · rcases hk with rfl | rfl | rfl <;> simp [partsN,wantedN,hz]
 · simp [partsN,wantedN,hs]
 · rcases hk with rfl | rfl <;> simp [partsN,wantedN,okP,h1,h2,h3,h4,hz]
 · simp [partsN,wantedN,okP,h1,h2,hz,ht]
 · simp [partsN,wantedN,okP,h1,h2,h3,h4,hz]
 · simp [partsN,wantedN,h3,h4,hz]
def No (nd : Nod) (t g : Int) (w : World) : Prop:=Calls Try.prog 23 #[nodV nd,.int .i64 t,.int .i64 g] w fun e w' => e = .returned (.bool false) ∧ Below w.heap.size w w'
end Go.Proofs.Ytbdfhmefjfaofaa
