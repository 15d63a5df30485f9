/- Contracts and plain facts: MS. -/
import Derived.Test.YtonjnagcdnmcpaaGreatDoorM40
set_option linter.unusedVariables false
set_option linter.unusedSimpArgs false
set_option maxRecDepth 100000
set_option maxHeartbeats 32000000
namespace Go.Proofs.YtonjnagcdnmcpaaGreatDoor
open Go.ChangeShapes Go.WideShapes Go.Deep Go.RowKit
theorem cells_set : Tryz.prog.cellsOf 41 = 4:=by kernel_rfl
theorem cells_u64 : Tryz.prog.cellsOf 39 = 1:=by kernel_rfl
theorem nat_u64 {x : Int} (h : (Lit.int .u64 x).wf = true) : ∃ y : Nat,x = (y : Int) ∧ y < 18446744073709551616:=by
 have hb:=bounds_u64 h
 obtain ⟨y,rfl⟩:=Int.eq_ofNat_of_zero_le hb.1
 exact ⟨y,rfl,by omega⟩
section
variable {H : Type} {enc : TypeId × Value → H} {W : World} {held : Bool}
theorem set_trod {fuel : Nat} {c0 c1 c2 c3 : Value} {x : DataW H × List MemPlace} (h : DataW.trod enc Tryz.prog W 0 (fun _ => true) held fuel 41 [c0,c1,c2,c3] = some x) :
    ∃ f : Nat → Bool,c0 = .int .u64 ((wd f 0 : Nat) : Int) ∧ c1 = .int .u64 ((wd f 1 : Nat) : Int) ∧ c2 = .int .u64 ((wd f 2 : Nat) : Int) ∧ c3 = .int .u64 ((wd f 3 : Nat) : Int):=by
 obtain ⟨y0,y1,y2,y3,m,-,h0,h1,h2,h3⟩:=trod_array4 Tryz.underlying41 cells_u64 h
 obtain ⟨x0,e0,-,w0⟩:=DataW.trod_int Tryz.underlying39 h0
 obtain ⟨x1,e1,-,w1⟩:=DataW.trod_int Tryz.underlying39 h1
 obtain ⟨x2,e2,-,w2⟩:=DataW.trod_int Tryz.underlying39 h2
 obtain ⟨x3,e3,-,w3⟩:=DataW.trod_int Tryz.underlying39 h3
 obtain ⟨n0,rfl,b0⟩:=nat_u64 w0
 obtain ⟨n1,rfl,b1⟩:=nat_u64 w1
 obtain ⟨n2,rfl,b2⟩:=nat_u64 w2
 obtain ⟨n3,rfl,b3⟩:=nat_u64 w3
 obtain ⟨f,g0,g1,g2,g3⟩:=set_of n0 n1 n2 n3 b0 b1 b2 b3
 simp only [List.cons.injEq,and_true] at e0 e1 e2 e3
 exact ⟨f,by rw [g0];exact e0,by rw [g1];exact e1,by rw [g2];exact e2,by rw [g3];exact e3⟩
end
theorem list10 {α : Type} (l : List α) (h : l.length = 10) : ∃ a b c d e f g i j k,l = [a,b,c,d,e,f,g,i,j,k]:=by
 match l,h with
 | [a,b,c,d,e,f,g,i,j,k],_ => exact ⟨a,b,c,d,e,f,g,i,j,k,rfl⟩
theorem cells_int1 : Tryz.prog.cellsOf 3 = 1:=by kernel_rfl
theorem cells_nod : Tryz.prog.cellsOf 43 = 10:=by kernel_rfl
theorem cells_re : Tryz.prog.cellsOf 26 = 2:=by kernel_rfl
theorem cells_nods : Tryz.prog.cellsOf 24 = 1:=by kernel_rfl
section
variable {H : Type} {enc : TypeId × Value → H} {W : World} {held : Bool}
theorem fld_at {fs : Array Field} {f : Field} {t : TypeId} {o k : Nat} {cs : List Value} {xs : List (DataW H × List MemPlace)} {n c : Nat} (hf : ∀ (i : Nat) (f : Field),fs[i]? = some f → DataW.trod enc Tryz.prog W 0 (fun _ => true) held n f.type ((cs.drop f.offset).take (Tryz.prog.cellsOf f.type)) = xs[i]?)
    (hl : xs.length = fs.size) (hk : fs[k]? = some f) (h : fldK f = (true,t,o)) (hc : Tryz.prog.cellsOf t = c) : ∃ y,DataW.trod enc Tryz.prog W 0 (fun _ => true) held n t ((cs.drop o).take c) = some y:=by
 simp only [fldK,Prod.mk.injEq] at h
 obtain ⟨-,rfl,rfl⟩:=h
 have:=hf k f hk
 rw [hc] at this
 have hlt : k < xs.length:=by rw [hl];exact (Array.getElem?_eq_some_iff.1 hk).1
 rw [List.getElem?_eq_getElem hlt] at this
 exact ⟨_,this⟩
theorem nod_trod {fuel : Nat} {cs : List Value} {x : DataW H × List MemPlace} (h : DataW.trod enc Tryz.prog W 0 (fun _ => true) held fuel 43 cs = some x) : ∃ n : Nod,cs = nodL n:=by
 obtain ⟨xs,m,-,-,hlen,hxl,hf⟩:=DataW.trod_struct under_nod h
 rw [cells_nod] at hlen
 obtain ⟨c0,c1,c2,c3,c4,c5,c6,c7,c8,c9,rfl⟩:=list10 cs hlen
 have hfl:=flds_nod
 have hsz : (Tryz.prog.fieldsOf 43).toList.length = (Tryz.prog.fieldsOf 43).size:=by simp
 have hat : ∀ (j : Nat),(Tryz.prog.fieldsOf 43)[j]? = (Tryz.prog.fieldsOf 43).toList[j]?:=fun j => by simp
 generalize (Tryz.prog.fieldsOf 43) = F at *
 generalize hL : F.toList = L at *
 match L,(show L.length = 7 by have:=congrArg List.length hfl;simpa using this),hfl with
 | [f0,f1,f2,f3,f4,f5,f6],_,hfl =>
  simp only [List.map_cons,List.map_nil,List.cons.injEq,and_true] at hfl
  obtain ⟨h0,h1,h2,h3,h4,h5,h6⟩:=hfl
  obtain ⟨y0,q0⟩:=fld_at hf hxl (by rw [hat 0];rfl) h0 cells_int1
  obtain ⟨y1,q1⟩:=fld_at hf hxl (by rw [hat 1];rfl) h1 cells_int1
  obtain ⟨y2,q2⟩:=fld_at hf hxl (by rw [hat 2];rfl) h2 cells_int1
  obtain ⟨y3,q3⟩:=fld_at hf hxl (by rw [hat 3];rfl) h3 cells_int1
  obtain ⟨y4,q4⟩:=fld_at hf hxl (by rw [hat 4];rfl) h4 cells_int1
  obtain ⟨y5,q5⟩:=fld_at hf hxl (by rw [hat 5];rfl) h5 cells_int1
  obtain ⟨y6,q6⟩:=fld_at hf hxl (by rw [hat 6];rfl) h6 cells_set
  obtain ⟨k,e0,-⟩:=DataW.trod_int Tryz.underlying3 q0
  obtain ⟨a,e1,-⟩:=DataW.trod_int Tryz.underlying3 q1
  obtain ⟨b,e2,-⟩:=DataW.trod_int Tryz.underlying3 q2
  obtain ⟨lo,e3,-⟩:=DataW.trod_int Tryz.underlying3 q3
  obtain ⟨hi,e4,-⟩:=DataW.trod_int Tryz.underlying3 q4
  obtain ⟨gr,e5,-⟩:=DataW.trod_int Tryz.underlying3 q5
  obtain ⟨s,e6,e7,e8,e9⟩:=set_trod (c0:=c6) (c1:=c7) (c2:=c8) (c3:=c9) q6
  simp only [List.drop_zero,List.drop_succ_cons,List.take_succ_cons,List.take_zero,List.cons.injEq,and_true] at e0 e1 e2 e3 e4 e5
  exact ⟨⟨k,a,b,lo,hi,gr,s⟩,by rw [e0,e1,e2,e3,e4,e5,e6,e7,e8,e9];rfl⟩
theorem nods_trod {fuel : Nat} {cs : List Value} {x : DataW H × List MemPlace} (h : DataW.trod enc Tryz.prog W 0 (fun _ => true) true fuel 24 cs = some x) :
    ∃ (A : Option Addr) (n cap : Nat) (ns : List Nod),cs = [.slice A n cap] ∧ n = ns.length ∧ n ≤ cap ∧ cap ≤ maxLen ∧ Nods W W.heap.size A ns:=by
 rcases open_slice Tryz.underlying24 h with ⟨hcs,_⟩ | ⟨a,len',cap',m,n,D,Pl,hcs,hb,hl,hm,hmm,hx,hi⟩
 · exact ⟨none,0,0,[],hcs,rfl,nlr _,by simp [maxLen],Nods.none_ _ _ _⟩
 · simp only [if_true] at hmm
   rw [cells_nod] at hi
   have key : ∀ i,i < len' → ∃ nd : Nod,∀ j u,(nodL nd)[j]? = some u → W.cell? (a.add (i * 10 + j)) = some u:=by
    intro i hil
    obtain ⟨cs',hc,ht⟩:=hi i (by omega)
    obtain ⟨_,hcl,hat⟩:=World.cells?_some hc
    obtain ⟨nd,rfl⟩:=nod_trod ht
    refine ⟨nd,fun j u hj => ?_⟩
    have hj10 : j < 10:=by have:=(List.getElem?_eq_some_iff.1 hj).1;rwa [nodL_len] at this
    have:=hat j hj10
    rw [add_two,hj] at this
    exact this
   have hex : ∃ F : Nat → Nod,∀ i,i < len' → ∀ j u,(nodL (F i))[j]? = some u → W.cell? (a.add (i * 10 + j)) = some u :=
    ⟨fun i => if hil : i < len' then Classical.choose (key i hil) else ⟨0,0,0,0,0,0,zset⟩,fun i hil => by simp only [dif_pos hil];exact Classical.choose_spec (key i hil)⟩
   obtain ⟨F,hF⟩:=hex
   refine ⟨some a,len',cap',(List.range len').map F,hcs,by simp,hl,hm,?_⟩
   intro k hk
   rw [List.length_map,List.length_range] at hk
   have e2 : ((List.range len').map F)[k]'(by simpa using hk) = F k:=by simp
   rw [e2]
   refine ⟨a,rfl,?_,hF k hk⟩
   have:=World.block_lt_of_cell? _ _ (hF k hk 0 _ rfl)
   rwa [block_add] at this
theorem under_re : Tryz.prog.underlying 26 = some (.struct (Tryz.prog.fieldsOf 26)):=by kernel_rfl
theorem flds_re : (Tryz.prog.fieldsOf 26).toList.map fldK = [(true,24,0),(true,3,1)]:=by kernel_rfl
theorem re_trod {fuel : Nat} {cs : List Value} {x : DataW H × List MemPlace} (h : DataW.trod enc Tryz.prog W 0 (fun _ => true) true fuel 26 cs = some x) :
    ∃ (A : Option Addr) (n cap : Nat) (ns : List Nod) (g : Int),cs = [.slice A n cap,.int .i64 g] ∧ n = ns.length ∧ n ≤ cap ∧ cap ≤ maxLen ∧ Nods W W.heap.size A ns:=by
 obtain ⟨xs,m,-,-,hlen,hxl,hf⟩:=DataW.trod_struct under_re h
 rw [cells_re] at hlen
 obtain ⟨c0,c1,rfl⟩ : ∃ c0 c1,cs = [c0,c1]:=by
  match cs,hlen with
  | [c0,c1],_ => exact ⟨c0,c1,rfl⟩
 have hfl:=flds_re
 have hat : ∀ (j : Nat),(Tryz.prog.fieldsOf 26)[j]? = (Tryz.prog.fieldsOf 26).toList[j]?:=fun j => by simp
 generalize (Tryz.prog.fieldsOf 26) = F at *
 generalize hL : F.toList = L at *
 match L,(show L.length = 2 by have:=congrArg List.length hfl;simpa using this),hfl with
 | [f0,f1],_,hfl =>
  simp only [List.map_cons,List.map_nil,List.cons.injEq,and_true] at hfl
  obtain ⟨h0,h1⟩:=hfl
  obtain ⟨y0,q0⟩:=fld_at hf hxl (by rw [hat 0];rfl) h0 cells_nods
  obtain ⟨y1,q1⟩:=fld_at hf hxl (by rw [hat 1];rfl) h1 cells_int1
  obtain ⟨A,n,cap,ns,e0,r1,r2,r3,r4⟩:=nods_trod q0
  obtain ⟨g,e1,-⟩:=DataW.trod_int Tryz.underlying3 q1
  simp only [List.drop_zero,List.drop_succ_cons,List.take_succ_cons,List.take_zero,List.cons.injEq,and_true] at e0 e1
  exact ⟨A,n,cap,ns,g,by rw [e0,e1],r1,r2,r3,r4⟩
theorem open_re {v : Value} {d : DataW H} {ps : List MemPlace} {r : Reach} {base : Nat}
    (hv : Value.okWide Tryz.prog W r base 26 v) (h : DataW.Trod enc Tryz.prog W 0 (fun _ => true) true 26 v d ps) :
    ∃ (A : Option Addr) (n cap : Nat) (ns : List Nod) (g : Int),v = .agg #[.slice A n cap,.int .i64 g] ∧ n = ns.length ∧ n ≤ cap ∧ cap ≤ maxLen ∧ Nods W W.heap.size A ns:=by
 obtain ⟨cs,rfl,hsz⟩:=okWide_struct under_re hv
 obtain ⟨fuel,hf⟩:=h
 obtain ⟨A,n,cap,ns,g,e,r1,r2,r3,r4⟩:=re_trod hf
 obtain ⟨l⟩:=cs
 have e' : l = [.slice A n cap,.int .i64 g]:=e
 subst e'
 exact ⟨A,n,cap,ns,g,rfl,r1,r2,r3,r4⟩
end
end Go.Proofs.YtonjnagcdnmcpaaGreatDoor
namespace Go.Proofs.YtonjnagcdnmcpaaGreatDoor
open Go.RowKit
theorem onceL_at {l : List Int} (h : onceL l = true) {k : Nat} (hk : k < l.length) : l[k]'hk = 1:=by
 unfold onceL at h
 rw [List.all_eq_true] at h
 simpa using h _ (List.getElem_mem hk)
theorem right_all {ns : List Nod} {g : Nat} (h : rightN ns (g : Int) = true) : (1 ≤ ns.length ∧ ns.length ≤ 1000 ∧ g ≤ 9) ∧ (∀ k (hk : k < ns.length),fitsN (ns[k]'hk) (k : Int) (g : Int) = true) ∧ (∀ i,i < ns.length - 1 → usesN ns i = 1) ∧ (∀ q,1 ≤ q → q ≤ g → grpsN ns q = 1):=by
 have hs : 1 ≤ ns.length ∧ ns.length ≤ 1000 ∧ 0 ≤ (g : Int) ∧ (g : Int) ≤ 9:=by
  by_cases hx : 1 ≤ ns.length ∧ ns.length ≤ 1000 ∧ 0 ≤ (g : Int) ∧ (g : Int) ≤ 9
  · exact hx
  · rw [rightN_size hx] at h;cases h
 have hf : ∀ k (hk : k < ns.length),fitsN (ns[k]'hk) (k : Int) (g : Int) = true:=fun k hk => by
  cases hx : fitsN (ns[k]'hk) (k : Int) (g : Int) with
  | true => rfl
  | false => rw [rightN_fits hk hx] at h;cases h
 rw [rightN_end hs hf,Bool.and_eq_true] at h
 refine ⟨⟨hs.1,hs.2.1,by omega⟩,hf,fun i hi => ?_,fun q h1 h2 => ?_⟩
 · have:=onceL_at h.1 (k:=i) (by simpa using hi)
   simpa using this
 · have:=onceL_at h.2 (k:=q - 1) (by simp;omega)
   simp only [List.getElem_map,List.getElem_range] at this
   rwa [show q - 1 + 1 = q by omega] at this
section
variable {W w w' : World} {G1 G2 G : Nat} {nd : Nod} {rv r1 r2 : Array Value} {n : Nat} {P : List Int} {q : Nat}
theorem StR.incA (h : StR W w G1 G2 G nd rv (rowC n (cntI P)) r2) : StR W (w.setCell ⟨G1,q,none⟩ (.int .i64 (cntI P q + 1))) G1 G2 G nd rv (rowC n (cntI (P ++ [(q : Int)]))) r2:=by
 refine ⟨h.re.far (Held.apart h.re h.a (by decide)) _,?_,h.b.far h.h12.symm _,h.nd.far (Held.apart h.nd h.a (by decide)) _,h.low.setCell (p:=⟨G1,q,none⟩) h.h1 _,h.h12,h.h1,h.h2⟩
 have:=h.a.put q (.int .i64 (cntI P q + 1))
 rw [rowC_set] at this
 have e : cntI (P ++ [(q : Int)]) = fun i => if i = q then cntI P q + 1 else cntI P i:=by
  funext i
  rw [cntI_snoc]
 rw [e]
 exact this
theorem StR.incB (h : StR W w G1 G2 G nd rv r1 (rowC n (cntI P))) : StR W (w.setCell ⟨G2,q,none⟩ (.int .i64 (cntI P q + 1))) G1 G2 G nd rv r1 (rowC n (cntI (P ++ [(q : Int)]))):=by
 refine ⟨h.re.far (Held.apart h.re h.b (by decide)) _,h.a.far h.h12 _,?_,h.nd.far (Held.apart h.nd h.b (by decide)) _,h.low.setCell (p:=⟨G2,q,none⟩) h.h2 _,h.h12,h.h1,h.h2⟩
 have:=h.b.put q (.int .i64 (cntI P q + 1))
 rw [rowC_set] at this
 have e : cntI (P ++ [(q : Int)]) = fun i => if i = q then cntI P q + 1 else cntI P i:=by
  funext i
  rw [cntI_snoc]
 rw [e]
 exact this
theorem StR.cellA (h : StR W w G1 G2 G nd rv (rowC n (cntI P)) r2) (hq : q < n) : w.cell? ⟨G1,q,none⟩ = some (.int .i64 (cntI P q)) ∧ w.frozen? ⟨G1,q,none⟩ = false ∧ 0 ≤ cntI P q ∧ cntI P q ≤ P.length :=
 ⟨h.a.at_ (rowC_get n _ q hq),h.a.thawed q,cntI_le P q⟩
theorem StR.cellB (h : StR W w G1 G2 G nd rv r1 (rowC n (cntI P))) (hq : q < n) : w.cell? ⟨G2,q,none⟩ = some (.int .i64 (cntI P q)) ∧ w.frozen? ⟨G2,q,none⟩ = false ∧ 0 ≤ cntI P q ∧ cntI P q ≤ P.length :=
 ⟨h.b.at_ (rowC_get n _ q hq),h.b.thawed q,cntI_le P q⟩
end
theorem rel2_next {W w' : World} {G1 G2 G : Nat} {ns : List Nod} {n k : Nat} {nd : Nod} {rv : Array Value} (hk : k < ns.length) (hn : n = ns.length) (hnd : ns[k]'hk = nd) (h : StR W w' G1 G2 G nd rv (rowC n (cntI ((ns.take k).flatMap partsN ++ partsN nd))) (rowC 10 (grpsN (ns.take (k + 1))))) : RelR2 W G1 G2 ns n rv (.int .i64 ((k : Int) + 1)) w':=by
 refine RelR2.mk ⟨k + 1,by omega,by rw [Int.natCast_add];rfl,h.re,?_,h.b,h.low⟩
 have:=h.a
 rw [flat_snoc ns k hk,hnd]
 exact this
theorem refRight_yes (A : Option Addr) (n c : Nat) (ns : List Nod) (g : Nat) (B : Nat) (w : World) (hn : n = ns.length) (hnc : n ≤ c) (hm : c ≤ maxLen) (hB : B ≤ w.heap.size) (h : Nods w B A ns) (hr : rightN ns (g : Int) = true) :
    Calls Tryz.prog 13 #[.agg #[.slice A n c,.int .i64 (g : Int)]] w fun e w' => e = .returned (.bool true) ∧ Below w.heap.size w w':=by
 unfold maxLen at hm
 obtain ⟨⟨hs1,hs2,hg9⟩,hfit,huse,hgrp⟩:=right_all hr
 have h1 : 1 ≤ n:=by omega
 have h2 : n ≤ 1000:=by omega
 have h3 : (g : Int) ≤ 9:=by omega
 have hMk1:=make_ints n (by omega)
 have hMk2 : ∀ w,(Instr.makeSlice 53 (.int .i64 10) (.int .i64 10)).run Tryz.prog w = .ok (.slice (some ⟨w.heap.size,0,none⟩) 10 10) (w.alloc (.cells (rowC 10 (fun _ => 0)) 3)):=fun w => make_ints 10 (by decide) w
 have hH:=lhi hn
 have hh:=lhi h
 have hBB:=lhi hB
 have hfit':=lhi hfit
 have huse':=lhi huse
 have hgrp':=lhi hgrp
 have hw0:=lhi (held_new w 26 #[.slice A n c,.int .i64 (g : Int)])
 have hb0:=lhi (show Below w.heap.size w (w.alloc (.cells #[.slice A n c,.int .i64 (g : Int)] 26)) from (Below.refl _ _).alloc (nlr _) _)
 clear hn h hB hr hfit huse hgrp hs1 hs2
 go_enter Tryz.func13,Tryz.ntmps13
 go_wp2
 go_loopw [4] (fun iv wr => ∃ k : Nat,k ≤ n ∧ iv = .int .i64 ((k : Nat) : Int) ∧ Held wr w.heap.size 26 #[.slice A n c,.int .i64 (g : Int)] ∧ Below w.heap.size w wr) (fun iv _ => n - (intOf iv).toNat)
 case atStart => exact ⟨0,by omega,rfl,hw0.out,hb0.out⟩
 case round =>
  obtain ⟨k,hk,rfl,hRe,hb⟩:=hrel
  by_cases hlt : k < n
  · have hkl : k < ns.length:=by have:=hH.out;omega
    obtain ⟨ad,b,o,hA,hp,-,hd⟩:=(hh.out.below (hb.mono hBB.out)).at_ hkl
    subst hA
    have hkn : (k : Int) < (n : Int):=by omega
    have hk0 : (0 : Int) ≤ (k : Int):=by omega
    have hNd:=lhi (fun w' (hb' : Below w.heap.size w w') => show w'.rangeAt b o (nodL (ns[k]'hkl)) from by
     obtain ⟨ad2,b2,o2,hA2,hp2,-,hd2⟩:=(hh.out.below (hb'.mono hBB.out)).at_ hkl
     cases hA2
     rw [hp] at hp2
     cases hp2
     exact hd2)
    have hM:=lhi (fun w => may_fits (hfit'.out k hkl) w)
    have hre:=lhi (fun w' (hb' : Below wr.heap.size wr w') => (show w'.cell? ⟨w.heap.size,0,none⟩ = some (.slice (some ad) n c) ∧ w'.cell? ⟨w.heap.size,1,none⟩ = some (.int .i64 (g : Int)) ∧ Held w' w.heap.size 26 #[.slice (some ad) n c,.int .i64 (g : Int)] from ⟨(hRe.keep hb').at_ rfl,(hRe.keep hb').at_ rfl,hRe.keep hb'⟩))
    have hbb:=lhi hb
    clear hRe hb hd hMk1 hMk2 hw0 hb0
    generalize ns[k]'hkl = nd at hNd hM
    obtain ⟨kd,a,bq,lo,hi',gr,s⟩:=nd
    rw [nodV_lit] at hM
    generalize hs0 : wd s 0 = s0 at hM
    generalize hs1 : wd s 1 = s1 at hM
    generalize hs2 : wd s 2 = s2 at hM
    generalize hs3 : wd s 3 = s3 at hM
    have hNc:=lhi (fun w' (hb' : Below w.heap.size w w') => show w'.cell? ⟨b,o,none⟩ = some (.int .i64 kd) ∧ w'.cell? ⟨b,o + 1,none⟩ = some (.int .i64 a) ∧ w'.cell? ⟨b,o + 2,none⟩ = some (.int .i64 bq) ∧ w'.cell? ⟨b,o + 3,none⟩ = some (.int .i64 lo) ∧ w'.cell? ⟨b,o + 4,none⟩ = some (.int .i64 hi') ∧ w'.cell? ⟨b,o + 5,none⟩ = some (.int .i64 gr) ∧ w'.cell? ⟨b,o + 6,none⟩ = some (.int .u64 (s0 : Int)) ∧ w'.cell? ⟨b,o + 7,none⟩ = some (.int .u64 (s1 : Int)) ∧ w'.cell? ⟨b,o + 8,none⟩ = some (.int .u64 (s2 : Int)) ∧ w'.cell? ⟨b,o + 9,none⟩ = some (.int .u64 (s3 : Int)) from by
     have hr:=hNd.out w' hb'
     subst hs0 hs1 hs2 hs3
     exact ⟨hr 0 _ rfl,hr 1 _ rfl,hr 2 _ rfl,hr 3 _ rfl,hr 4 _ rfl,hr 5 _ rfl,hr 6 _ rfl,hr 7 _ rfl,hr 8 _ rfl,hr 9 _ rfl⟩)
    clear hNd hs0 hs1 hs2 hs3
    have hx0:=lhi (show Below wr.heap.size wr wr.drew from (Below.refl _ _).drew)
    go_wp2
    go_region_held3 (fun w' => (w'.cell? ⟨w.heap.size,0,none⟩ = some (.slice (some ad) n c) ∧ w'.cell? ⟨w.heap.size,1,none⟩ = some (.int .i64 (g : Int))) ∧ w'.cell? ⟨b,o,none⟩ = some (.int .i64 kd) ∧ w'.cell? ⟨b,o + 1,none⟩ = some (.int .i64 a) ∧ w'.cell? ⟨b,o + 2,none⟩ = some (.int .i64 bq) ∧ w'.cell? ⟨b,o + 3,none⟩ = some (.int .i64 lo) ∧ w'.cell? ⟨b,o + 4,none⟩ = some (.int .i64 hi') ∧ w'.cell? ⟨b,o + 5,none⟩ = some (.int .i64 gr) ∧ w'.cell? ⟨b,o + 6,none⟩ = some (.int .u64 (s0 : Int)) ∧ w'.cell? ⟨b,o + 7,none⟩ = some (.int .u64 (s1 : Int)) ∧ w'.cell? ⟨b,o + 8,none⟩ = some (.int .u64 (s2 : Int)) ∧ w'.cell? ⟨b,o + 9,none⟩ = some (.int .u64 (s3 : Int)))
     (first | exact ⟨⟨(hre.out _ hx0.out).1,(hre.out _ hx0.out).2.1⟩,hNc.out _ (hbb.out.trans (hx0.out.mono hbb.out.size))⟩ | exact ⟨⟨(hre.out _ hb3.out).1,(hre.out _ hb3.out).2.1⟩,hNc.out _ (hbb.out.trans (hb3.out.mono hbb.out.size))⟩ | go_keep)
     (first
     | (go_at_call 23;refine (hM.out _).mono ?_;rintro e w3 ⟨rfl,hb3⟩;replace hb3:=lhi (hx0.out.trans (hb3.mono hx0.out.size))))
    go_wp2
    go_roundw
    case rel => exact ⟨k + 1,by omega,by go_num,(hre.out _ hb3.out).2.2,hbb.out.trans (hb3.out.mono hbb.out.size)⟩
    case measure => simp [intOf];omega
  · obtain rfl : k = n:=by omega
    have hbb:=lhi hb
    have hre0:=lhi hRe
    clear hRe hb hw0 hb0
    go_wp2
    have hG1:=lhi (show w.heap.size ≤ wr.heap.size from hbb.out.size)
    have hAt:=lhi (show RelR2 w wr.heap.size (wr.heap.size + 1) ns k #[.slice A k c,.int .i64 (g : Int)] (.int .i64 0) ((wr.alloc (.cells (rowC k (fun _ => 0)) 3)).alloc (.cells (rowC 10 (fun _ => 0)) 3)) from
     RelR2.mk ⟨0,by omega,rfl,(hre0.out.alloc _).alloc _,(held_new wr _ _).alloc _,held_new2 wr _ _ _,(hbb.out.alloc hbb.out.size _).alloc (by have:=hbb.out.size;simp;omega) _⟩)
    have hG0:=lhi hre0.out.lt
    clear hMk1 hMk2 hre0 hbb
    obtain ⟨G1,hG1e⟩ : ∃ G1,G1 = wr.heap.size:=⟨_,rfl⟩
    rw [← hG1e] at hG1 hAt hG0
    rw [← hG1e]
    generalize (wr.alloc (.cells (rowC k (fun _ => 0)) 3)).alloc (.cells (rowC 10 (fun _ => 0)) 3) = w5 at *
    clear hG1e
    go_loopw [7,8] (fun iv _ wr2 => RelR2 w G1 (G1 + 1) ns k #[.slice A k c,.int .i64 (g : Int)] iv wr2) (fun iv _ _ => k - (intOf iv).toNat)
    case atStart => exact hAt.out
    case round =>
     rename World => wr2
     clear hAt
     obtain ⟨j,hj,rfl,hRe,hR1,hR2,hb⟩:=hrel
     by_cases hjk : j < k
     · have hkl : j < ns.length:=by have:=hH.out;omega
       obtain ⟨ad,b,o,hA,hp,-,hd⟩:=(hh.out.below (hb.mono hBB.out)).at_ hkl
       subst hA
       have hfl:=lhi (fun w' nd (hnd : ns[j]'hkl = nd) (h : StR w w' G1 (G1 + 1) wr2.heap.size nd #[.slice (some ad) k c,.int .i64 (g : Int)] (rowC k (cntI ((ns.take j).flatMap partsN ++ partsN nd))) (rowC 10 (grpsN (ns.take (j + 1))))) => rel2_next hkl hH.out hnd h)
       have hg5:=lhi (grps_snoc ns j hkl)
       have hgn:=lhi (grps_same ns j hkl)
       have hft:=hfit'.out j hkl
       have hfp:=lhi (fun p hp => fits_part hft (p:=p) hp)
       have hfg:=lhi (fits_grp hft)
       have hPl:=lhi (flat_len (ns.take j))
       have hGl:=lhi (grp_len (ns.take j))
       rw [List.length_take] at hPl hGl
       obtain ⟨nd,hnd⟩ : ∃ nd,nd = ns[j]'hkl:=⟨_,rfl⟩
       rw [← hnd] at hd hg5 hgn hfp hfg
       have hnd':=lhi hnd.symm
       have hS0:=lhi (show StR w (wr2.alloc (.cells (nodC nd) 43)) G1 (G1 + 1) wr2.heap.size nd _ _ _ from ⟨hRe.alloc _,hR1.alloc _,hR2.alloc _,held_new wr2 _ _,hb.alloc hb.size _,by omega,hG1.out,by have:=hG1.out;omega⟩)
       replace hd:=lhi hd
       have cre:=hRe.at_ (i:=0) rfl
       have cre1:=hRe.lt
       clear hRe hR1 hR2 hb hnd hft
       have hjk0 : (j : Int) < (k : Int):=by omega
       have hj00 : (0 : Int) ≤ (j : Int):=by omega
       generalize hPe : (ns.take j).flatMap partsN = P at *
       replace hPe:=lhi hPe
       go_upto_region 15 with (first
        | (refine wpList_load_mid rfl 43 (.tmp 56) rfl b o rfl (nodL nd) _ hd.out under_nod rfl (nod_info nd) ?_)
        | (refine wpList_store_row rfl 43 (.tmp 8) (.tmp 57) rfl wr2.heap.size (nodC nd) rfl rfl 43 _ (nod_zero_lit wr2) (nod_size nd) rfl (nod_cells nd) ?_
           rw [World.setRow_alloc_new]
           generalize wr2.alloc (.cells (nodC nd) 43) = w3 at *
           generalize wr2.heap.size = G at *))
       have c0 : w3.cell? ⟨G,0,none⟩ = some (.int .i64 nd.kind):=hS0.out.nd.at_ rfl
       have hS1:=lhi (hS0.out.below (Below.refl _ w3).drew)
       by_cases hlo : nd.kind < 2 ∨ 5 < nd.kind
       · have k2 : (nd.kind == 2) = false:=beq_no (by omega)
         have k3 : (nd.kind == 3) = false:=beq_no (by omega)
         have k5 : (nd.kind == 5) = false:=beq_no (by omega)
         have hfin:=lhi (show RelR2 w G1 (G1 + 1) ns k #[.slice (some ad) k c,.int .i64 (g : Int)] (.int .i64 ((j : Int) + 1)) w3 from hfl.out _ nd hnd'.out (by
          rw [partsN_else (by omega) (by omega) (by omega) (by omega),List.append_nil,hgn.out (by omega)];exact hS0.out))
         generalize nd.kind = kd at *
         clear hS0 hS1
         rcases hlo with hlo | hlo
         · have y1 : ¬ 2 ≤ kd:=by omega
           go_wp2
           go_roundw
           case rel => exact hfin.out
           case measure => simp [intOf];omega
         · have y1 : 2 ≤ kd:=by omega
           have y2 : ¬ kd ≤ 5:=by omega
           go_wp2
           go_roundw
           case rel => exact hfin.out
           case measure => simp [intOf];omega
       · have hap:=hfp.out nd.a (by
           obtain e | e | e | e : nd.kind = 2 ∨ nd.kind = 3 ∨ nd.kind = 4 ∨ nd.kind = 5:=by omega
           · rw [partsN_2 e];simp
           · rw [partsN_3 e];simp
           · rw [partsN_4 e];simp
           · rw [partsN_5 e];simp)
         obtain ⟨q,hq⟩ : ∃ q : Nat,nd.a = (q : Int):=Int.eq_ofNat_of_zero_le hap.1
         have c1 : w3.cell? ⟨G,1,none⟩ = some (.int .i64 (q : Int)):=by rw [← hq];exact hS0.out.nd.at_ rfl
         have hqk : q < k:=by omega
         have hq0 : (0 : Int) ≤ (q : Int):=by omega
         have hq1 : (q : Int) < (k : Int):=by omega
         obtain ⟨cq,tq,hle1,hle2⟩:=hS0.out.cellA hqk
         have hPn:=hPl.out
         have hle3 : cntI P q ≤ 3000:=by omega
         have hS2:=lhi ((hS0.out.incA (q:=q)).below (Below.refl _ _).drew)
         have hPl2 : (P ++ [(q : Int)]).length ≤ 2001:=by rw [lla,lls];omega
         generalize hP2 : P ++ [(q : Int)] = P2 at *
         replace hP2:=lhi hP2
         clear hPn hle2
         generalize cntI P q = cv at *
         have hwc : IntKind.i64.wrap (cv + 1) = cv + 1:=IntWalk.i64_in _ (by omega)
         by_cases h23 : nd.kind = 2 ∨ nd.kind = 3
         · have hbp:=hfp.out nd.b (by
             rcases h23 with e | e
             · rw [partsN_2 e];simp
             · rw [partsN_3 e];simp)
           obtain ⟨p,hpb⟩ : ∃ p : Nat,nd.b = (p : Int):=Int.eq_ofNat_of_zero_le hbp.1
           have hpk : p < k:=by omega
           have hp0 : (0 : Int) ≤ (p : Int):=by omega
           have hp1 : (p : Int) < (k : Int):=by omega
           have hpart : partsN nd = [(q : Int),(p : Int)]:=by
            rcases h23 with e | e
            · rw [partsN_2 e,hq,hpb]
            · rw [partsN_3 e,hq,hpb]
           have hfin:=lhi (show ∀ w',StR w w' G1 (G1 + 1) G nd #[.slice (some ad) k c,.int .i64 (g : Int)] (rowC k (cntI (P2 ++ [(p : Int)]))) (rowC 10 (grpsN (ns.take j))) → RelR2 w G1 (G1 + 1) ns k #[.slice (some ad) k c,.int .i64 (g : Int)] (.int .i64 ((j : Int) + 1)) w' from fun w' hs => hfl.out _ nd hnd'.out (by
            rw [hpart,hgn.out (by omega),show P ++ [(q : Int),(p : Int)] = P2 ++ [(p : Int)] from by rw [← hP2.out];simp];exact hs))
           have hbc:=lhi (fun w' (hs : StR w w' G1 (G1 + 1) G nd #[.slice (some ad) k c,.int .i64 (g : Int)] (rowC k (cntI P2)) (rowC 10 (grpsN (ns.take j)))) => (show w'.cell? ⟨G,2,none⟩ = some (.int .i64 (p : Int)) ∧ w'.cell? ⟨G,0,none⟩ = some (.int .i64 nd.kind) from ⟨by rw [← hpb];exact hs.nd.at_ rfl,hs.nd.at_ rfl⟩))
           clear hpart hpb hbp hap hq hfl hg5 hgn hS0 hS1
           rcases h23 with e | e
           all_goals
            rw [e] at c0 hbc
            replace e:=lhi e
            go_wp2
            go_region_law (fail)
            all_goals
             have hs2:=hS2.out
             have hc2:=(hbc.out _ hs2).1
             have hc0:=(hbc.out _ hs2).2
             obtain ⟨cp,tp,hle4,hle5⟩:=hs2.cellA hpk
             have hle6 : cntI P2 p ≤ 3000:=by omega
             have hS3:=lhi ((hs2.incA (q:=p)).below (Below.refl _ _).drew)
             clear hle5 hs2
             generalize cntI P2 p = cv2 at *
             have hwc2 : IntKind.i64.wrap (cv2 + 1) = cv2 + 1:=IntWalk.i64_in _ (by omega)
             try rw [hwc]
             generalize (w3.setCell ⟨G1,q,none⟩ (.int .i64 (cv + 1))).drew = w4 at *
             go_wp2
             go_region_law (fail)
             all_goals
              have hfin3:=lhi (hfin.out _ hS3.out)
              have hc3 : (w4.setCell ⟨G1,p,none⟩ (.int .i64 (cv2 + 1))).drew.cell? ⟨G,0,none⟩ = some (.int .i64 nd.kind):=hS3.out.nd.at_ rfl
              rw [e.out] at hc3
              try rw [hwc2]
              generalize (w4.setCell ⟨G1,p,none⟩ (.int .i64 (cv2 + 1))).drew = w6' at *
              clear hS3 hS2
              go_wp2
              go_roundw
              case rel => exact hfin3.out
              case measure => simp [intOf];omega
         · have hpart : partsN nd = [(q : Int)]:=by
             obtain e | e : nd.kind = 4 ∨ nd.kind = 5:=by omega
             · rw [partsN_4 e,hq]
             · rw [partsN_5 e,hq]
           by_cases h5 : nd.kind = 5
           · obtain ⟨hq5a,hq5b⟩:=hfg.out h5
             obtain ⟨p,hpg⟩ : ∃ p : Nat,nd.grp = (p : Int):=Int.eq_ofNat_of_zero_le (by omega)
             have hp10 : p < 10:=by omega
             have hp0 : (0 : Int) ≤ (p : Int):=by omega
             have hp1 : (p : Int) < 10:=by omega
             have hgs:=lhi (hg5.out p h5 hpg)
             have hbc:=lhi (fun w' (hs : StR w w' G1 (G1 + 1) G nd #[.slice (some ad) k c,.int .i64 (g : Int)] (rowC k (cntI P2)) (rowC 10 (grpsN (ns.take j)))) => (show w'.cell? ⟨G,5,none⟩ = some (.int .i64 (p : Int)) ∧ w'.cell? ⟨G,0,none⟩ = some (.int .i64 5) from ⟨by rw [← hpg];exact hs.nd.at_ rfl,by rw [← h5];exact hs.nd.at_ rfl⟩))
             unfold grpsN at hS2 hbc
             generalize hX : (((ns.take j).filter fun n => decide (n.kind = 5)).map Nod.grp) = X at hS2 hbc hGl
             have hfin:=lhi (show ∀ w',StR w w' G1 (G1 + 1) G nd #[.slice (some ad) k c,.int .i64 (g : Int)] (rowC k (cntI P2)) (rowC 10 (cntI (X ++ [(p : Int)]))) → RelR2 w G1 (G1 + 1) ns k #[.slice (some ad) k c,.int .i64 (g : Int)] (.int .i64 ((j : Int) + 1)) w' from fun w' hs => hfl.out _ nd hnd'.out (by
              have e : grpsN (ns.take (j + 1)) = cntI (X ++ [(p : Int)]):=by
               funext i
               rw [hgs.out i,cntI_snoc]
               unfold grpsN
               rw [hX]
              rw [hpart,e,hP2.out];exact hs))
             have hXl : X.length ≤ 1000:=by have:=hGl.out;omega
             replace hX:=lhi hX
             rw [h5] at c0
             clear hpart hap hq hfl hg5 hgn hS0 hS1 hgs hGl hfg hq5a hq5b hpg h23
             replace h5:=lhi h5
             go_wp2
             go_region_law (fail)
             all_goals
              have hs2:=hS2.out
              have hc2:=(hbc.out _ hs2).1
              have hc0:=(hbc.out _ hs2).2
              obtain ⟨cp,tp,hle4,hle5⟩:=hs2.cellB hp10
              have hle6 : cntI X p ≤ 3000:=by omega
              have hS3:=lhi ((hs2.incB (q:=p)).below (Below.refl _ _).drew)
              clear hle5 hs2
              generalize cntI X p = cv2 at *
              have hwc2 : IntKind.i64.wrap (cv2 + 1) = cv2 + 1:=IntWalk.i64_in _ (by omega)
              try rw [hwc]
              generalize (w3.setCell ⟨G1,q,none⟩ (.int .i64 (cv + 1))).drew = w4 at *
              go_wp2
              go_region_law (fail)
              all_goals
               have hfin3:=lhi (hfin.out _ hS3.out)
               try rw [hwc2]
               generalize (w4.setCell ⟨G1 + 1,p,none⟩ (.int .i64 (cv2 + 1))).drew = w6' at *
               clear hS3 hS2
               go_wp2
               go_roundw
               case rel => exact hfin3.out
               case measure => simp [intOf];omega
           · have h4 : nd.kind = 4:=by omega
             have hfin:=lhi (show RelR2 w G1 (G1 + 1) ns k #[.slice (some ad) k c,.int .i64 (g : Int)] (.int .i64 ((j : Int) + 1)) _ from hfl.out _ nd hnd'.out (by rw [hpart,hgn.out h5,hP2.out];exact hS2.out))
             have hc0:=hS2.out.nd.at_ (i:=0) (v:=.int .i64 nd.kind) rfl
             rw [h4] at c0 hc0
             clear hpart hap hq hfl hg5 hgn hS0 hS1 hGl hfg h23 h5 hS2
             replace h4:=lhi h4
             go_wp2
             go_region_law (fail)
             all_goals
              try rw [hwc]
              generalize (w3.setCell ⟨G1,q,none⟩ (.int .i64 (cv + 1))).drew = w4 at *
              go_wp2
              go_roundw
              case rel => exact hfin.out
              case measure => simp [intOf];omega
     · obtain rfl : j = k:=by omega
       have htk : ns.take j = ns:=List.take_of_length_le (by have:=hH.out;omega)
       rw [htk] at hR1 hR2
       have hbb:=lhi hb
       have hre1:=hRe.at_ (i:=1) rfl
       have huj:=lhi (fun i (hi : i < j - 1) => show wr2.cell? ⟨G1,i,none⟩ = some (.int .i64 1) from by
        have:=hR1.at_ (rowC_get j _ i (by omega))
        rw [this]
        have:=huse'.out i (by have:=hH.out;omega)
        unfold usesN at this
        rw [this])
       have hgj:=lhi (fun q (h1 : 1 ≤ q) (h2 : q ≤ g) => show wr2.cell? ⟨G1 + 1,q,none⟩ = some (.int .i64 1) from by
        have:=hR2.at_ (rowC_get 10 _ q (by omega))
        rw [this,hgrp'.out q h1 h2])
       clear hR1 hR2 hRe hb htk
       have hj1 : IntKind.i64.wrap ((j : Int) - 1) = (j : Int) - 1:=IntWalk.i64_in _ (by omega)
       go_wp2
       go_loop [9] (fun iv => ∃ i : Nat,i ≤ j - 1 ∧ iv = .int .i64 ((i : Nat) : Int)) (fun iv => j - (intOf iv).toNat)
       case atStart => exact ⟨0,by omega,rfl⟩
       case round =>
        obtain ⟨i,hi,rfl⟩:=hrel
        by_cases hij : i < j - 1
        · have hcell:=huj.out i hij
          have hi0 : (0 : Int) ≤ (i : Int):=by omega
          have hi1 : (i : Int) < (j : Int):=by omega
          have hi2 : (i : Int) < (j : Int) - 1:=by omega
          go_wp2
          go_round
          case rel => exact ⟨i + 1,by omega,by go_num⟩
          case measure => simp [intOf];omega
        · have hi2 : ¬ (i : Int) < (j : Int) - 1:=by omega
          go_wp2
          go_loop [10] (fun iv => ∃ q : Nat,1 ≤ q ∧ q ≤ g + 1 ∧ iv = .int .i64 ((q : Nat) : Int)) (fun iv => 20 - (intOf iv).toNat)
          case atStart => exact ⟨1,by omega,by omega,rfl⟩
          case round =>
           obtain ⟨q,hq1,hq2,rfl⟩:=hrel
           by_cases hqg : q ≤ g
           · have hcell:=hgj.out q hq1 hqg
             have hq0 : (0 : Int) ≤ (q : Int):=by omega
             have hq3 : (q : Int) < 10:=by omega
             go_wp2
             go_round
             case rel => exact ⟨q + 1,by omega,by omega,by go_num⟩
             case measure => simp [intOf];omega
           · go_wp2
             go_ret
             exact ⟨rfl,hbb.out⟩
end Go.Proofs.YtonjnagcdnmcpaaGreatDoor
