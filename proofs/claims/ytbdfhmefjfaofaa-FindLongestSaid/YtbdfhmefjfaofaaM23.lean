/- Contracts and plain facts: M23. -/
import Derived.Test.YtbdfhmefjfaofaaM22
import Derived.Great.BuildSlice
set_option linter.unusedVariables false
set_option linter.unusedSimpArgs false
set_option maxRecDepth 100000
set_option maxHeartbeats 32000000
namespace Go.Proofs.Ytbdfhmefjfaofaa
open Go.RowKit
section
variable {w w1 w' : World} {B S W : Nat} {An : Option Addr} {nn cn : Nat} {At : Option Addr} {nt ct : Nat} {ns : List Nod} {t : List UInt8} {g : Int} {a left : Nat} {v v' : Value} {xs : List Wt} {b : Option Spn} {pv : Value} {p : Pt} {l : List Tsk}
theorem takesNode_6 (m : Nat) (h : Sta w B S W An nn cn At nt ct ns t g a left v xs b pv p l) (hn : m < ns.length) (hk : (ndA ns (m : Int)).kind = 6) (hwk : WOK ns t g a (.node (m : Int) :: l,p)) :
    Calls Try.prog 55 #[.pointer (some ⟨S,0,none⟩),.pointer (some ⟨W,0,none⟩),.int .i64 (m : Int)] w (GoP w B S W An nn cn At nt ct ns t g a left v xs b ((nexts ns t (.node (m : Int)) p).map (ahead l))):=by
 have hgr:=(h.s.thru.rt.2.2 (m : Int) (by omega) (by omega)).2.2.2.2 (.inr hk)
 have hg9:=h.s.thru.rt.2.1
 obtain ⟨q,hq⟩ : ∃ q : Nat,(ndA ns (m : Int)).grp = (q : Int):=⟨(ndA ns (m : Int)).grp.toNat,by omega⟩
 have hnx : (nexts ns t (.node (m : Int)) p).map (ahead l) = agL t (p.sp q) p l:=by
  unfold agL
  cases hb : backAt t (p.sp q) p.i with
  | none => rw [next_back_no hk (by rw [hq];exact hb)];rfl
  | some j => rw [next_back hk (by rw [hq];exact hb)];rfl
 rw [hnx]
 clear hnx
 have hmn : m < nn:=by have:=h.s.thru.nn_;omega
 obtain ⟨ad,bb,oo,rfl,hp,hbb,hr⟩:=h.s.thru.node' hn
 have c0:=h.c0
 have hlow:=lhi (fun w' (hb : Below B w w') => node_cells (range_below hr hb hbb))
 have hbase:=lhi h.s.thru.base
 have ⟨⟨d0,d1,d2⟩,d3,d4,d5⟩:=node_cells hr
 rw [hk] at d0
 have hh:=lhi h
 rw [hq] at d5 hgr
 have hq9 : q < 10:=by omega
 have hT:=lhi (fun w1 (hb : Below w.heap.size w w1) => takesAgain_any q (h.keep hb) hwk)
 have hK:=lhi (fun w1 (hb : Below w.heap.size w w1) => show w1.cell? ⟨bb,oo + 5,none⟩ = some (.int .i64 (q : Int)) ∧ w1.cell? ⟨W,1 + q * 2,none⟩ = some (.int .i64 (p.sp q).1) ∧ w1.cell? ⟨W,1 + q * 2 + 1,none⟩ = some (.int .i64 (p.sp q).2) from by
  have hw:=way_range (h.keep hb).way
  refine ⟨?_,?_,?_⟩
  · have:=(node_cells (range_below hr (hb.mono hbase.out) hbb)).2.2.2;rwa [hq] at this
  · rw [Nat.mul_comm];exact hw (2 * q) _ (hitL_from p.sp hq9)
  · rw [Nat.mul_comm,Nat.add_assoc];exact hw (2 * q + 1) _ (hitL_to p.sp hq9))
 have hK0:=lhi (hK.out w (Below.refl _ _))
 have hfrom:=lhi (fun w1 w2 e (hb : Below w.heap.size w w1) (hg : GoP w1 B S W (some ad) nn cn At nt ct ns t g a left v xs b (agL t (p.sp q) p l) e w2) => hg.from (Chm.of_below hb))
 have q0 : (0 : Int) ≤ (q : Int):=by omega
 have q10 : (q : Int) < 10:=by omega
 clear h hr hwk hlow hgr hg9
 generalize hx1 : (p.sp q).1 = x1 at *
 generalize hx2 : (p.sp q).2 = x2 at *
 replace hx1:=lhi hx1
 replace hx2:=lhi hx2
 generalize agL t (p.sp q) p l = L at *
 have ⟨k5,k1,k2⟩:=hK0.out
 go_enter Try.func55,Try.ntmps55
 go_wp2
 go_region_with (first
  | (go_at_call 58;refine (hT.out _ ((Below.refl _ _).drew)).mono ?_;intro e w3 hg;obtain ⟨r,rfl⟩:=hg.ret;replace hg:=lhi (hfrom.out _ _ _ ((Below.refl _ _).drew) hg)))
 all_goals
  go_wp2
  go_ret
  exact hg.out
end
section
variable {w w1 w' : World} {B S W : Nat} {An : Option Addr} {nn cn : Nat} {At : Option Addr} {nt ct : Nat} {ns : List Nod} {t : List UInt8} {g : Int} {a left : Nat} {v v' : Value} {xs : List Wt} {b : Option Spn} {pv : Value} {p : Pt} {l : List Tsk}
theorem soMany_off (m : Nat) (k : Int) (h : Sta w B S W An nn cn At nt ct ns t g a left v xs b pv p l) (hn : m < ns.length) (h4 : (ndA ns (m : Int)).kind = 4) (hk : 0 ≤ k ∧ k ≤ 2000000) (hi : p.i ≤ t.length) (hlt : ¬ k < (ndA ns (m : Int)).lo) (hof : ¬ ((ndA ns (m : Int)).hi = -1 ∨ k < (ndA ns (m : Int)).hi)) :
    Calls Try.prog 54 #[.pointer (some ⟨S,0,none⟩),.pointer (some ⟨W,0,none⟩),.int .i64 (m : Int),.int .i64 k] w fun e w' => e = .returned (.tuple #[]) ∧ GoP w B S W An nn cn At nt ct ns t g a left v xs b (smL ns m k p l) (.returned (.bool true)) w':=by
 have hrt:=h.s.thru.rt.2.2 (m : Int) (by omega) (by omega)
 have hL : smL ns m k p l = [(l,p)]:=by
  unfold smL
  rw [if_neg hof,if_pos (by omega)]
  rfl
 rw [hL]
 have hmn : m < nn:=by have:=h.s.thru.nn_;omega
 obtain ⟨ad,bb,oo,rfl,hp,hbb,hr⟩:=h.s.thru.node' hn
 have c0:=h.c0
 have hw1 : IntKind.i64.wrap (k + 1) = k + 1:=IntWalk.i64_in _ (by omega)
 have hptr:=h.row.ptr
 have hOne:=lhi (way_cells (p:=p) hptr)
 have hway:=lhi h.way
 have hbx:=lhi (below_row ((Below.refl w.heap.size w).alloc (nlr _) (.cells (wayC ⟨0,sp00⟩ (.pointer none)) 86)) (nlr _) (wayC p pv))
 have hOx:=lhi ((held_new w 86 (wayC ⟨0,sp00⟩ (.pointer none))).row (wayC p pv))
 have hcp:=lhi (h.copy hbx.out hOx.out (nlr _))
 have hSx:=lhi (h.keep hbx.out)
 have hP1:=lhi (mput_any w.heap.size p pv 2 (m : Int) (k + 1) (p.i : Int) _ hOx.out hptr)
 have hP2:=lhi (fun (w2 : World) (pv2 : Value) (hO : Held w2 w.heap.size 86 (wayC p pv2)) (hq : PtrV pv2) => mput_any w.heap.size p pv2 0 (ndA ns (m : Int)).a 0 0 w2 hO hq)
 have hlow:=lhi (fun w' (hb : Below B w w') => And.intro (node_cells (range_below hr hb hbb)) hb)
 have ⟨⟨d0,d1,d2⟩,d3,d4,d5⟩:=node_cells hr
 rw [show wayC ⟨0,sp00⟩ (.pointer none) = #[.int .i64 0,.int .i64 0,.int .i64 0,.int .i64 0,.int .i64 0,.int .i64 0,.int .i64 0,.int .i64 0,.int .i64 0,.int .i64 0,.int .i64 0,.int .i64 0,.int .i64 0,.int .i64 0,.int .i64 0,.int .i64 0,.int .i64 0,.int .i64 0,.int .i64 0,.int .i64 0,.int .i64 0,.pointer none] from rfl] at hbx hOx hcp hSx hP1
 have hd1 : ¬ k < (ndA ns (m : Int)).hi:=fun e => hof (.inr e)
 have hd2 : ((ndA ns (m : Int)).hi == -1) = false:=by rw [bef];exact fun e => hof (.inl e)
 have hsz:=lhi (way_hold p pv)
 have hnull:=lhi (held_new w 86 (wayC ⟨0,sp00⟩ (.pointer none)))
 have hp0:=lhi (fun w' (hs : Sta w' B S W (some ad) nn cn At nt ct ns t g a left v xs b pv p l) => And.intro hs.p0 hs.c0)
 have hh:=lhi h
 have hbase:=lhi h.s.thru.base
 clear h hrt hL hr hptr hof
 generalize hC : wayC p pv = C at *
 go_enter Try.func54,Try.ntmps54
 go_wp2_with (first
  | (refine wpList_load_row rfl 86 (.tmp 17) rfl W rfl 86 _ (0,0) _ hway.out Try.underlying86 rfl (by rw [hsz.out];exact way_size22) ?_)
  | (refine wpList_store_row rfl 86 (.tmp 9) (.tmp 18) rfl w.heap.size C rfl rfl 86 _ hnull.out (by rw [hsz.out];exact way_size22) (by rw [hsz.out];rfl) hOne.out ?_;generalize hwx : (w.alloc (.cells #[.int .i64 0,.int .i64 0,.int .i64 0,.int .i64 0,.int .i64 0,.int .i64 0,.int .i64 0,.int .i64 0,.int .i64 0,.int .i64 0,.int .i64 0,.int .i64 0,.int .i64 0,.int .i64 0,.int .i64 0,.int .i64 0,.int .i64 0,.int .i64 0,.int .i64 0,.int .i64 0,.int .i64 0,.pointer none] 86)).setRow w.heap.size C = wx at *;clear hnull hwx;have p0x:=(hp0.out _ hSx.out).1)
  | (have _h:=hO2;go_at_call 34;refine (hP2.out w2 pv2 hO2.out.way hO2.out.row.ptr).mono ?_;intro e w3 hm;obtain ⟨rfl,hg3,pv3,hO3'⟩:=hO2.out.put (tk:=.node (ndA ns (m : Int)).a) ⟨rfl,rfl,rfl,rfl⟩ hm;have hO3:=lhi hO3';have hB3:=lhi (hB2.out.grown hg3 hB2.out.size (fun k e => by rw [← Option.some.inj e];exact nlr _));have ⟨⟨_,_,_⟩,e3,e4,_⟩:=(hlow.out w3 (hB3.out.mono hbase.out)).1;clear hO3' hm hg3 hP2)
  | (go_at_call 34;refine (hP1.out).mono ?_;intro e w2 hm;obtain ⟨rfl,hg2,pv2,hO2'⟩:=hcp.out.1.put (tk:=.times (m : Int) (k + 1) p.i) ⟨rfl,rfl,rfl,rfl⟩ hm;have hO2:=lhi hO2';have hB2:=lhi (hbx.out.grown hg2 hbx.out.size (fun k e => by rw [← Option.some.inj e];exact nlr _));have ⟨⟨_,e1,_⟩,_,_,_⟩:=(hlow.out w2 (hB2.out.mono hbase.out)).1;clear hO2' hm hg2))
 go_end0
 exact ⟨rfl,(hh.out.keep hB3.out).stay (Chm.of_below hB3.out) rfl⟩
end
theorem way_infoz : (Try.prog.info? 86).map (fun i => (i.zero,i.size,i.bytes)) = some (some (.agg #[.int .i64 0,.int .i64 0,.int .i64 0,.int .i64 0,.int .i64 0,.int .i64 0,.int .i64 0,.int .i64 0,.int .i64 0,.int .i64 0,.int .i64 0,.int .i64 0,.int .i64 0,.int .i64 0,.int .i64 0,.int .i64 0,.int .i64 0,.int .i64 0,.int .i64 0,.int .i64 0,.int .i64 0,.pointer none]),22,176):=by kernel_rfl
theorem step_load_way {ops : Array Oper} {o : Oper} {a : Act} {w : World} {K : Act → World → Prop} {Q : Exit → Act → World → Prop} {E : Prop} (x : Operand) (hgd : o.guard = none) (ho : o.op = .load 86 x) (O : Nat) (hx : a.eval x = .pointer (some ⟨O,0,none⟩)) (C : Array Value) (hs : C.size = 22) (hh : Held w O 86 C)
    (h : K (a.put o.dst (.agg C)) w) : if Region.wanted o (yielded ops a.tmps) = true then Oper.wp Try.prog o a w K Q else E:=by
 have hw : Region.wanted o (yielded ops a.tmps) = true:=by simp [Region.wanted,hgd]
 rw [if_pos hw]
 exact wp_load_mid 86 x ho O 0 hx C.toList _ hh.range Try.underlying86 rfl (by rw [Array.length_toList,hs];exact way_size22) h
theorem fill_way (p : Pt) (pv : Value) : Instr.fill (fun i => some (i * 22,22)) ((Array.range (1 * 22)).map ((Value.agg #[.int .i64 0,.int .i64 0,.int .i64 0,.int .i64 0,.int .i64 0,.int .i64 0,.int .i64 0,.int .i64 0,.int .i64 0,.int .i64 0,.int .i64 0,.int .i64 0,.int .i64 0,.int .i64 0,.int .i64 0,.int .i64 0,.int .i64 0,.int .i64 0,.int .i64 0,.int .i64 0,.int .i64 0,.pointer none]).cells[· % 22]!)) [(0,.agg (wayC p pv))] = some (wayC p pv):=by kernel_rfl
theorem step_build_way {ops : Array Oper} {o : Oper} {a : Act} {w : World} {K : Act → World → Prop} {Q : Exit → Act → World → Prop} {E : Prop} (x : Operand) (hgd : o.guard = none) (ho : o.op = .buildSlice 55 1 #[(0,x)]) (C : Array Value) (hx : a.eval x = .agg C) (hs : ∃ p pv,C = wayC p pv)
    (h : K (a.put o.dst (.slice (some ⟨w.heap.size,0,none⟩) 1 1)) (w.alloc (.cells C 86))) : if Region.wanted o (yielded ops a.tmps) = true then Oper.wp Try.prog o a w K Q else E:=by
 have hw : Region.wanted o (yielded ops a.tmps) = true:=by simp [Region.wanted,hgd]
 rw [if_pos hw]
 obtain ⟨p,pv,rfl⟩:=hs
 obtain ⟨i0,hi0,hq0,hq1,hq2⟩:=info_parts way_infoz
 refine wp_buildSlice 55 86 1 #[(0,x)] ho (wayC p pv) i0 _ Try.underlying55 hi0 hq0 (by rw [hq1];decide) (by rw [hq1];decide) ?_ h
 rw [hq1]
 simp only [List.map_toArray,List.map_cons,List.map_nil,hx]
 exact fill_way p pv
theorem new_list (w : World) (C : Array Value) (T : TypeId) : ∀ j u,C.toList[j]? = some u → (w.drew.alloc (.cells C T)).cell? ((⟨w.heap.size,0,none⟩ : Addr).add j) = some u:=fun j u hj => by
 have:=new_cells w.drew C.toList T j u hj
 rwa [Array.toArray_toList] at this
section
variable {w w1 w3 w' : World} {B S W : Nat} {An : Option Addr} {nn cn : Nat} {At : Option Addr} {nt ct : Nat} {ns : List Nod} {t : List UInt8} {g : Int} {a left : Nat} {v v' : Value} {xs : List Wt} {b : Option Spn} {pv : Value} {p : Pt} {l : List Tsk}
theorem wayC_list (p : Pt) (pv : Value) : (wayC p pv).toList = wayL p pv:=by unfold wayC;rw [List.toList_toArray]
theorem Sta.pushed (h3 : Sta w3 B S W An nn cn At nt ct ns t g a left v xs b pv p l) {O : Nat} {pv2 : Value} {p2 : Pt} {l2 : List Tsk} (hO : Ow w3 B ns O pv2 p2 l2) (hf : xs.length + 1 + left ≤ 1000001) :
    ((w3.drew.alloc (.cells (wayC p2 pv2) 86)).ownsRow B 86 22 v xs.length (wtsL xs) ∧ B ≤ (w3.drew.alloc (.cells (wayC p2 pv2) 86)).heap.size) ∧
    ∀ (g6 c6 : Nat) (w6 : World),w6.ownsRow B 86 22 (.slice (some ⟨g6,0,none⟩) (xs.length + 1) c6) (xs.length + 1) (wtsL xs ++ (wayC p2 pv2).toList) → (w3.drew.alloc (.cells (wayC p2 pv2) 86)).grownBy w6 v.ownBlock → (v.ownBlock = some g6 ∨ g6 = w3.heap.size + 1) →
     (w6.cell? ⟨S,4,none⟩ = some v ∧ w6.frozen? ⟨S,4,none⟩ = false) ∧ Sta (w6.setCell ⟨S,4,none⟩ (.slice (some ⟨g6,0,none⟩) (xs.length + 1) c6)) B S W An nn cn At nt ct ns t g a left (.slice (some ⟨g6,0,none⟩) (xs.length + 1) c6) (xs ++ [(pv2,p2,l2)]) b pv p l ∧ Chm w3 (w6.setCell ⟨S,4,none⟩ (.slice (some ⟨g6,0,none⟩) (xs.length + 1) c6)) S W v (.slice (some ⟨g6,0,none⟩) (xs.length + 1) c6):=by
 have hbA : Below w3.heap.size w3 (w3.drew.alloc (.cells (wayC p2 pv2) 86)):=((Below.refl _ _).drew).alloc (nlr _) _
 have hSA:=h3.keep hbA
 have hOA:=hO.keep hbA
 refine ⟨⟨hSA.s.own,hSA.s.thru.base⟩,fun g6 c6 w6 hw hg hv => ?_⟩
 have hSh:=hSA.s.held.grown hg (fun e => hSA.s.held.not_own hSA.s.own (by decide) e.symm)
 rw [wayC_list] at hw
 obtain ⟨q1,q2⟩:=hSA.push (v':=.slice (some ⟨g6,0,none⟩) (xs.length + 1) c6) hOA.row hw hg (fun k e => by
  have e:=Option.some.inj e
  subst e
  rcases hv with h1 | h1
  · exact .inl h1
  · exact .inr (by rw [h1,sizeA'];exact nlr _)) hf
 exact ⟨⟨hSh.at_ rfl,hSh.thawed 4⟩,q1,(Chm.of_below hbA).trans q2⟩
end
end Go.Proofs.Ytbdfhmefjfaofaa
