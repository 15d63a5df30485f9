/- Contracts and plain facts: M26. -/
import Derived.Test.YtbdfhmefjfaofaaM24
import Derived.Test.YtbdfhmefjfaofaaM25
set_option linter.unusedVariables false
set_option linter.unusedSimpArgs false
set_option maxRecDepth 100000
set_option maxHeartbeats 32000000
namespace Go.Proofs.Ytbdfhmefjfaofaa
open Go.RowKit
section
variable {w w1 w' : World} {B S W : Nat} {An : Option Addr} {nn cn : Nat} {At : Option Addr} {nt ct : Nat} {ns : List Nod} {t : List UInt8} {g : Int} {a left : Nat} {v v' : Value} {xs : List Wt} {b : Option Spn} {pv : Value} {p : Pt} {l : List Tsk}
theorem soMany_any (m : Nat) (k : Int) (h : Sta w B S W An nn cn At nt ct ns t g a left v xs b pv p l) (hn : m < ns.length) (h4 : (ndA ns (m : Int)).kind = 4) (hk : 0 ≤ k ∧ k ≤ 2000000) (hi : p.i ≤ t.length) (hf : xs.length + 1 + left ≤ 1000001) :
    Calls Try.prog 54 #[.pointer (some ⟨S,0,none⟩),.pointer (some ⟨W,0,none⟩),.int .i64 (m : Int),.int .i64 k] w fun e w' => e = .returned (.tuple #[]) ∧ GoP w B S W An nn cn At nt ct ns t g a left v xs b (smL ns m k p l) (.returned (.bool true)) w':=by
 by_cases h1 : k < (ndA ns (m : Int)).lo
 · exact soMany_less m k h hn h4 hk hi h1
 · by_cases h2 : (ndA ns (m : Int)).hi = -1 ∨ k < (ndA ns (m : Int)).hi
   · by_cases h3 : k < (ndA ns (m : Int)).hi
     · exact soMany_bothA m k h hn h4 hk hi h1 h3 hf
     · exact soMany_bothB m k h hn h4 hk hi h1 h3 (h2.resolve_right h3) hf
   · exact soMany_off m k h hn h4 hk hi h1 h2
end
section
variable {w w1 w' : World} {B S W : Nat} {An : Option Addr} {nn cn : Nat} {At : Option Addr} {nt ct : Nat} {ns : List Nod} {t : List UInt8} {g : Int} {a left : Nat} {v v' : Value} {xs : List Wt} {b : Option Spn} {pv : Value} {p : Pt} {l : List Tsk}
theorem takesNode_4 (m : Nat) (h : Sta w B S W An nn cn At nt ct ns t g a left v xs b pv p l) (hn : m < ns.length) (hk : (ndA ns (m : Int)).kind = 4) (hwk : WOK ns t g a (.node (m : Int) :: l,p)) (hf : xs.length + 1 + left ≤ 1000001) :
    Calls Try.prog 55 #[.pointer (some ⟨S,0,none⟩),.pointer (some ⟨W,0,none⟩),.int .i64 (m : Int)] w (GoP w B S W An nn cn At nt ct ns t g a left v xs b ((nexts ns t (.node (m : Int)) p).map (ahead l))):=by
 have hnx : (nexts ns t (.node (m : Int)) p).map (ahead l) = smL ns m 0 p l:=by
  rw [next_rep hk]
  unfold smL
  rw [Int.zero_add]
 rw [hnx]
 clear hnx
 have hmn : m < nn:=by have:=h.s.thru.nn_;omega
 obtain ⟨ad,bb,oo,rfl,hp,hbb,hr⟩:=h.s.thru.node' hn
 have c0:=h.c0
 have hlow:=lhi (fun w' (hb : Below B w w') => node_cells (range_below hr hb hbb))
 have hbase:=lhi h.s.thru.base
 have ⟨⟨d0,d1,d2⟩,d3,d4,d5⟩:=node_cells hr
 rw [hk] at d0
 have hh:=lhi h
 have hT:=lhi (soMany_any m 0 h hn hk (by omega) hwk.hi hf)
 clear h hr hwk hlow hf
 generalize smL ns m 0 p l = L at *
 go_enter Try.func55,Try.ntmps55
 go_wp2_with (go_at_call 54;refine (hT.out).mono ?_;rintro e w3 ⟨rfl,hg⟩;replace hg:=lhi hg)
 go_ret
 exact hg.out
end
section
variable {w w1 w' : World} {B S W : Nat} {An : Option Addr} {nn cn : Nat} {At : Option Addr} {nt ct : Nat} {ns : List Nod} {t : List UInt8} {g : Int} {a left : Nat} {v v' : Value} {xs : List Wt} {b : Option Spn} {pv : Value} {p : Pt} {l : List Tsk}
theorem takesNode_3 (m : Nat) (h : Sta w B S W An nn cn At nt ct ns t g a left v xs b pv p l) (hn : m < ns.length) (hk : (ndA ns (m : Int)).kind = 3) (hwk : WOK ns t g a (.node (m : Int) :: l,p)) (hf : xs.length + 1 + left ≤ 1000001) :
    Calls Try.prog 55 #[.pointer (some ⟨S,0,none⟩),.pointer (some ⟨W,0,none⟩),.int .i64 (m : Int)] w (GoP w B S W An nn cn At nt ct ns t g a left v xs b ((nexts ns t (.node (m : Int)) p).map (ahead l))):=by
 rw [next_alt hk]
 have hmn : m < nn:=by have:=h.s.thru.nn_;omega
 obtain ⟨ad,bb,oo,rfl,hp,hbb,hr⟩:=h.s.thru.node' hn
 have c0:=h.c0
 have hlow:=lhi (fun w' (hb : Below B w w') => node_cells (range_below hr hb hbb))
 have hbase:=lhi h.s.thru.base
 have ⟨⟨d0,d1,d2⟩,d3,d4,d5⟩:=node_cells hr
 rw [hk] at d0
 have hh:=lhi h
 obtain ⟨i0,hi0,hq0,hq1,hq2⟩:=info_parts way_infoz
 have hI2:=lhi hq2
 have hlen : xs.length ≤ 1000000:=by omega
 have hf':=lhi hf
 have hptr:=h.row.ptr
 have hOne:=lhi (way_cells (p:=p) hptr)
 have hway:=lhi h.way
 have hbx:=lhi (below_row ((Below.refl w.heap.size w).alloc (nlr _) (.cells (wayC ⟨0,sp00⟩ (.pointer none)) 86)) (nlr _) (wayC p pv))
 have hOx:=lhi ((held_new w 86 (wayC ⟨0,sp00⟩ (.pointer none))).row (wayC p pv))
 have hcp:=lhi (h.copy hbx.out hOx.out (nlr _))
 have hP1:=lhi (mput_any w.heap.size p pv 0 (ndA ns (m : Int)).a 0 0 _ hOx.out hptr)
 have hP2:=lhi (fun (w2 : World) (pv2 : Value) (hO : Held w2 W 86 (wayC p pv2)) (hq : PtrV pv2) => mput_any W p pv2 0 (ndA ns (m : Int)).b 0 0 w2 hO hq)
 rw [show wayC ⟨0,sp00⟩ (.pointer none) = #[.int .i64 0,.int .i64 0,.int .i64 0,.int .i64 0,.int .i64 0,.int .i64 0,.int .i64 0,.int .i64 0,.int .i64 0,.int .i64 0,.int .i64 0,.int .i64 0,.int .i64 0,.int .i64 0,.int .i64 0,.int .i64 0,.int .i64 0,.int .i64 0,.int .i64 0,.int .i64 0,.int .i64 0,.pointer none] from rfl] at hbx hOx hcp hP1
 have hsz:=lhi (way_hold p pv)
 have hnull:=lhi (held_new w 86 (wayC ⟨0,sp00⟩ (.pointer none)))
 clear h hr hwk hq2 hf hptr
 generalize hC : wayC p pv = C at *
 go_enter Try.func55,Try.ntmps55
 go_wp2_with (first
  | (refine wpList_load_row rfl 86 (.tmp 47) rfl W rfl 86 _ (0,0) _ hway.out Try.underlying86 rfl (by rw [hsz.out];exact way_size22) ?_)
  | (refine wpList_store_row rfl 86 (.tmp 8) (.tmp 48) rfl w.heap.size C rfl rfl 86 _ hnull.out (by rw [hsz.out];exact way_size22) (by rw [hsz.out];rfl) hOne.out ?_;generalize hwx : (w.alloc (.cells #[.int .i64 0,.int .i64 0,.int .i64 0,.int .i64 0,.int .i64 0,.int .i64 0,.int .i64 0,.int .i64 0,.int .i64 0,.int .i64 0,.int .i64 0,.int .i64 0,.int .i64 0,.int .i64 0,.int .i64 0,.int .i64 0,.int .i64 0,.int .i64 0,.int .i64 0,.int .i64 0,.int .i64 0,.pointer none] 86)).setRow w.heap.size C = wx at *;clear hnull hwx;have ⟨⟨_,x1,_⟩,_,_,_⟩:=hlow.out wx (hbx.out.mono hbase.out))
  | (go_at_call 34;refine (hP1.out).mono ?_;intro e w3 hm;obtain ⟨rfl,hg2,pv3,hO3'⟩:=hcp.out.1.put (tk:=.node (ndA ns (m : Int)).a) ⟨rfl,rfl,rfl,rfl⟩ hm;have hO3:=lhi hO3';have hB3:=lhi (hbx.out.grown hg2 hbx.out.size (fun k e => by rw [← Option.some.inj e];exact nlr _));clear hO3' hm hg2))
 have hS3:=hh.out.keep hB3.out
 have hc4 : w3.cell? ⟨S,4,none⟩ = some v:=hS3.c4
 obtain ⟨ho1,ho2⟩:=hS3.pushed hO3.out hf'.out
 have hOwn:=lhi ho1
 have hpush:=lhi (fun g6 c6 w6 hw hg hv => let q:=ho2 g6 c6 w6 hw hg hv;And.intro q.1 (And.intro q.2.1 ((Chm.of_below hB3.out).trans q.2.2)))
 have hOD:=lhi hO3.out.way.drew
 have hCs:=lhi (way_hold p pv3)
 have hCw:=lhi (show ∃ p' pv',wayC p pv3 = wayC p' pv' from ⟨p,pv3,rfl⟩)
 have hCone:=lhi (show ∀ u ∈ (wayC p pv3).toList,u.oneCell' = true from by rw [wayC_list];exact wayL_one hO3.out.row.ptr)
 have hNew:=lhi (new_list w3 (wayC p pv3) 86)
 have hTl : S < w3.heap.size:=hS3.s.held.lt
 clear ho1 ho2 hS3 hP1 hcp hOx hbx d0 d1 d2 d3 d4 d5 hO3 hway hOne hsz hB3 x1
 generalize hO : w.heap.size = O at *
 clear hO
 generalize wayC p pv3 = C3 at *
 refine wp_region_any (by kernel_rfl) ?_
 change wpAny _ _ _ _ _ _ _ (World.drew _)
 refine wpAny_take (i:=0) (v:=?_) rfl (by kernel_rfl) (by kernel_rfl) (by kernel_rfl) (fun _ _ _ h => h) (Or.inl ⟨by rfl,?_⟩) ?_
 rotate_left
 · (intro w';go_simp;try with_reducible rfl)
 (try simp only [Act.put,List.getElem_toArray,List.getElem_cons_zero,List.getElem_cons_succ,List.setIfInBounds_toArray,List.set_cons_zero,List.set_cons_succ])
 refine wpAny_take (i:=1) (v:=?_) rfl (by kernel_rfl) (by kernel_rfl) (by kernel_rfl) (fun _ _ _ h => h) (Or.inl ⟨by rfl,?_⟩) ?_
 rotate_left
 · (intro w';go_simp;try with_reducible rfl)
 (try simp only [Act.put,List.getElem_toArray,List.getElem_cons_zero,List.getElem_cons_succ,List.setIfInBounds_toArray,List.set_cons_zero,List.set_cons_succ])
 refine wpAny_take (i:=2) (v:=?_) rfl (by kernel_rfl) (by kernel_rfl) (by kernel_rfl) (fun _ _ _ h => h) (Or.inl ⟨by rfl,?_⟩) ?_
 rotate_left
 · (intro w';go_simp;try with_reducible rfl)
 (try simp only [Act.put,List.getElem_toArray,List.getElem_cons_zero,List.getElem_cons_succ,List.setIfInBounds_toArray,List.set_cons_zero,List.set_cons_succ])
 refine wpAny_take (i:=3) (v:=?_) rfl (by kernel_rfl) (by kernel_rfl) (by kernel_rfl) (fun _ _ _ h => h) (Or.inl ⟨by rfl,?_⟩) ?_
 rotate_left
 · (intro w';go_simp;try with_reducible rfl)
 (try simp only [Act.put,List.getElem_toArray,List.getElem_cons_zero,List.getElem_cons_succ,List.setIfInBounds_toArray,List.set_cons_zero,List.set_cons_succ])
 refine wpAny_ready (rs:=[4,5]) (by kernel_rfl) (by simp) ?_
 refine AllReady.cons rfl (fun K hK => ?_) ?_
 · go_simp
   refine hK _ _ ?_
   clear hK K
   (try simp only [Act.put,List.getElem_toArray,List.getElem_cons_zero,List.getElem_cons_succ,List.setIfInBounds_toArray,List.set_cons_zero,List.set_cons_succ])
   refine wpAny_ready (rs:=[5]) (by kernel_rfl) (by simp) ?_
   refine AllReady.cons rfl (fun K hK => ?_) AllReady.nil
   refine step_load_way (.tmp 8) rfl rfl O rfl C3 hCs.out hOD.out ?_
   (try go_simp)
   refine hK _ _ ?_
   clear hK K
   (try simp only [Act.put,List.getElem_toArray,List.getElem_cons_zero,List.getElem_cons_succ,List.setIfInBounds_toArray,List.set_cons_zero,List.set_cons_succ])
   refine wpAny_ready (rs:=[6]) (by kernel_rfl) (by simp) ?_
   refine AllReady.cons rfl (fun K hK => ?_) AllReady.nil
   refine step_build_way (.tmp 60) rfl rfl C3 rfl hCw.out ?_
   (try go_simp)
   refine hK _ _ ?_
   clear hK K
   (try simp only [Act.put,List.getElem_toArray,List.getElem_cons_zero,List.getElem_cons_succ,List.setIfInBounds_toArray,List.set_cons_zero,List.set_cons_succ])
   refine wpAny_ready (rs:=[7]) (by kernel_rfl) (by simp) ?_
   refine AllReady.cons rfl (fun K hK => ?_) AllReady.nil
   refine step_append_lies _ (by rfl) _ _ 55 (by rfl) B 86 i0 _ 22 176 Try.underlying55 hi0 hq0 hq1 hI2.out rfl (by decide) v xs.length (wtsL xs) (by rfl) hOwn.out.1 ⟨w3.heap.size,0,none⟩ 1 1 C3.toList (by rfl) (by rw [Array.length_toList,hCs.out]) hNew.out hCone.out (by omega) (by unfold maxLen;omega) (by omega) hOwn.out.2 (w3.heap.size + 1) (by simp) ?_
   intro g6 c6 w6 hown6 hg6 hb6 hg6lt
   have hx6:=hpush.out g6 c6 w6 hown6 hg6 hb6
   have hc6:=hx6.1.1
   have hf6:=hx6.1.2
   have hF6:=lhi hx6.2
   clear hown6 hg6 hb6 hx6 hg6lt
   (try go_simp)
   refine hK _ _ ?_
   clear hK K
   (try simp only [Act.put,List.getElem_toArray,List.getElem_cons_zero,List.getElem_cons_succ,List.setIfInBounds_toArray,List.set_cons_zero,List.set_cons_succ])
   refine wpAny_take (i:=8) (v:=?_) rfl (by kernel_rfl) (by kernel_rfl) (by kernel_rfl) (fun _ _ _ h => h) (Or.inl ⟨by rfl,?_⟩) ?_
   rotate_left
   · (intro w';go_simp;try with_reducible rfl)
   (try simp only [Act.put,List.getElem_toArray,List.getElem_cons_zero,List.getElem_cons_succ,List.setIfInBounds_toArray,List.set_cons_zero,List.set_cons_succ])
   refine wpAny_take (i:=9) (v:=?_) rfl (by kernel_rfl) (by kernel_rfl) (by kernel_rfl) (fun _ _ _ h => h) (Or.inl ⟨by rfl,?_⟩) ?_
   rotate_left
   · (intro w';go_simp;try with_reducible rfl)
   (try simp only [Act.put,List.getElem_toArray,List.getElem_cons_zero,List.getElem_cons_succ,List.setIfInBounds_toArray,List.set_cons_zero,List.set_cons_succ])
   refine wpAny_ready (rs:=[10]) (by kernel_rfl) (by simp) ?_
   refine AllReady.cons rfl (fun K hK => ?_) AllReady.nil
   go_simp
   refine hK _ _ ?_
   clear hK K
   (try simp only [Act.put,List.getElem_toArray,List.getElem_cons_zero,List.getElem_cons_succ,List.setIfInBounds_toArray,List.set_cons_zero,List.set_cons_succ])
   refine wpAny_done (by kernel_rfl) ?_ _
   generalize (w6.setCell ⟨S,4,none⟩ (.slice (some ⟨g6,0,none⟩) (xs.length + 1) c6)) = w7 at *
   have hB7:=hh.out.low hF6.out.2
   have ⟨⟨_,_,e2⟩,_,_,_⟩:=hlow.out w7 hB7
   go_wp2_with (go_at_call 34;refine (hP2.out w7 pv hF6.out.1.way hF6.out.1.row.ptr).mono ?_;intro e w8 hm;obtain ⟨rfl,pv8,hS8',hc8'⟩:=hF6.out.1.put (tk:=.node (ndA ns (m : Int)).b) ⟨rfl,rfl,rfl,rfl⟩ hm;have hS8:=lhi hS8';have hc8:=lhi (hF6.out.2.trans hc8');clear hS8' hc8' hm)
   go_ret
   exact .goes hS8.out hc8.out (nlr _) (List.Perm.swap _ _ _)
 refine AllReady.cons rfl (fun K hK => ?_) AllReady.nil
 refine step_load_way (.tmp 8) rfl rfl O rfl C3 hCs.out hOD.out ?_
 (try go_simp)
 refine hK _ _ ?_
 clear hK K
 (try simp only [Act.put,List.getElem_toArray,List.getElem_cons_zero,List.getElem_cons_succ,List.setIfInBounds_toArray,List.set_cons_zero,List.set_cons_succ])
 refine wpAny_ready (rs:=[4,6]) (by kernel_rfl) (by simp) ?_
 refine AllReady.cons rfl (fun K hK => ?_) ?_
 · go_simp
   refine hK _ _ ?_
   clear hK K
   (try simp only [Act.put,List.getElem_toArray,List.getElem_cons_zero,List.getElem_cons_succ,List.setIfInBounds_toArray,List.set_cons_zero,List.set_cons_succ])
   refine wpAny_ready (rs:=[6]) (by kernel_rfl) (by simp) ?_
   refine AllReady.cons rfl (fun K hK => ?_) AllReady.nil
   refine step_build_way (.tmp 60) rfl rfl C3 rfl hCw.out ?_
   (try go_simp)
   refine hK _ _ ?_
   clear hK K
   (try simp only [Act.put,List.getElem_toArray,List.getElem_cons_zero,List.getElem_cons_succ,List.setIfInBounds_toArray,List.set_cons_zero,List.set_cons_succ])
   refine wpAny_ready (rs:=[7]) (by kernel_rfl) (by simp) ?_
   refine AllReady.cons rfl (fun K hK => ?_) AllReady.nil
   refine step_append_lies _ (by rfl) _ _ 55 (by rfl) B 86 i0 _ 22 176 Try.underlying55 hi0 hq0 hq1 hI2.out rfl (by decide) v xs.length (wtsL xs) (by rfl) hOwn.out.1 ⟨w3.heap.size,0,none⟩ 1 1 C3.toList (by rfl) (by rw [Array.length_toList,hCs.out]) hNew.out hCone.out (by omega) (by unfold maxLen;omega) (by omega) hOwn.out.2 (w3.heap.size + 1) (by simp) ?_
   intro g6 c6 w6 hown6 hg6 hb6 hg6lt
   have hx6:=hpush.out g6 c6 w6 hown6 hg6 hb6
   have hc6:=hx6.1.1
   have hf6:=hx6.1.2
   have hF6:=lhi hx6.2
   clear hown6 hg6 hb6 hx6 hg6lt
   (try go_simp)
   refine hK _ _ ?_
   clear hK K
   (try simp only [Act.put,List.getElem_toArray,List.getElem_cons_zero,List.getElem_cons_succ,List.setIfInBounds_toArray,List.set_cons_zero,List.set_cons_succ])
   refine wpAny_take (i:=8) (v:=?_) rfl (by kernel_rfl) (by kernel_rfl) (by kernel_rfl) (fun _ _ _ h => h) (Or.inl ⟨by rfl,?_⟩) ?_
   rotate_left
   · (intro w';go_simp;try with_reducible rfl)
   (try simp only [Act.put,List.getElem_toArray,List.getElem_cons_zero,List.getElem_cons_succ,List.setIfInBounds_toArray,List.set_cons_zero,List.set_cons_succ])
   refine wpAny_take (i:=9) (v:=?_) rfl (by kernel_rfl) (by kernel_rfl) (by kernel_rfl) (fun _ _ _ h => h) (Or.inl ⟨by rfl,?_⟩) ?_
   rotate_left
   · (intro w';go_simp;try with_reducible rfl)
   (try simp only [Act.put,List.getElem_toArray,List.getElem_cons_zero,List.getElem_cons_succ,List.setIfInBounds_toArray,List.set_cons_zero,List.set_cons_succ])
   refine wpAny_ready (rs:=[10]) (by kernel_rfl) (by simp) ?_
   refine AllReady.cons rfl (fun K hK => ?_) AllReady.nil
   go_simp
   refine hK _ _ ?_
   clear hK K
   (try simp only [Act.put,List.getElem_toArray,List.getElem_cons_zero,List.getElem_cons_succ,List.setIfInBounds_toArray,List.set_cons_zero,List.set_cons_succ])
   refine wpAny_done (by kernel_rfl) ?_ _
   generalize (w6.setCell ⟨S,4,none⟩ (.slice (some ⟨g6,0,none⟩) (xs.length + 1) c6)) = w7 at *
   have hB7:=hh.out.low hF6.out.2
   have ⟨⟨_,_,e2⟩,_,_,_⟩:=hlow.out w7 hB7
   go_wp2_with (go_at_call 34;refine (hP2.out w7 pv hF6.out.1.way hF6.out.1.row.ptr).mono ?_;intro e w8 hm;obtain ⟨rfl,pv8,hS8',hc8'⟩:=hF6.out.1.put (tk:=.node (ndA ns (m : Int)).b) ⟨rfl,rfl,rfl,rfl⟩ hm;have hS8:=lhi hS8';have hc8:=lhi (hF6.out.2.trans hc8');clear hS8' hc8' hm)
   go_ret
   exact .goes hS8.out hc8.out (nlr _) (List.Perm.swap _ _ _)
 refine AllReady.cons rfl (fun K hK => ?_) AllReady.nil
 refine step_build_way (.tmp 60) rfl rfl C3 rfl hCw.out ?_
 (try go_simp)
 refine hK _ _ ?_
 clear hK K
 (try simp only [Act.put,List.getElem_toArray,List.getElem_cons_zero,List.getElem_cons_succ,List.setIfInBounds_toArray,List.set_cons_zero,List.set_cons_succ])
 refine wpAny_ready (rs:=[4]) (by kernel_rfl) (by simp) ?_
 refine AllReady.cons rfl (fun K hK => ?_) AllReady.nil
 go_simp
 refine hK _ _ ?_
 clear hK K
 (try simp only [Act.put,List.getElem_toArray,List.getElem_cons_zero,List.getElem_cons_succ,List.setIfInBounds_toArray,List.set_cons_zero,List.set_cons_succ])
 refine wpAny_ready (rs:=[7]) (by kernel_rfl) (by simp) ?_
 refine AllReady.cons rfl (fun K hK => ?_) AllReady.nil
 refine step_append_lies _ (by rfl) _ _ 55 (by rfl) B 86 i0 _ 22 176 Try.underlying55 hi0 hq0 hq1 hI2.out rfl (by decide) v xs.length (wtsL xs) (by rfl) hOwn.out.1 ⟨w3.heap.size,0,none⟩ 1 1 C3.toList (by rfl) (by rw [Array.length_toList,hCs.out]) hNew.out hCone.out (by omega) (by unfold maxLen;omega) (by omega) hOwn.out.2 (w3.heap.size + 1) (by simp) ?_
 intro g6 c6 w6 hown6 hg6 hb6 hg6lt
 have hx6:=hpush.out g6 c6 w6 hown6 hg6 hb6
 have hc6:=hx6.1.1
 have hf6:=hx6.1.2
 have hF6:=lhi hx6.2
 clear hown6 hg6 hb6 hx6 hg6lt
 (try go_simp)
 refine hK _ _ ?_
 clear hK K
 (try simp only [Act.put,List.getElem_toArray,List.getElem_cons_zero,List.getElem_cons_succ,List.setIfInBounds_toArray,List.set_cons_zero,List.set_cons_succ])
 refine wpAny_take (i:=8) (v:=?_) rfl (by kernel_rfl) (by kernel_rfl) (by kernel_rfl) (fun _ _ _ h => h) (Or.inl ⟨by rfl,?_⟩) ?_
 rotate_left
 · (intro w';go_simp;try with_reducible rfl)
 (try simp only [Act.put,List.getElem_toArray,List.getElem_cons_zero,List.getElem_cons_succ,List.setIfInBounds_toArray,List.set_cons_zero,List.set_cons_succ])
 refine wpAny_take (i:=9) (v:=?_) rfl (by kernel_rfl) (by kernel_rfl) (by kernel_rfl) (fun _ _ _ h => h) (Or.inl ⟨by rfl,?_⟩) ?_
 rotate_left
 · (intro w';go_simp;try with_reducible rfl)
 (try simp only [Act.put,List.getElem_toArray,List.getElem_cons_zero,List.getElem_cons_succ,List.setIfInBounds_toArray,List.set_cons_zero,List.set_cons_succ])
 refine wpAny_ready (rs:=[10]) (by kernel_rfl) (by simp) ?_
 refine AllReady.cons rfl (fun K hK => ?_) AllReady.nil
 go_simp
 refine hK _ _ ?_
 clear hK K
 (try simp only [Act.put,List.getElem_toArray,List.getElem_cons_zero,List.getElem_cons_succ,List.setIfInBounds_toArray,List.set_cons_zero,List.set_cons_succ])
 refine wpAny_done (by kernel_rfl) ?_ _
 generalize (w6.setCell ⟨S,4,none⟩ (.slice (some ⟨g6,0,none⟩) (xs.length + 1) c6)) = w7 at *
 have hB7:=hh.out.low hF6.out.2
 have ⟨⟨_,_,e2⟩,_,_,_⟩:=hlow.out w7 hB7
 go_wp2_with (go_at_call 34;refine (hP2.out w7 pv hF6.out.1.way hF6.out.1.row.ptr).mono ?_;intro e w8 hm;obtain ⟨rfl,pv8,hS8',hc8'⟩:=hF6.out.1.put (tk:=.node (ndA ns (m : Int)).b) ⟨rfl,rfl,rfl,rfl⟩ hm;have hS8:=lhi hS8';have hc8:=lhi (hF6.out.2.trans hc8');clear hS8' hc8' hm)
 go_ret
 exact .goes hS8.out hc8.out (nlr _) (List.Perm.swap _ _ _)
end
end Go.Proofs.Ytbdfhmefjfaofaa
