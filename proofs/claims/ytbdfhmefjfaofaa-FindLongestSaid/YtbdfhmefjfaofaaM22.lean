/- Contracts and plain facts: M22. -/
import Derived.Test.YtbdfhmefjfaofaaM21
set_option linter.unusedVariables false
set_option linter.unusedSimpArgs false
set_option maxRecDepth 100000
set_option maxHeartbeats 32000000
namespace Go.Proofs.Ytbdfhmefjfaofaa
open Go.RowKit
theorem way_range {w : World} {W : Nat} {p : Pt} {pv : Value} (h : Held w W 86 (wayC p pv)) : w.rangeAt W 1 (hitL p.sp):=fun j v hj => by
 refine h.at_ ?_
 unfold wayC
 rw [List.getElem?_toArray,wayL_spans,Nat.add_comm,List.getElem?_cons_succ,List.getElem?_append_left (List.getElem?_eq_some_iff.1 hj).1]
 exact hj
theorem build_hit (s : Spn) (w : World) : (Instr.build 31 #[(0,.agg (hitC s))]).run Try.prog w = .ok (.agg (hitC s)) w:=run_build w _ _ _ (by kernel_rfl)
theorem wpList_build_hit {ops : Array Oper} {rest : List Oper} {o : Oper} {a : Act} {w : World} {Q : Exit → Act → World → Prop} (hg : o.guard = none) (x : Operand) (ho : o.op = .build 31 #[(0,x)]) (s : Spn) (C : Array Value) (hs : hitC s = C) (hx : a.eval x = .agg C)
    (h : wpList Try.prog ops Q rest (a.put o.dst (.agg C)) w) : wpList Try.prog ops Q (o :: rest) a w :=
 wpList_plain hg fun _ hK => by
  subst hs
  unfold Oper.wp execOp
  simp only [ho,Sem.run_bind,List.map_toArray,List.map_cons,List.map_nil,hx,build_hit,Result.andThen_ok]
  exact hK _ _ h
theorem setCells_held {t : TypeId} {b : Nat} : ∀ (vs : List Value) (o : Nat) (w : World) (cs : Array Value),Held w b t cs → ∃ cs',Held (w.setCells b o vs) b t cs' ∧ cs'.size = cs.size ∧ ∀ i,cs'[i]? = if o ≤ i ∧ i < o + vs.length ∧ i < cs.size then vs[i - o]? else cs[i]?
 | [],o,w,cs,h => ⟨cs,h,rfl,fun i => by rw [if_neg (by simp;omega)]⟩
 | v :: r,o,w,cs,h => by
  obtain ⟨cs',h1,h2,h3⟩:=setCells_held r (o + 1) _ _ (h.put o v)
  refine ⟨cs',h1,by rw [h2];simp,fun i => ?_⟩
  rw [h3,Array.getElem?_setIfInBounds]
  simp only [Array.size_setIfInBounds,List.length_cons]
  by_cases e : i = o
  · subst e
    rw [if_neg (by omega),if_pos rfl]
    by_cases hs : i < cs.size
    · rw [if_pos hs,if_pos ⟨nlr _,by omega,hs⟩,Nat.sub_self];rfl
    · rw [if_neg hs,if_neg (by omega),Array.getElem?_eq_none (by omega)]
  · by_cases hc : o + 1 ≤ i ∧ i < o + 1 + r.length ∧ i < cs.size
    · rw [if_pos hc,if_pos (by omega)]
      obtain ⟨j,rfl⟩ : ∃ j,i = o + (j + 1):=⟨i - o - 1,by omega⟩
      rw [show o + (j + 1) - (o + 1) = j by omega,show o + (j + 1) - o = j + 1 by omega,List.getElem?_cons_succ]
    · rw [if_neg hc,if_neg (fun h => e h.symm),if_neg (by omega)]
theorem setCells_grown (b : Nat) : ∀ (vs : List Value) (o : Nat) (w : World),w.grownBy (w.setCells b o vs) (some b)
 | [],o,w => World.grownBy.refl w _
 | v :: r,o,w => grown_trans (grown_cell w b o v) (setCells_grown b r (o + 1) _)
theorem srch_range {w : World} {S : Nat} {An : Option Addr} {nn cn : Nat} {At : Option Addr} {nt ct : Nat} {a left : Nat} {v : Value} {m : Spn} (h : Held w S 57 (srchC An nn cn At nt ct a left v (some m))) : w.rangeAt S 5 (hitL m):=fun j u hj => by
 refine h.at_ ?_
 have hlt : j < 20:=by have:=(List.getElem?_eq_some_iff.1 hj).1;rwa [hitL_len] at this
 have : j = 0 ∨ j = 1 ∨ j = 2 ∨ j = 3 ∨ j = 4 ∨ j = 5 ∨ j = 6 ∨ j = 7 ∨ j = 8 ∨ j = 9 ∨ j = 10 ∨ j = 11 ∨ j = 12 ∨ j = 13 ∨ j = 14 ∨ j = 15 ∨ j = 16 ∨ j = 17 ∨ j = 18 ∨ j = 19:=by omega
 rcases this with rfl | rfl | rfl | rfl | rfl | rfl | rfl | rfl | rfl | rfl | rfl | rfl | rfl | rfl | rfl | rfl | rfl | rfl | rfl | rfl <;> exact hj
def SMt (H S : Nat) (mc sc : Array Value) (w0 w' : World) : Prop:=Held w' H 31 mc ∧ Held w' S 57 sc ∧ Below w0.heap.size w0 w'
theorem SMt.below {H S : Nat} {mc sc : Array Value} {w0 w1 w2 : World} (h : SMt H S mc sc w0 w1) (hb : Below w1.heap.size w1 w2) : SMt H S mc sc w0 w2:=⟨h.1.keep hb,h.2.1.keep hb,h.2.2.trans (hb.mono h.2.2.size)⟩
theorem Held.there {w : World} {b : Nat} {t : TypeId} {cs : Array Value} (h : Held w b t cs) (o n : Nat) (hn : o + n ≤ cs.size) : w.there b o n:=fun j hj => by
 have hlt : o + j < cs.size:=by omega
 have:=h.at_ (Array.getElem?_eq_getElem hlt)
 exact ⟨by rw [this];rfl,h.thawed _⟩
theorem srch_best {An : Option Addr} {nn cn : Nat} {At : Option Addr} {nt ct : Nat} {a left : Nat} {v : Value} {b : Option Spn} {m : Spn} {cs : Array Value} (hs : cs.size = 26) (h : ∀ i,cs[i]? = if 5 ≤ i ∧ i < 5 + (hitL m).length ∧ i < (srchC An nn cn At nt ct a left v b).size then (hitL m)[i - 5]? else (srchC An nn cn At nt ct a left v b)[i]?) :
    cs.setIfInBounds 25 (.bool true) = srchC An nn cn At nt ct a left v (some m):=by
 apply Array.ext_getElem?
 intro i
 rw [Array.getElem?_setIfInBounds,h i]
 have hsz : (srchC An nn cn At nt ct a left v b).size = 26:=rfl
 rw [hitL_len,hsz]
 by_cases e : 25 = i
 · subst e
   rw [if_pos rfl,if_pos (by omega)];rfl
 · rw [if_neg e]
   by_cases hi : i < 26
   · by_cases h5 : i < 5
     · rw [if_neg (by omega)]
       have : i = 0 ∨ i = 1 ∨ i = 2 ∨ i = 3 ∨ i = 4:=by omega
       rcases this with rfl | rfl | rfl | rfl | rfl <;> rfl
     · rw [if_pos (by omega)]
       obtain ⟨j,rfl⟩ : ∃ j,i = j + 5:=⟨i - 5,by omega⟩
       rw [Nat.add_sub_cancel]
       have : j = 0 ∨ j = 1 ∨ j = 2 ∨ j = 3 ∨ j = 4 ∨ j = 5 ∨ j = 6 ∨ j = 7 ∨ j = 8 ∨ j = 9 ∨ j = 10 ∨ j = 11 ∨ j = 12 ∨ j = 13 ∨ j = 14 ∨ j = 15 ∨ j = 16 ∨ j = 17 ∨ j = 18 ∨ j = 19:=by omega
       rcases this with rfl | rfl | rfl | rfl | rfl | rfl | rfl | rfl | rfl | rfl | rfl | rfl | rfl | rfl | rfl | rfl | rfl | rfl | rfl | rfl <;> rfl
   · rw [if_neg (by omega),Array.getElem?_eq_none (by rw [hsz];omega),Array.getElem?_eq_none (by show 26 ≤ i;omega)]
section
variable {w : World} {B S W : Nat} {An : Option Addr} {nn cn : Nat} {At : Option Addr} {nt ct : Nat} {ns : List Nod} {t : List UInt8} {g : Int} {a left : Nat} {v : Value} {xs : List Wt} {b : Option Spn} {pv : Value} {p : Pt} {l : List Tsk}
theorem matched_any (h : Sta w B S W An nn cn At nt ct ns t g a left v xs b pv p l) :
    Calls Try.prog 51 #[.pointer (some ⟨S,0,none⟩),.pointer (some ⟨W,0,none⟩)] w fun e w' => e = .returned (.tuple #[]) ∧ Srch w' B S An nn cn At nt ct ns t g a left v xs (bestF b [hitS a p]) ∧ Chm w w' S W v v:=by
 have hr:=lhi (way_range h.way)
 have hL:=lhi (show hitC p.sp = (hitL p.sp).toArray from by unfold hitC;rfl)
 have hlen:=lhi (hitL_len p.sp)
 have hone:=lhi (hit_cells p.sp)
 have hnew:=lhi ((held_new w 31 (hitC sp00)).row (hitC p.sp))
 have hb1:=lhi (below_row ((Below.refl w.heap.size w).alloc (nlr _) (.cells (hitC sp00) 31)) (nlr _) (hitC p.sp))
 have hs1:=lhi (show ((w.alloc (.cells (hitC sp00) 31)).setRow w.heap.size (hitC p.sp)).heap.size = w.heap.size + 1 from by rw [size_setRow,sizeA'])
 rw [hL.out] at hone
 have hnewL:=hnew
 rw [hL.out] at hnew hb1 hs1
 have hL2:=lhi hL.out
 rw [show hitC sp00 = #[.int .i64 0,.int .i64 0,.int .i64 0,.int .i64 0,.int .i64 0,.int .i64 0,.int .i64 0,.int .i64 0,.int .i64 0,.int .i64 0,.int .i64 0,.int .i64 0,.int .i64 0,.int .i64 0,.int .i64 0,.int .i64 0,.int .i64 0,.int .i64 0,.int .i64 0,.int .i64 0] from rfl] at hnew hb1 hs1
 clear hL hnewL
 generalize hLL : hitL p.sp = L at *
 have hSl:=lhi h.s.held.lt
 have hWl:=lhi h.way.lt
 have hh:=lhi h
 clear h
 go_enter Try.func51,Try.ntmps51
 go_wp2_with (first
  | (refine wpList_load_mid rfl 82 (.tmp 7) rfl W 1 rfl L _ hr.out Try.underlying82 rfl (by rw [hlen.out];exact size_spans) ?_)
  | (refine wpList_build_hit rfl (.tmp 8) rfl p.sp L.toArray hL2.out rfl ?_)
  | (refine wpList_store_row rfl 31 (.tmp 4) (.tmp 9) rfl w.heap.size L.toArray rfl rfl 31 _ (held_new w 31 (hitC sp00)) (by rw [List.size_toArray,hlen.out];exact size_hit) (by rw [hitC_size,List.size_toArray,hlen.out]) hone.out ?_))
 generalize (w.alloc (.cells #[.int .i64 0,.int .i64 0,.int .i64 0,.int .i64 0,.int .i64 0,.int .i64 0,.int .i64 0,.int .i64 0,.int .i64 0,.int .i64 0,.int .i64 0,.int .i64 0,.int .i64 0,.int .i64 0,.int .i64 0,.int .i64 0,.int .i64 0,.int .i64 0,.int .i64 0,.int .i64 0] 31)).setRow w.heap.size L.toArray = w1 at *
 rw [← hL2.out] at hnew
 clear hr hlen hone hL2 hLL
 have hH:=lhi (hnew.out.span (k:=0) (by decide) ((a : Int),(p.i : Int)))
 have hh1:=hh.out.keep hb1.out
 have c2 : w1.cell? ⟨S,2,none⟩ = some (.int .i64 (a : Int)):=hh1.s.held.at_ rfl
 have p0 : w1.cell? ⟨W,0,none⟩ = some (.int .i64 (p.i : Int)):=hh1.way.at_ rfl
 have hne1 : S ≠ w.heap.size:=by have:=hSl.out;omega
 have hne2 : W ≠ w.heap.size:=by have:=hWl.out;omega
 have ⟨z0,z1⟩:=span_there hnew.out (k:=0) (by decide)
 have y0:=hnew.out.thawed 0
 have y1:=hnew.out.thawed 1
 replace hh1:=lhi hh1
 have hb2:=lhi (((hb1.out).setCell (p:=⟨w.heap.size,0,none⟩) (nlr _) (.int .i64 (a : Int))).setCell (p:=⟨w.heap.size,1,none⟩) (nlr _) (.int .i64 (p.i : Int)))
 have hres:=lhi (show Chm w w1 S W v v from Chm.of_below hb1.out)
 go_wp2
 go_region
 have hQ:=lhi (show SMt w.heap.size S (hitC (hitS a p)) (srchC An nn cn At nt ct a left v b) w (((w1.setCell ⟨w.heap.size,0,none⟩ (.int .i64 (a : Int))).setCell ⟨w.heap.size,1,none⟩ (.int .i64 (p.i : Int))).drew) from ⟨hH.out.drew,(hh.out.keep hb2.out.drew).s.held,hb2.out.drew⟩)
 generalize ((w1.setCell ⟨w.heap.size,0,none⟩ (.int .i64 (a : Int))).setCell ⟨w.heap.size,1,none⟩ (.int .i64 (p.i : Int))).drew = w2 at *
 clear hH hb2 hnew hb1 hs1 c2 p0 z0 z1 y0 y1 hh1 hres
 cases b with
 | none =>
  have c25 : w2.cell? ⟨S,25,none⟩ = some (.bool false):=hQ.out.2.1.at_ rfl
  go_wp2
  go_quiet (fail)
  generalize hw3 : w2.drewN _ = w3
  have hQ3:=lhi (show SMt w.heap.size S (hitC (hitS a p)) (srchC An nn cn At nt ct a left v none) w w3 from hw3 ▸ hQ.out.below (below_drewN (Below.refl _ _) _))
  clear hw3
  have hH3:=lhi hQ3.out.1
  have hS3:=lhi hQ3.out.2.1
  obtain ⟨cs',k1,k2,k3⟩:=setCells_held (hitL (hitS a p)) 5 _ _ hQ3.out.2.1
  have hfin:=lhi (show Held ((w3.setCells S 5 (hitL (hitS a p))).setCell ⟨S,25,none⟩ (.bool true)) S 57 (srchC An nn cn At nt ct a left v (some (hitS a p))) from (srch_best k2 k3) ▸ k1.put 25 (.bool true))
  have c25' : (w3.setCells S 5 (hitL (hitS a p))).cell? ⟨S,25,none⟩ = some (.bool false):=k1.at_ (by rw [k3,if_neg (by rw [hitL_len];omega)];rfl)
  have t25':=k1.thawed 25
  have hgr:=lhi (grown_trans (setCells_grown S (hitL (hitS a p)) 5 w3) (grown_cell _ S 25 (.bool true)))
  have hres:=lhi (And.intro ((hh.out.keep hQ3.out.2.2).s.turned hgr.out hfin.out (nlr _)) ((Chm.of_below hQ3.out.2.2).trans (Chm.of_grown (S:=S) (W:=W) (v:=v) hgr.out (.inl rfl))))
  have hCs:=lhi (hitC_size (hitS a p))
  have hCc:=lhi (hit_cells (hitS a p))
  rw [show hitL (hitS a p) = (hitC (hitS a p)).toList from by unfold hitC;rw [List.toList_toArray]] at c25' t25' hres
  clear k1 k2 k3 hfin hgr
  generalize hitC (hitS a p) = CM at *
  go_wp2_with (first
   | (refine wpList_load_row rfl 31 (.tmp 4) rfl w.heap.size rfl 31 _ (0,0) _ hH3.out Try.underlying31 rfl (by rw [hCs.out];exact size_hit) ?_)
   | (refine wpList_store_mid rfl 31 (.tmp 38) (.tmp 36) rfl S 5 CM rfl rfl (hS3.out.there 5 _ (by rw [hCs.out];show 25 ≤ 26;decide)) (by rw [hCs.out];exact size_hit) hCc.out ?_))
  go_end0
  exact ⟨rfl,hres.out.1,hres.out.2⟩
 | some m0 =>
  have hM:=lhi (show ∀ w : World,Calls Try.prog 56 #[.agg (hitC (hitS a p)),.agg (hitC m0)] w fun e w' => e = .returned (.bool (bet (hitS a p) m0)) ∧ Below w.heap.size w w' from fun w => mbetter_any (hitS a p) m0 w)
  have hQd:=lhi (hQ.out.below ((Below.refl _ _).drew))
  have hCl:=lhi (show (hitC (hitS a p)).toList.length = 20 from rfl)
  have hC0:=lhi (show (hitC m0).toList.length = 20 from rfl)
  have hR:=lhi (fun (w' : World) (hS' : SMt w.heap.size S (hitC (hitS a p)) (srchC An nn cn At nt ct a left v (some m0)) w w') => show w'.rangeAt S 5 (hitC m0).toList from srch_range hS'.2.1)
  have hCM:=lhi (show hitC (hitS a p) = hitC (hitS a p) from rfl)
  have hbf:=lhi (show bestF (some m0) [hitS a p] = some (if bet (hitS a p) m0 = true then hitS a p else m0) from rfl)
  generalize bet (hitS a p) m0 = bt at *
  generalize hcm : hitC (hitS a p) = CM at *
  generalize hitC m0 = C0 at *
  replace hcm:=lhi hcm
  clear hCM
  go_wp2
  refine wp_region_held_drew (S:=SMt w.heap.size S CM (srchC An nn cn At nt ct a left v (some m0)) w) (by kernel_rfl) hQd.out (fun hS => ?_)
  refine wpAnyH_take (i:=0) (v:=?_) rfl (by kernel_rfl) (by kernel_rfl) (by kernel_rfl) (fun _ _ _ h => h) (Or.inl ⟨by rfl,?_⟩) hS ?_
  rotate_left
  · (intro w' hS';go_simp;try with_reducible rfl)
  (try simp only [Act.put,List.getElem_toArray,List.getElem_cons_zero,List.getElem_cons_succ,List.setIfInBounds_toArray,List.set_cons_zero,List.set_cons_succ])
  refine wpAnyH_take (i:=1) (v:=?_) rfl (by kernel_rfl) (by kernel_rfl) (by kernel_rfl) (fun _ _ _ h => h) (Or.inl ⟨by rfl,?_⟩) hS ?_
  rotate_left
  · (intro w' hS';go_simp;try with_reducible rfl)
  (try simp only [Act.put,List.getElem_toArray,List.getElem_cons_zero,List.getElem_cons_succ,List.setIfInBounds_toArray,List.set_cons_zero,List.set_cons_succ])
  refine wpAnyH_take (i:=2) (v:=?_) rfl (by kernel_rfl) (by kernel_rfl) (by kernel_rfl) (fun _ _ _ h => h) (Or.inl ⟨by rfl,?_⟩) hS ?_
  rotate_left
  · (intro w' hS';go_simp;try with_reducible rfl)
  (try simp only [Act.put,List.getElem_toArray,List.getElem_cons_zero,List.getElem_cons_succ,List.setIfInBounds_toArray,List.set_cons_zero,List.set_cons_succ])
  refine wpAnyH_take (i:=3) (v:=?_) rfl (by kernel_rfl) (by kernel_rfl) (by kernel_rfl) (fun _ _ _ h => h) (Or.inl ⟨by rfl,?_⟩) hS ?_
  rotate_left
  · (intro w' hS';have hc : w'.cell? ⟨S,25,none⟩ = some (.bool true):=hS'.2.1.at_ rfl;go_simp;try with_reducible rfl)
  (try simp only [Act.put,List.getElem_toArray,List.getElem_cons_zero,List.getElem_cons_succ,List.setIfInBounds_toArray,List.set_cons_zero,List.set_cons_succ])
  refine wpAnyH_take (i:=4) (v:=?_) rfl (by kernel_rfl) (by kernel_rfl) (by kernel_rfl) (fun _ _ _ h => h) (Or.inl ⟨by rfl,?_⟩) hS ?_
  rotate_left
  · (intro w' hS';go_simp;try with_reducible rfl)
  (try simp only [Act.put,List.getElem_toArray,List.getElem_cons_zero,List.getElem_cons_succ,List.setIfInBounds_toArray,List.set_cons_zero,List.set_cons_succ])
  refine wpAnyH_take (i:=5) (v:=?_) rfl (by kernel_rfl) (by kernel_rfl) (by kernel_rfl) (fun _ _ _ h => h) (Or.inl ⟨by rfl,?_⟩) hS ?_
  rotate_left
  · (intro w' hS';go_simp;try with_reducible rfl)
  (try simp only [Act.put,List.getElem_toArray,List.getElem_cons_zero,List.getElem_cons_succ,List.setIfInBounds_toArray,List.set_cons_zero,List.set_cons_succ])
  refine wpAnyH_take (i:=6) (v:=_) rfl (by kernel_rfl) (by kernel_rfl) (by kernel_rfl) (fun _ _ _ h => h) (yieldsIf_load_mid (by rfl) _ _ rfl (w.heap.size) 0 rfl (CM.toList) _ (fun _ hS' => hS'.1.range) Try.underlying31 rfl (by rw [hCl.out];exact size_hit)) hS ?_
  (try simp only [Act.put,List.getElem_toArray,List.getElem_cons_zero,List.getElem_cons_succ,List.setIfInBounds_toArray,List.set_cons_zero,List.set_cons_succ])
  refine wpAnyH_take (i:=7) (v:=?_) rfl (by kernel_rfl) (by kernel_rfl) (by kernel_rfl) (fun _ _ _ h => h) (Or.inl ⟨by rfl,?_⟩) hS ?_
  rotate_left
  · (intro w' hS';go_simp;try with_reducible rfl)
  (try simp only [Act.put,List.getElem_toArray,List.getElem_cons_zero,List.getElem_cons_succ,List.setIfInBounds_toArray,List.set_cons_zero,List.set_cons_succ])
  refine wpAnyH_take (i:=8) (v:=?_) rfl (by kernel_rfl) (by kernel_rfl) (by kernel_rfl) (fun _ _ _ h => h) (Or.inl ⟨by rfl,?_⟩) hS ?_
  rotate_left
  · (intro w' hS';go_simp;try with_reducible rfl)
  (try simp only [Act.put,List.getElem_toArray,List.getElem_cons_zero,List.getElem_cons_succ,List.setIfInBounds_toArray,List.set_cons_zero,List.set_cons_succ])
  refine wpAnyH_take (i:=9) (v:=?_) rfl (by kernel_rfl) (by kernel_rfl) (by kernel_rfl) (fun _ _ _ h => h) (Or.inl ⟨by rfl,?_⟩) hS ?_
  rotate_left
  · (intro w' hS';go_simp;try with_reducible rfl)
  (try simp only [Act.put,List.getElem_toArray,List.getElem_cons_zero,List.getElem_cons_succ,List.setIfInBounds_toArray,List.set_cons_zero,List.set_cons_succ])
  refine wpAnyH_take (i:=10) (v:=_) rfl (by kernel_rfl) (by kernel_rfl) (by kernel_rfl) (fun _ _ _ h => h) (yieldsIf_load_mid (by rfl) _ _ rfl (S) 5 rfl (C0.toList) _ (fun _ hS' => hR.out _ hS') Try.underlying31 rfl (by rw [hC0.out];exact size_hit)) hS ?_
  (try simp only [Act.put,List.getElem_toArray,List.getElem_cons_zero,List.getElem_cons_succ,List.setIfInBounds_toArray,List.set_cons_zero,List.set_cons_succ])
  refine wpAnyH_ready (rs:=[11]) (by kernel_rfl) (by simp) ?_
  refine AllReadyH.cons rfl (fun K hK => ?_) AllReadyH.nil
  go_simp
  refine (hM.out _).mono ?_
  rintro e w3 ⟨rfl,hb5⟩
  go_simp
  refine hK.out _ _ (hS.below hb5) (fun _ => ?_)
  clear hK K
  replace hS:=hS.below hb5
  (try simp only [Act.put,List.getElem_toArray,List.getElem_cons_zero,List.getElem_cons_succ,List.setIfInBounds_toArray,List.set_cons_zero,List.set_cons_succ])
  refine wpAnyH_take (i:=12) (v:=?_) rfl (by kernel_rfl) (by kernel_rfl) (by kernel_rfl) (fun _ _ _ h => h) (Or.inl ⟨by rfl,?_⟩) hS ?_
  rotate_left
  · (intro w' hS';go_simp;try with_reducible rfl)
  (try simp only [Act.put,List.getElem_toArray,List.getElem_cons_zero,List.getElem_cons_succ,List.setIfInBounds_toArray,List.set_cons_zero,List.set_cons_succ])
  refine wpAnyH_done (by kernel_rfl) ?_ _
  cases bt with
  | false =>
   have hQ3:=lhi hS
   have hres:=lhi (And.intro (hh.out.keep hQ3.out.2.2).s (Chm.of_below (S:=S) (W:=W) (v:=v) hQ3.out.2.2))
   clear hS
   go_wp2
   go_end0
   exact ⟨rfl,by rw [hbf.out];exact hres.out.1,hres.out.2⟩
  | true =>
   rw [← hcm.out] at hS
   have hQ3:=lhi hS
   clear hS hM hQd hCl hC0 hR hQ
   have hH3:=lhi hQ3.out.1
   have hS3:=lhi hQ3.out.2.1
   obtain ⟨cs',k1,k2,k3⟩:=setCells_held (hitL (hitS a p)) 5 _ _ hQ3.out.2.1
   have hfin:=lhi (show Held ((w3.setCells S 5 (hitL (hitS a p))).setCell ⟨S,25,none⟩ (.bool true)) S 57 (srchC An nn cn At nt ct a left v (some (hitS a p))) from (srch_best k2 k3) ▸ k1.put 25 (.bool true))
   have c25' : (w3.setCells S 5 (hitL (hitS a p))).cell? ⟨S,25,none⟩ = some (.bool true):=k1.at_ (by rw [k3,if_neg (by rw [hitL_len];omega)];rfl)
   have t25':=k1.thawed 25
   have hgr:=lhi (grown_trans (setCells_grown S (hitL (hitS a p)) 5 w3) (grown_cell _ S 25 (.bool true)))
   have hres:=lhi (And.intro ((hh.out.keep hQ3.out.2.2).s.turned hgr.out hfin.out (nlr _)) ((Chm.of_below hQ3.out.2.2).trans (Chm.of_grown (S:=S) (W:=W) (v:=v) hgr.out (.inl rfl))))
   have hCs:=lhi (hitC_size (hitS a p))
   have hCc:=lhi (hit_cells (hitS a p))
   rw [show hitL (hitS a p) = (hitC (hitS a p)).toList from by unfold hitC;rw [List.toList_toArray]] at c25' t25' hres
   clear k1 k2 k3 hfin hgr
   generalize hitC (hitS a p) = CM at *
   go_wp2_with (first
    | (refine wpList_load_row rfl 31 (.tmp 4) rfl w.heap.size rfl 31 _ (0,0) _ hH3.out Try.underlying31 rfl (by rw [hCs.out];exact size_hit) ?_)
    | (refine wpList_store_mid rfl 31 (.tmp 38) (.tmp 36) rfl S 5 CM rfl rfl (hS3.out.there 5 _ (by rw [hCs.out];show 25 ≤ 26;decide)) (by rw [hCs.out];exact size_hit) hCc.out ?_))
   go_end0
   exact ⟨rfl,by rw [hbf.out];exact hres.out.1,hres.out.2⟩
end
end Go.Proofs.Ytbdfhmefjfaofaa
