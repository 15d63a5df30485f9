/- Contracts and plain facts: M44. -/
import Derived.Test.YtbdfhmefjfaofaaM42
import Derived.RangeFuncBox
set_option linter.unusedVariables false
set_option linter.unusedSimpArgs false
set_option maxRecDepth 100000
set_option maxHeartbeats 32000000
namespace Go.Proofs.Ytbdfhmefjfaofaa
open Go.RowKit
def PRow (w : World) (A : Option Addr) (xs : List Pt) : Prop:=∀ j u,(ptsL xs)[j]? = some u → ∃ G,A = some ⟨G,0,none⟩ ∧ G < w.heap.size ∧ w.cell? ⟨G,j,none⟩ = some u
theorem PRow.keep {w w' : World} {A : Option Addr} {xs : List Pt} (h : PRow w A xs) (hb : Below w.heap.size w w') : PRow w' A xs:=fun j u hj => by
 obtain ⟨G,e,hG,hc⟩:=h j u hj
 exact ⟨G,e,nll hG hb.size,(hb.cell (p:=⟨G,j,none⟩) hG).trans hc⟩
theorem PRow.src {w : World} {A : Option Addr} {xs : List Pt} (h : PRow w A xs) : Src w A (ptsL xs):=fun j u hj => by
 obtain ⟨G,e,_,hc⟩:=h j u hj
 exact ⟨_,e,by rw [add_off,Nat.zero_add];exact hc⟩
theorem own_slice {W : World} {base : Nat} {e : TypeId} {size : Nat} {v : Value} {k : Nat} {xs : List Value} (h : W.ownsRow base e size v k xs) : ∃ A c,v = .slice A k c:=by
 rcases h.2 with ⟨rfl,rfl⟩ | ⟨g,cap,_,rfl,_⟩
 · exact ⟨_,_,rfl⟩
 · exact ⟨_,_,rfl⟩
def Pts (w : World) (base : Nat) (v : Value) (xs : List Pt) : Prop:=w.ownsRow base 71 21 v xs.length (ptsL xs)
theorem Pts.prow {w : World} {base : Nat} {v : Value} {xs : List Pt} (h : Pts w base v xs) : ∃ A c,v = .slice A xs.length c ∧ PRow w A xs:=by
 unfold Pts at h
 cases hx : xs.length with
 | zero =>
  have h0 : xs = []:=List.length_eq_zero_iff.1 hx
  subst h0
  obtain ⟨A,c,rfl⟩:=own_slice h
  exact ⟨A,c,rfl,fun j u hj => by simp [ptsL] at hj⟩
 | succ m =>
  rw [hx] at h
  obtain ⟨G,c,rfl⟩:=ownsRow_succ h
  refine ⟨_,c,rfl,fun j u hj => ⟨G,rfl,(h.lt G rfl).2,?_⟩⟩
  have hjl : j < (ptsL xs).length:=(List.getElem?_eq_some_iff.1 hj).1
  rw [h.cellAt j (by rw [ptsL_len,hx] at hjl;exact hjl)]
  exact hj
theorem Pts.keep {w w' : World} {base : Nat} {v : Value} {xs : List Pt} (h : Pts w base v xs) (hb : Below w.heap.size w w') : Pts w' base v xs:=World.ownsRow.kept h (grown_of hb none) (by cases v.ownBlock <;> simp)
theorem Pts.mono {w : World} {b b' : Nat} {v : Value} {xs : List Pt} (h : Pts w b v xs) (hb : b' ≤ b) : Pts w b' v xs:=⟨h.1,h.2.imp id fun ⟨g,cap,cur,h1,h2,h3⟩ => ⟨g,cap,cur,h1,Nat.le_trans hb h2,h3⟩⟩
theorem Pts.nil (w : World) (base : Nat) : Pts w base (.slice none 0 0) []:=World.ownsRow_nil _ _ _ _
theorem Pts.one (w : World) (p : Pt) : Pts (w.alloc (.cells (ptC p) 71)) w.heap.size (.slice (some ⟨w.heap.size,0,none⟩) 1 1) [p]:=by
 have:=World.ownsRow_lit (e:=71) (size:=21) w (ptC p) 1 (nlr _) (by decide) rfl
 unfold Pts
 rw [ptsL_one]
 exact this
theorem wp_build_pt {o : Oper} {a : Act} {w : World} {K : Act → World → Prop} {Q : Exit → Act → World → Prop} (x : Operand) (ho : o.op = .buildSlice 68 1 #[(0,x)]) (p : Pt) (C : Array Value) (hC : ptC p = C) (hx : a.eval x = .agg C)
    (h : K (a.put o.dst (.slice (some ⟨w.heap.size,0,none⟩) 1 1)) (w.alloc (.cells C 71))) : o.wp Try.prog a w K Q:=by
 subst hC
 obtain ⟨i0,hi0,hq0,hq1,hq2⟩:=info_parts pt_infoz
 refine wp_buildSlice 68 71 1 #[(0,x)] ho (ptC p) i0 _ Try.underlying68 hi0 hq0 (by rw [hq1];decide) (by rw [hq1];decide) ?_ h
 rw [hq1]
 simp only [List.map_toArray,List.map_cons,List.map_nil,hx]
 exact fill_pt p
theorem wpList_build_pt {ops : Array Oper} {rest : List Oper} {o : Oper} {a : Act} {w : World} {Q : Exit → Act → World → Prop} (hgd : o.guard = none) (x : Operand) (ho : o.op = .buildSlice 68 1 #[(0,x)]) (p : Pt) (C : Array Value) (hC : ptC p = C) (hx : a.eval x = .agg C)
    (h : wpList Try.prog ops Q rest (a.put o.dst (.slice (some ⟨w.heap.size,0,none⟩) 1 1)) (w.alloc (.cells C 71))) : wpList Try.prog ops Q (o :: rest) a w:=by
 subst hC
 obtain ⟨i0,hi0,hq0,hq1,hq2⟩:=info_parts pt_infoz
 refine wpList_buildSlice hgd 68 71 1 #[(0,x)] ho (ptC p) i0 _ Try.underlying68 hi0 hq0 (by rw [hq1];decide) (by rw [hq1];decide) ?_ h
 rw [hq1]
 simp only [List.map_toArray,List.map_cons,List.map_nil,hx]
 exact fill_pt p
theorem wp_append_pts {o : Oper} {a : Act} {w : World} {K : Act → World → Prop} {Q : Exit → Act → World → Prop} (s x : Operand)
    (ho : o.op = .call { callee:=.builtin .append,args:=#[s,x],argTypes:=#[68,68] })
    (base : Nat) (v : Value) (xs : List Pt) (hs : a.eval s = v) (hown : Pts w base v xs)
    (A : Option Addr) (m c : Nat) (news : List Pt) (hm : m = news.length) (hx : a.eval x = .slice A m c) (hv : Src w A (ptsL news))
    (hlen : xs.length + m ≤ 800000000000) (hbase : base ≤ w.heap.size)
    (h : ∀ v' w',Pts w' base v' (xs ++ news) → w.grownBy w' v.ownBlock → (∀ k,v'.ownBlock = some k → v.ownBlock = some k ∨ w.heap.size ≤ k) → K (a.put o.dst v') w') : o.wp Try.prog a w K Q:=by
 subst hm
 obtain ⟨i0,hi0,hq0,hq1,hq2⟩:=info_parts pt_infoz
 obtain ⟨v',w',hrun,h2,h3,h4⟩:=run_append_at (P:=Try.prog) (w:=w) base 68 o.type 71 i0 _ 21 168 Try.underlying68 hi0 hq0 hq1 hq2 rfl (by decide) v xs.length (ptsL xs) hown A news.length c (ptsL news) (ptsL_len _) hv (pts_one _) (by unfold maxLen;omega) (by omega) hbase
 unfold Oper.wp execOp
 simp only [ho,resolve,invoke,builtin,Sem.run_bind,Sem.run_pure,Result.andThen_ok,List.map_toArray,List.map_cons,List.map_nil,hs,hx,hrun]
 exact h v' w' (by unfold Pts;rw [lla,ptsL_app];exact h2) h3 h4
theorem wp_build_none {o : Oper} {a : Act} {w : World} {K : Act → World → Prop} {Q : Exit → Act → World → Prop} (ho : o.op = .buildSlice 68 0 #[])
    (h : K (a.put o.dst (.slice (some ⟨w.heap.size,0,none⟩) 0 0)) (w.alloc (.cells #[] 71))) : o.wp Try.prog a w K Q:=by
 obtain ⟨i0,hi0,hq0,hq1,hq2⟩:=info_parts pt_infoz
 have hr : (Instr.buildSlice 68 0 #[]).run Try.prog w = .ok (.slice (some ⟨w.heap.size,0,none⟩) 0 0) (w.alloc (.cells #[] 71)):=by
  simp [Instr.buildSlice,run_underlying Try.underlying68,sizeOf,typeInfo,zeroValue,hi0,hq0,hq1,Instr.fill,newRow]
  exact congrArg (fun c : Array Value => w.alloc (.cells c 71)) (Array.eq_empty_of_size_eq_zero (by simp))
 unfold Oper.wp execOp
 simp only [ho,List.map_toArray,List.map_nil,Sem.run_bind,hr,Result.andThen_ok]
 exact h
theorem one_src {w : World} {b : Nat} {p : Pt} (h : Held w b 71 (ptC p)) : Src w (some ⟨b,0,none⟩) (ptsL [p]):=fun j u hj => ⟨_,rfl,by
 rw [add_off,Nat.zero_add]
 rw [ptsL_one] at hj
 exact h.at_ (by rw [← hj];unfold ptC;simp)⟩
def SWi (w0 : World) (A : Option Addr) (l : List Pt) (H : Nat) (L : List Value) (w' : World) : Prop:=PRow w' A l ∧ w'.rangeAt H 0 L ∧ Below w0.heap.size w0 w'
def SWc (G H o : Nat) (L1 L2 : List Value) (w' : World) : Prop:=w'.rangeAt G o L1 ∧ w'.rangeAt H 0 L2
theorem rwith_any (base : Nat) (v : Value) (l : List Pt) (p : Pt) (w : World) (hB : base ≤ w.heap.size) (hl : Pts w base v l) (hp : Nrm p) (hn : ∀ q ∈ l,Nrm q) (hm : l.length ≤ 500000000000) :
    Calls Try.prog 39 #[v,ptV p] w fun e w' => (∃ v' l',e = .returned v' ∧ PutP l p l' ∧ Pts w' base v' l') ∧ Below w.heap.size w w':=by
 show Calls Try.prog 39 #[v,.agg (ptC p)] w _
 obtain ⟨A,c,rfl,hr0⟩:=hl.prow
 have hlh:=lhi hl
 have hb1:=lhi (fun q => show Below w.heap.size w ((w.alloc (.cells (ptC p) 71)).drewN q) from below_drewN ((Below.refl w.heap.size w).alloc (nlr _) (.cells (ptC p) 71)) q)
 have hH:=lhi (fun q => show Held ((w.alloc (.cells (ptC p) 71)).drewN q) w.heap.size 71 (ptC p) from (held_new w 71 (ptC p)).keep (below_drewN (Below.refl _ _) q))
 have hE0:=pt_eql
 have hG0:=pt_guard
 have hrh:=lhi hr0
 have hnh:=lhi hn
 have hph:=lhi hp
 have hBh:=lhi hB
 have hC:=lhi (show ptC p = (ptL p).toArray from rfl)
 clear hl hr0 hn hp hB
 generalize hN : l.length = n at *
 replace hN:=lhi hN
 go_enter Try.func39,Try.ntmps39
 go_upto_region 1 with fail
 generalize w.alloc (.cells (ptC p) 71) = w1 at *
 go_wp2
 go_loopw [5] (fun i wr => ∃ k q : Nat,k ≤ n ∧ i = .int .i64 ((k : Nat) : Int) ∧ wr = w1.drewN q ∧ ∀ j (hj : j < l.length),j < k → l[j]'hj ≠ p) (fun i _ => n - (intOf i).toNat)
 case atStart => exact ⟨0,0,Nat.zero_le _,rfl,rfl,fun j _ h => absurd h (Nat.not_lt_zero j)⟩
 case round =>
  obtain ⟨k,q,hk,rfl,rfl,hno⟩:=hrel
  have hnoh:=lhi hno
  clear hno
  by_cases hlt : k < n
  · have hkx : k < l.length:=by rw [hN.out];exact hlt
    have hLl:=ptL_len (l[k]'hkx)
    have hz : (ptsL l)[k * 21 + 0]? = some ((ptL (l[k]'hkx))[0]'(by omega)):=(ptsL_at l k hkx 0 (by omega)).trans (List.getElem?_eq_getElem _)
    obtain ⟨G,rfl,hG,-⟩:=(hrh.out.keep ((hb1.out q))) (k * 21 + 0) _ hz
    have hr1 : (w1.drewN q).drew.rangeAt G (k * 21) (ptL (l[k]'hkx)):=fun j u hj => by
     have hj1 : j < 21:=by have:=(List.getElem?_eq_some_iff.1 hj).1;omega
     obtain ⟨G,e,_,hc⟩:=(hrh.out.keep (hb1.out q)) (k * 21 + j) u ((ptsL_at l k hkx j hj1).trans hj)
     cases e;exact hc
    have hr2 : (w1.drewN q).drew.rangeAt w.heap.size 0 (ptL p):=fun j u hj => by
     rw [Nat.zero_add]
     exact (hH.out q).at_ (by rw [hC.out];simpa using hj)
    have hSd:=lhi (show SWc G w.heap.size (k * 21) (ptL (l[k]'hkx)) (ptL p) (w1.drewN q).drew from ⟨hr1,hr2⟩)
    have hE : ∀ w,(binOp .eql 71 (.agg (ptC (l[k]'hkx))) (.agg (ptC p))).run Try.prog w = .ok (.bool (ptEq (l[k]'hkx) p)) w:=fun w => hE0 w (l[k]'hkx) p
    have hGq : ∀ op x y w,(eqGuard op 71 x y (.agg (ptC (l[k]'hkx))) (.agg (ptC p))).run Try.prog w = .ok () w:=fun op x y w => hG0 w op x y (l[k]'hkx) p
    have hkI : (k : Int) < (n : Int):=by omega
    have hw2 : IntKind.i64.wrap ((k : Int) + 1) = (k : Int) + 1:=IntWalk.i64_in _ (by omega)
    rw [show ptC (l[k]'hkx) = (ptL (l[k]'hkx)).toArray from rfl,show ptC p = (ptL p).toArray from rfl] at hE hGq
    have hL1:=lhi hLl
    have hL2:=lhi (ptL_len p)
    have hne:=lhi (hnh.out (l[k]'hkx) (List.getElem_mem hkx))
    have hfin:=lhi (show ptEq (l[k]'hkx) p = true → PutP l p l from fun h => .inl ⟨by rw [← (hne.out.eq hph.out).1 h];exact List.getElem_mem hkx,rfl⟩)
    have hnx:=lhi (show ptEq (l[k]'hkx) p = false → l[k]'hkx ≠ p from fun h => (hne.out.ne hph.out).1 h)
    clear hE0 hG0 hLl hz hr1 hr2 hne
    generalize hpe : ptEq (l[k]'hkx) p = be at *
    generalize ptL (l[k]'hkx) = L1 at *
    have hCp:=hC.out
    rw [hCp] at *
    generalize ptL p = L2 at *
    replace hpe:=lhi hpe
    clear hCp
    cases be with
    | true =>
     go_wp2
     refine wp_region_held_drew (S:=SWc G w.heap.size (k * 21) L1 L2) (by kernel_rfl) hSd.out (fun hS => ?_)
     refine wpAnyH_take (i:=0) (v:=?_) rfl (by kernel_rfl) (by kernel_rfl) (by kernel_rfl) (fun _ _ _ h => h) (Or.inl ⟨by rfl,?_⟩) hS ?_
     rotate_left
     · (intro w' hS';go_simp;try with_reducible rfl)
     (try simp only [Act.put,List.getElem_toArray,List.getElem_cons_zero,List.getElem_cons_succ,List.setIfInBounds_toArray,List.set_cons_zero,List.set_cons_succ])
     refine wpAnyH_take (i:=1) (v:=?_) rfl (by kernel_rfl) (by kernel_rfl) (by kernel_rfl) (fun _ _ _ h => h) (Or.inl ⟨by rfl,?_⟩) hS ?_
     rotate_left
     · (intro w' hS';go_simp;try with_reducible rfl)
     (try simp only [Act.put,List.getElem_toArray,List.getElem_cons_zero,List.getElem_cons_succ,List.setIfInBounds_toArray,List.set_cons_zero,List.set_cons_succ])
     refine wpAnyH_take (i:=2) (v:=?_) rfl (by kernel_rfl) (by kernel_rfl) (by kernel_rfl) (fun _ _ _ h => h) (Or.inl ⟨by rfl,?_⟩) hS ?_
     rotate_left
     · (intro w' hS';go_simp;try with_reducible rfl)
     (try simp only [Act.put,List.getElem_toArray,List.getElem_cons_zero,List.getElem_cons_succ,List.setIfInBounds_toArray,List.set_cons_zero,List.set_cons_succ])
     refine wpAnyH_take (i:=3) (v:=_) rfl (by kernel_rfl) (by kernel_rfl) (by kernel_rfl) (fun _ _ _ h => h) (yieldsIf_load_mid (by rfl) _ _ rfl (G) (k * 21) rfl (L1) _ (fun _ hS' => hS'.1) Try.underlying71 rfl (by rw [hL1.out];exact size_pt)) hS ?_
     (try simp only [Act.put,List.getElem_toArray,List.getElem_cons_zero,List.getElem_cons_succ,List.setIfInBounds_toArray,List.set_cons_zero,List.set_cons_succ])
     refine wpAnyH_take (i:=4) (v:=_) rfl (by kernel_rfl) (by kernel_rfl) (by kernel_rfl) (fun _ _ _ h => h) (yieldsIf_load_mid (by rfl) _ _ rfl (w.heap.size) 0 rfl (L2) _ (fun _ hS' => hS'.2) Try.underlying71 rfl (by rw [hL2.out];exact size_pt)) hS ?_
     (try simp only [Act.put,List.getElem_toArray,List.getElem_cons_zero,List.getElem_cons_succ,List.setIfInBounds_toArray,List.set_cons_zero,List.set_cons_succ])
     refine wpAnyH_take (i:=5) (v:=?_) rfl (by kernel_rfl) (by kernel_rfl) (by kernel_rfl) (fun _ _ _ h => h) (Or.inl ⟨by rfl,?_⟩) hS ?_
     rotate_left
     · (intro w' hS';go_simp;try with_reducible rfl)
     (try simp only [Act.put,List.getElem_toArray,List.getElem_cons_zero,List.getElem_cons_succ,List.setIfInBounds_toArray,List.set_cons_zero,List.set_cons_succ])
     refine wpAnyH_done (by kernel_rfl) ?_ _
     go_wp2
     go_ret
     exact ⟨⟨_,l,rfl,hfin.out trivial,hlh.out.keep (below_drewN (hb1.out q) 1)⟩,below_drewN (hb1.out q) 1⟩
    | false =>
     go_wp2
     refine wp_region_held_drew (S:=SWc G w.heap.size (k * 21) L1 L2) (by kernel_rfl) hSd.out (fun hS => ?_)
     refine wpAnyH_take (i:=0) (v:=?_) rfl (by kernel_rfl) (by kernel_rfl) (by kernel_rfl) (fun _ _ _ h => h) (Or.inl ⟨by rfl,?_⟩) hS ?_
     rotate_left
     · (intro w' hS';go_simp;try with_reducible rfl)
     (try simp only [Act.put,List.getElem_toArray,List.getElem_cons_zero,List.getElem_cons_succ,List.setIfInBounds_toArray,List.set_cons_zero,List.set_cons_succ])
     refine wpAnyH_take (i:=1) (v:=?_) rfl (by kernel_rfl) (by kernel_rfl) (by kernel_rfl) (fun _ _ _ h => h) (Or.inl ⟨by rfl,?_⟩) hS ?_
     rotate_left
     · (intro w' hS';go_simp;try with_reducible rfl)
     (try simp only [Act.put,List.getElem_toArray,List.getElem_cons_zero,List.getElem_cons_succ,List.setIfInBounds_toArray,List.set_cons_zero,List.set_cons_succ])
     refine wpAnyH_take (i:=2) (v:=?_) rfl (by kernel_rfl) (by kernel_rfl) (by kernel_rfl) (fun _ _ _ h => h) (Or.inl ⟨by rfl,?_⟩) hS ?_
     rotate_left
     · (intro w' hS';go_simp;try with_reducible rfl)
     (try simp only [Act.put,List.getElem_toArray,List.getElem_cons_zero,List.getElem_cons_succ,List.setIfInBounds_toArray,List.set_cons_zero,List.set_cons_succ])
     refine wpAnyH_take (i:=3) (v:=_) rfl (by kernel_rfl) (by kernel_rfl) (by kernel_rfl) (fun _ _ _ h => h) (yieldsIf_load_mid (by rfl) _ _ rfl (G) (k * 21) rfl (L1) _ (fun _ hS' => hS'.1) Try.underlying71 rfl (by rw [hL1.out];exact size_pt)) hS ?_
     (try simp only [Act.put,List.getElem_toArray,List.getElem_cons_zero,List.getElem_cons_succ,List.setIfInBounds_toArray,List.set_cons_zero,List.set_cons_succ])
     refine wpAnyH_take (i:=4) (v:=_) rfl (by kernel_rfl) (by kernel_rfl) (by kernel_rfl) (fun _ _ _ h => h) (yieldsIf_load_mid (by rfl) _ _ rfl (w.heap.size) 0 rfl (L2) _ (fun _ hS' => hS'.2) Try.underlying71 rfl (by rw [hL2.out];exact size_pt)) hS ?_
     (try simp only [Act.put,List.getElem_toArray,List.getElem_cons_zero,List.getElem_cons_succ,List.setIfInBounds_toArray,List.set_cons_zero,List.set_cons_succ])
     refine wpAnyH_take (i:=5) (v:=?_) rfl (by kernel_rfl) (by kernel_rfl) (by kernel_rfl) (fun _ _ _ h => h) (Or.inl ⟨by rfl,?_⟩) hS ?_
     rotate_left
     · (intro w' hS';go_simp;try with_reducible rfl)
     (try simp only [Act.put,List.getElem_toArray,List.getElem_cons_zero,List.getElem_cons_succ,List.setIfInBounds_toArray,List.set_cons_zero,List.set_cons_succ])
     refine wpAnyH_done (by kernel_rfl) ?_ _
     go_wp2
     go_roundw
     case rel => exact ⟨k + 1,q + 1,by omega,rfl,rfl,fun j hj h => by
      by_cases hjk : j = k
      · subst hjk;exact hnx.out trivial
      · exact hnoh.out j hj (by omega)⟩
     case measure => simp [intOf];omega
  · obtain rfl : k = n:=by omega
    have hW:=lhi (show Below w.heap.size w (w1.drewN q).drew from below_drewN (hb1.out q) 1)
    have hPr:=lhi (hrh.out.keep hW.out)
    have hHe:=lhi (show Held (w1.drewN q).drew w.heap.size 71 (ptC p) from (hH.out q).keep (below_drewN (Below.refl _ _) 1))
    have hnot:=lhi (show p ∉ l from fun h => by
     obtain ⟨j,hj,e⟩:=List.getElem_of_mem h
     exact hnoh.out j hj (by have:=hN.out;omega) e)
    have hL2:=lhi (ptL_len p)
    clear hE0 hG0
    go_upto_region 6 with fail
    refine wp_region_held_drew (S:=fun w' => SWi (w1.drewN q).drew A l w.heap.size (ptL p) w') (by kernel_rfl) ⟨hPr.out,fun j u hj => by rw [Nat.zero_add];exact hHe.out.at_ (by unfold ptC;simpa using hj),Below.refl _ _⟩ (fun hS => ?_)
    generalize (w1.drewN q).drew = W0 at *
    have hSof:=lhi (fun w' (hb : Below W0.heap.size W0 w') => show SWi W0 A l w.heap.size (ptL p) w' from ⟨hPr.out.keep hb,fun j u hj => by rw [Nat.zero_add];exact (hHe.out.keep hb).at_ (by unfold ptC;simpa using hj),hb⟩)
    have hCp:=lhi (show (ptL p).toArray = ptC p from rfl)
    refine wpAnyH_take (i:=1) (v:=?_) rfl (by kernel_rfl) (by kernel_rfl) (by kernel_rfl) (fun _ _ _ h => h) (Or.inl ⟨by rfl,?_⟩) hS ?_
    rotate_left
    · (intro w' hS';go_simp;try with_reducible rfl)
    (try simp only [Act.put,List.getElem_toArray,List.getElem_cons_zero,List.getElem_cons_succ,List.setIfInBounds_toArray,List.set_cons_zero,List.set_cons_succ])
    refine wpAnyH_take (i:=3) (v:=_) rfl (by kernel_rfl) (by kernel_rfl) (by kernel_rfl) (fun _ _ _ h => h) (yieldsIf_load_mid (by rfl) _ _ rfl (w.heap.size) 0 rfl ((ptL p)) _ (fun _ hS' => hS'.2.1) Try.underlying71 rfl (by rw [hL2.out];exact size_pt)) hS ?_
    (try simp only [Act.put,List.getElem_toArray,List.getElem_cons_zero,List.getElem_cons_succ,List.setIfInBounds_toArray,List.set_cons_zero,List.set_cons_succ])
    rw [hCp.out]
    refine wpAnyH_ready (rs:=[0,4]) (by kernel_rfl) (by simp) ?_
    refine AllReadyH.cons rfl (fun K hK => ?_) (AllReadyH.cons rfl (fun K hK => ?_) AllReadyH.nil)
    · rw [if_pos (by rfl)]
      refine wp_build_none rfl ?_
      have b1:=lhi ((Below.refl W0.heap.size W0).alloc (nlr _) (.cells #[] 71))
      have o1:=lhi (show Pts (W0.alloc (.cells #[] 71)) W0.heap.size (.slice (some ⟨W0.heap.size,0,none⟩) 0 0) [] from World.ownsRow_lit (e:=71) (size:=21) W0 #[] 0 (nlr _) (by decide) rfl)
      generalize hW1 : W0.alloc (.cells #[] 71) = W1 at *
      replace hW1:=lhi hW1
      refine hK.out _ _ (hSof.out _ b1.out) (fun hS => ?_)
      clear hK K
      (try simp only [Act.put,List.getElem_toArray,List.getElem_cons_zero,List.getElem_cons_succ,List.setIfInBounds_toArray,List.set_cons_zero,List.set_cons_succ])
      refine wpAnyH_ready (rs:=[2,4]) (by kernel_rfl) (by simp) ?_
      refine AllReadyH.cons rfl (fun K hK => ?_) (AllReadyH.cons rfl (fun K hK => ?_) AllReadyH.nil)
      · rw [if_pos (by rfl)]
        refine wp_append_pts (.tmp 19) (.tmp 20) rfl W0.heap.size (.slice (some ⟨W0.heap.size,0,none⟩) 0 0) [] rfl o1.out A k c l hN.out.symm rfl (hPr.out.keep b1.out).src (by simp;omega) b1.out.size ?_
        intro v2 W2 o2 g2 k2
        have b2:=lhi (b1.out.grown g2 b1.out.size (fun k e => (o1.out.lt k e).1))
        replace o2:=lhi o2
        have s2:=lhi b2.out.size
        clear g2 k2
        refine hK.out _ _ (hSof.out _ b2.out) (fun hS => ?_)
        clear hK K
        (try simp only [Act.put,List.getElem_toArray,List.getElem_cons_zero,List.getElem_cons_succ,List.setIfInBounds_toArray,List.set_cons_zero,List.set_cons_succ])
        refine wpAnyH_ready (rs:=[4]) (by kernel_rfl) (by simp) ?_
        refine AllReadyH.cons rfl (fun K hK => ?_) AllReadyH.nil
        rw [if_pos (by rfl)]
        refine wp_build_pt (.tmp 22) rfl p (ptC p) rfl rfl ?_
        have b3:=lhi (b2.out.alloc s2.out (.cells (ptC p) 71))
        have o3:=lhi (World.ownsRow.alloc o2.out (.cells (ptC p) 71))
        have e3:=lhi (one_src (held_new W2 71 (ptC p)))
        refine hK.out _ _ (hSof.out _ b3.out) (fun hS => ?_)
        clear hK K
        (try simp only [Act.put,List.getElem_toArray,List.getElem_cons_zero,List.getElem_cons_succ,List.setIfInBounds_toArray,List.set_cons_zero,List.set_cons_succ])
        refine wpAnyH_ready (rs:=[5]) (by kernel_rfl) (by simp) ?_
        refine AllReadyH.cons rfl (fun K hK => ?_) AllReadyH.nil
        rw [if_pos (by rfl)]
        refine wp_append_pts (.tmp 21) (.tmp 23) rfl W0.heap.size v2 ([] ++ l) rfl o3.out (some ⟨W2.heap.size,0,none⟩) 1 1 [p] rfl rfl e3.out (by have:=hN.out;simp;omega) b3.out.size ?_
        intro v4 W4 o4 g4 k4
        have b4:=lhi (b3.out.grown g4 b3.out.size (fun k e => (World.ownsRow.lt o3.out k e).1))
        replace o4:=lhi (show Pts W4 W0.heap.size v4 (l ++ [p]) from o4)
        clear g4 k4
        refine hK.out _ _ (hSof.out _ b4.out) (fun hS => ?_)
        clear hK K
        (try simp only [Act.put,List.getElem_toArray,List.getElem_cons_zero,List.getElem_cons_succ,List.setIfInBounds_toArray,List.set_cons_zero,List.set_cons_succ])
        refine wpAnyH_take (i:=6) (v:=?_) rfl (by kernel_rfl) (by kernel_rfl) (by kernel_rfl) (fun _ _ _ h => h) (Or.inl ⟨by rfl,?_⟩) hS ?_
        rotate_left
        · (intro w' hS';go_simp;try with_reducible rfl)
        (try simp only [Act.put,List.getElem_toArray,List.getElem_cons_zero,List.getElem_cons_succ,List.setIfInBounds_toArray,List.set_cons_zero,List.set_cons_succ])
        refine wpAnyH_done (by kernel_rfl) ?_ _
        go_wp2
        go_ret
        exact ⟨⟨_,l ++ [p],rfl,.inr ⟨hnot.out,rfl⟩,o4.out.mono (Nat.le_trans hBh.out hW.out.size)⟩,hW.out.trans (b4.out.mono hW.out.size)⟩
      · rw [if_pos (by rfl)]
        refine wp_build_pt (.tmp 22) rfl p (ptC p) rfl rfl ?_
        have b2:=lhi (b1.out.alloc b1.out.size (.cells (ptC p) 71))
        have o2:=lhi (World.ownsRow.alloc o1.out (.cells (ptC p) 71))
        have h2:=lhi (held_new W1 71 (ptC p))
        have hne:=lhi (show W0.heap.size < W1.heap.size by rw [← hW1.out];simp)
        refine hK.out _ _ (hSof.out _ b2.out) (fun hS => ?_)
        clear hK K
        (try simp only [Act.put,List.getElem_toArray,List.getElem_cons_zero,List.getElem_cons_succ,List.setIfInBounds_toArray,List.set_cons_zero,List.set_cons_succ])
        refine wpAnyH_ready (rs:=[2]) (by kernel_rfl) (by simp) ?_
        refine AllReadyH.cons rfl (fun K hK => ?_) AllReadyH.nil
        rw [if_pos (by rfl)]
        refine wp_append_pts (.tmp 19) (.tmp 20) rfl W0.heap.size (.slice (some ⟨W0.heap.size,0,none⟩) 0 0) [] rfl o2.out A k c l hN.out.symm rfl (hPr.out.keep b2.out).src (by simp;omega) b2.out.size ?_
        intro v3 W3 o3 g3 k3
        have b3:=lhi (b2.out.grown g3 b2.out.size (fun k e => (World.ownsRow.lt o2.out k e).1))
        have e3:=lhi (one_src (h2.out.grown g3 (fun e => by have:=hne.out;have : W1.heap.size = W0.heap.size:=Option.some.inj e;omega)))
        replace o3:=lhi o3
        clear g3 k3
        refine hK.out _ _ (hSof.out _ b3.out) (fun hS => ?_)
        clear hK K
        (try simp only [Act.put,List.getElem_toArray,List.getElem_cons_zero,List.getElem_cons_succ,List.setIfInBounds_toArray,List.set_cons_zero,List.set_cons_succ])
        refine wpAnyH_ready (rs:=[5]) (by kernel_rfl) (by simp) ?_
        refine AllReadyH.cons rfl (fun K hK => ?_) AllReadyH.nil
        rw [if_pos (by rfl)]
        refine wp_append_pts (.tmp 21) (.tmp 23) rfl W0.heap.size v3 ([] ++ l) rfl o3.out (some ⟨W1.heap.size,0,none⟩) 1 1 [p] rfl rfl e3.out (by have:=hN.out;simp;omega) b3.out.size ?_
        intro v4 W4 o4 g4 k4
        have b4:=lhi (b3.out.grown g4 b3.out.size (fun k e => (World.ownsRow.lt o3.out k e).1))
        replace o4:=lhi (show Pts W4 W0.heap.size v4 (l ++ [p]) from o4)
        clear g4 k4
        refine hK.out _ _ (hSof.out _ b4.out) (fun hS => ?_)
        clear hK K
        (try simp only [Act.put,List.getElem_toArray,List.getElem_cons_zero,List.getElem_cons_succ,List.setIfInBounds_toArray,List.set_cons_zero,List.set_cons_succ])
        refine wpAnyH_take (i:=6) (v:=?_) rfl (by kernel_rfl) (by kernel_rfl) (by kernel_rfl) (fun _ _ _ h => h) (Or.inl ⟨by rfl,?_⟩) hS ?_
        rotate_left
        · (intro w' hS';go_simp;try with_reducible rfl)
        (try simp only [Act.put,List.getElem_toArray,List.getElem_cons_zero,List.getElem_cons_succ,List.setIfInBounds_toArray,List.set_cons_zero,List.set_cons_succ])
        refine wpAnyH_done (by kernel_rfl) ?_ _
        go_wp2
        go_ret
        exact ⟨⟨_,l ++ [p],rfl,.inr ⟨hnot.out,rfl⟩,o4.out.mono (Nat.le_trans hBh.out hW.out.size)⟩,hW.out.trans (b4.out.mono hW.out.size)⟩
    · rw [if_pos (by rfl)]
      refine wp_build_pt (.tmp 22) rfl p (ptC p) rfl rfl ?_
      have b1:=lhi ((Below.refl W0.heap.size W0).alloc (nlr _) (.cells (ptC p) 71))
      have h1:=lhi (held_new W0 71 (ptC p))
      have hne:=lhi (show W0.heap.size < (W0.alloc (.cells (ptC p) 71)).heap.size by simp)
      generalize W0.alloc (.cells (ptC p) 71) = W1 at *
      refine hK.out _ _ (hSof.out _ b1.out) (fun hS => ?_)
      clear hK K
      (try simp only [Act.put,List.getElem_toArray,List.getElem_cons_zero,List.getElem_cons_succ,List.setIfInBounds_toArray,List.set_cons_zero,List.set_cons_succ])
      refine wpAnyH_ready (rs:=[0]) (by kernel_rfl) (by simp) ?_
      refine AllReadyH.cons rfl (fun K hK => ?_) AllReadyH.nil
      rw [if_pos (by rfl)]
      refine wp_build_none rfl ?_
      have b2:=lhi (b1.out.alloc b1.out.size (.cells #[] 71))
      have o2:=lhi (show Pts (W1.alloc (.cells #[] 71)) W0.heap.size (.slice (some ⟨W1.heap.size,0,none⟩) 0 0) [] from World.ownsRow_lit (e:=71) (size:=21) W1 #[] 0 b1.out.size (by decide) rfl)
      have h2:=lhi (h1.out.alloc (.cells #[] 71))
      refine hK.out _ _ (hSof.out _ b2.out) (fun hS => ?_)
      clear hK K
      (try simp only [Act.put,List.getElem_toArray,List.getElem_cons_zero,List.getElem_cons_succ,List.setIfInBounds_toArray,List.set_cons_zero,List.set_cons_succ])
      refine wpAnyH_ready (rs:=[2]) (by kernel_rfl) (by simp) ?_
      refine AllReadyH.cons rfl (fun K hK => ?_) AllReadyH.nil
      rw [if_pos (by rfl)]
      refine wp_append_pts (.tmp 19) (.tmp 20) rfl W0.heap.size (.slice (some ⟨W1.heap.size,0,none⟩) 0 0) [] rfl o2.out A k c l hN.out.symm rfl (hPr.out.keep b2.out).src (by simp;omega) b2.out.size ?_
      intro v3 W3 o3 g3 k3
      have b3:=lhi (b2.out.grown g3 b2.out.size (fun k e => (World.ownsRow.lt o2.out k e).1))
      have e3:=lhi (one_src (h2.out.grown g3 (fun e => by have:=hne.out;have : W0.heap.size = W1.heap.size:=Option.some.inj e;omega)))
      replace o3:=lhi o3
      clear g3 k3
      refine hK.out _ _ (hSof.out _ b3.out) (fun hS => ?_)
      clear hK K
      (try simp only [Act.put,List.getElem_toArray,List.getElem_cons_zero,List.getElem_cons_succ,List.setIfInBounds_toArray,List.set_cons_zero,List.set_cons_succ])
      refine wpAnyH_ready (rs:=[5]) (by kernel_rfl) (by simp) ?_
      refine AllReadyH.cons rfl (fun K hK => ?_) AllReadyH.nil
      rw [if_pos (by rfl)]
      refine wp_append_pts (.tmp 21) (.tmp 23) rfl W0.heap.size v3 ([] ++ l) rfl o3.out (some ⟨W0.heap.size,0,none⟩) 1 1 [p] rfl rfl e3.out (by have:=hN.out;simp;omega) b3.out.size ?_
      intro v4 W4 o4 g4 k4
      have b4:=lhi (b3.out.grown g4 b3.out.size (fun k e => (World.ownsRow.lt o3.out k e).1))
      replace o4:=lhi (show Pts W4 W0.heap.size v4 (l ++ [p]) from o4)
      clear g4 k4
      refine hK.out _ _ (hSof.out _ b4.out) (fun hS => ?_)
      clear hK K
      (try simp only [Act.put,List.getElem_toArray,List.getElem_cons_zero,List.getElem_cons_succ,List.setIfInBounds_toArray,List.set_cons_zero,List.set_cons_succ])
      refine wpAnyH_take (i:=6) (v:=?_) rfl (by kernel_rfl) (by kernel_rfl) (by kernel_rfl) (fun _ _ _ h => h) (Or.inl ⟨by rfl,?_⟩) hS ?_
      rotate_left
      · (intro w' hS';go_simp;try with_reducible rfl)
      (try simp only [Act.put,List.getElem_toArray,List.getElem_cons_zero,List.getElem_cons_succ,List.setIfInBounds_toArray,List.set_cons_zero,List.set_cons_succ])
      refine wpAnyH_done (by kernel_rfl) ?_ _
      go_wp2
      go_ret
      exact ⟨⟨_,l ++ [p],rfl,.inr ⟨hnot.out,rfl⟩,o4.out.mono (Nat.le_trans hBh.out hW.out.size)⟩,hW.out.trans (b4.out.mono hW.out.size)⟩
end Go.Proofs.Ytbdfhmefjfaofaa
