/- Contracts and plain facts: M20. -/
import Derived.Deep.AppendLies
import Derived.Test.YtbdfhmefjfaofaaM19
set_option linter.unusedVariables false
set_option linter.unusedSimpArgs false
set_option maxRecDepth 100000
set_option maxHeartbeats 32000000
namespace Go.Proofs.Ytbdfhmefjfaofaa
open Go.RowKit
section
variable {w w1 w' : World} {B S W : Nat} {An : Option Addr} {nn cn : Nat} {At : Option Addr} {nt ct : Nat} {ns : List Nod} {t : List UInt8} {g : Int} {a left : Nat} {v v' : Value} {xs : List Wt} {b : Option Spn} {pv : Value} {p : Pt} {l : List Tsk}
theorem Thru.node (h : Thru w B An nn cn At nt ct ns t g) {k : Nat} (hk : k < ns.length) : ∃ ad,An = some ad ∧ ad.block < B ∧ ∀ j u,(nodL (ndA ns (k : Int)))[j]? = some u → w.cell? (ad.add (k * 10 + j)) = some u:=by
 obtain ⟨ad,h1,h2,h3⟩:=h.nods k hk
 refine ⟨ad,h1,h2,fun j u hj => h3 j u ?_⟩
 rwa [ndA_at (by simpa using hk)] at hj
theorem Sta.push (h : Sta w B S W An nn cn At nt ct ns t g a left v xs b pv p l) {pv2 : Value} {p2 : Pt} {l2 : List Tsk} (hr : RowAt w ns pv2 l2) (hw : w'.ownsRow B 86 22 v' (xs.length + 1) (wtsL xs ++ wayL p2 pv2)) (hg : w.grownBy w' v.ownBlock) (hv : ∀ k,v'.ownBlock = some k → v.ownBlock = some k ∨ w.heap.size ≤ k) (hf : xs.length + 1 + left ≤ 1000001) :
    Sta (w'.setCell ⟨S,4,none⟩ v') B S W An nn cn At nt ct ns t g a left v' (xs ++ [(pv2,p2,l2)]) b pv p l ∧ Chm w (w'.setCell ⟨S,4,none⟩ v') S W v v':=by
 have hSo : v.ownBlock ≠ some S:=h.s.held.not_own h.s.own (by decide)
 have hc : Chm w (w'.setCell ⟨S,4,none⟩ v') S W v v':=(Chm.of_own hg hv).trans (Chm.store (.inl rfl) v')
 have hcell:=h.cells hc
 have hS : Held (w'.setCell ⟨S,4,none⟩ v') S 57 (srchC An nn cn At nt ct a left v' b):=(h.s.held.grown hg (fun e => hSo e.symm)).put 4 v'
 have hvS : v'.ownBlock ≠ some S:=(h.s.held.grown hg (fun e => hSo e.symm)).not_own hw (by decide)
 have hvW : v'.ownBlock ≠ some W:=fun e => by
  rcases hv W e with e | e
  · exact h.apart e
  · have:=h.way.lt;omega
 refine ⟨⟨⟨hS,?_,fun x hx => ?_,h.s.thru.below (h.low hc),h.s.base,by simp;omega⟩,?_,h.row.keep hcell,hvW,h.base⟩,hc⟩
 · have:=hw.kept (grown_cell w' S 4 v') (.inr hvS)
   rw [wtsL_append,wtsL_one,lla]
   exact this
 · rcases List.mem_append.1 hx with hx | hx
   · exact (h.s.rows x hx).keep hcell
   · simp only [List.mem_singleton] at hx
     subst hx
     exact hr.keep hcell
 · exact (h.way.grown hg (fun e => h.apart e.symm)).far (a:=⟨S,4,none⟩) (by exact fun e => h.ne e.symm) v'
theorem Sta.copy (h : Sta w B S W An nn cn At nt ct ns t g a left v xs b pv p l) {O : Nat} (hb : Below w.heap.size w w') (hO : Held w' O 86 (wayC p pv)) (hn : w.heap.size ≤ O) : Ow w' B ns O pv p l ∧ O ≠ W ∧ v.ownBlock ≠ some O :=
 ⟨⟨hO,h.row.far hb,Nat.le_trans h.s.thru.base hn⟩,fun e => by have:=h.way.lt;omega,fun e => by have:=(h.s.own.lt _ e).2;omega⟩
theorem Thru.node' (h : Thru w B An nn cn At nt ct ns t g) {k : Nat} (hk : k < ns.length) : ∃ ad bb oo,An = some ad ∧ ad.add (k * 10) = ⟨bb,oo,none⟩ ∧ bb < B ∧ w.rangeAt bb oo (nodL (ndA ns (k : Int))):=by
 obtain ⟨ad,bb,oo,h1,h2,h3,h4⟩:=h.nods.at_ hk
 exact ⟨ad,bb,oo,h1,h2,h3,by rwa [ndA_at (by simpa using hk)]⟩
theorem range_below {w w' : World} {B bb oo : Nat} {l : List Value} (h : w.rangeAt bb oo l) (hb : Below B w w') (hl : bb < B) : w'.rangeAt bb oo l:=fun j u hj => (hb.cell (p:=⟨bb,oo + j,none⟩) hl).trans (h j u hj)
theorem node_cells {w : World} {bb oo : Nat} {n : Nod} (h : w.rangeAt bb oo (nodL n)) : (w.cell? ⟨bb,oo,none⟩ = some (.int .i64 n.kind) ∧ w.cell? ⟨bb,oo + 1,none⟩ = some (.int .i64 n.a) ∧ w.cell? ⟨bb,oo + 2,none⟩ = some (.int .i64 n.b)) ∧ w.cell? ⟨bb,oo + 3,none⟩ = some (.int .i64 n.lo) ∧ w.cell? ⟨bb,oo + 4,none⟩ = some (.int .i64 n.hi) ∧ w.cell? ⟨bb,oo + 5,none⟩ = some (.int .i64 n.grp) :=
 ⟨⟨h 0 _ rfl,h 1 _ rfl,h 2 _ rfl⟩,h 3 _ rfl,h 4 _ rfl,h 5 _ rfl⟩
def smL (ns : List Nod) (n k : Int) (p : Pt) (l : List Tsk) : List Wy:=((if (ndA ns n).hi = -1 ∨ k < (ndA ns n).hi then [([Tsk.node (ndA ns n).a,Tsk.times n (k + 1) p.i],p)] else []) ++ (if (ndA ns n).lo ≤ k then [(([] : List Tsk),p)] else [])).map (ahead l)
theorem way_hold (p : Pt) (pv : Value) : (wayC p pv).size = 22:=rfl
theorem way_size22 : (Try.prog.info? 86).map (·.size) = some 22:=by kernel_rfl
theorem soMany_less (m : Nat) (k : Int) (h : Sta w B S W An nn cn At nt ct ns t g a left v xs b pv p l) (hn : m < ns.length) (h4 : (ndA ns (m : Int)).kind = 4) (hk : 0 ≤ k ∧ k ≤ 2000000) (hi : p.i ≤ t.length) (hlt : k < (ndA ns (m : Int)).lo) :
    Calls Try.prog 54 #[.pointer (some ⟨S,0,none⟩),.pointer (some ⟨W,0,none⟩),.int .i64 (m : Int),.int .i64 k] w fun e w' => e = .returned (.tuple #[]) ∧ GoP w B S W An nn cn At nt ct ns t g a left v xs b (smL ns m k p l) (.returned (.bool true)) w':=by
 have hrt:=h.s.thru.rt.2.2 (m : Int) (by omega) (by omega)
 have hmul : (ndA ns (m : Int)).hi = -1 ∨ k < (ndA ns (m : Int)).hi:=by have:=hrt.2.2.2.1 h4;omega
 have hL : smL ns m k p l = [(Tsk.node (ndA ns (m : Int)).a :: Tsk.times m (k + 1) p.i :: l,p)]:=by
  unfold smL
  rw [if_pos hmul,if_neg (by omega)]
  rfl
 rw [hL]
 have hmn : m < nn:=by have:=h.s.thru.nn_;omega
 obtain ⟨ad,bb,oo,rfl,hp,hbb,hr⟩:=h.s.thru.node' hn
 have c0:=h.c0
 have hw1 : IntKind.i64.wrap (k + 1) = k + 1:=IntWalk.i64_in _ (by omega)
 have hptr:=h.row.ptr
 have hOne:=lhi (way_cells (p:=p) hptr)
 have hway:=lhi h.way
 have hbx:=lhi (below_row ((Below.refl w.heap.size w).alloc (nlr _) (.cells (wayC ⟨0,sp00⟩ (.pointer none)) 86)) (nlr _) (wayC p pv))
 have hOx:=lhi ((held_new w 86 (wayC ⟨0,sp00⟩ (.pointer none))).row (wayC p pv))
 have hcp:=lhi (h.copy hbx.out hOx.out (nlr _))
 have hSx:=lhi (h.keep hbx.out)
 have hP1:=lhi (mput_any w.heap.size p pv 2 (m : Int) (k + 1) (p.i : Int) _ hOx.out hptr)
 have hP2:=lhi (fun (w2 : World) (pv2 : Value) (hO : Held w2 w.heap.size 86 (wayC p pv2)) (hq : PtrV pv2) => mput_any w.heap.size p pv2 0 (ndA ns (m : Int)).a 0 0 w2 hO hq)
 have hlow:=lhi (fun w' (hb : Below B w w') => And.intro (node_cells (range_below hr hb hbb)) hb)
 have ⟨⟨d0,d1,d2⟩,d3,d4,d5⟩:=node_cells hr
 rw [show wayC ⟨0,sp00⟩ (.pointer none) = #[.int .i64 0,.int .i64 0,.int .i64 0,.int .i64 0,.int .i64 0,.int .i64 0,.int .i64 0,.int .i64 0,.int .i64 0,.int .i64 0,.int .i64 0,.int .i64 0,.int .i64 0,.int .i64 0,.int .i64 0,.int .i64 0,.int .i64 0,.int .i64 0,.int .i64 0,.int .i64 0,.int .i64 0,.pointer none] from rfl] at hbx hOx hcp hSx hP1
 have hdec : (k < (ndA ns (m : Int)).lo) = True:=by simpa using hlt
 have hsz:=lhi (way_hold p pv)
 have hnull:=lhi (held_new w 86 (wayC ⟨0,sp00⟩ (.pointer none)))
 have hp0:=lhi (fun w' (hs : Sta w' B S W (some ad) nn cn At nt ct ns t g a left v xs b pv p l) => And.intro hs.p0 hs.c0)
 have hh:=lhi h
 have hbase:=lhi h.s.thru.base
 clear h hrt hmul hL hr hptr
 generalize hC : wayC p pv = C at *
 go_enter Try.func54,Try.ntmps54
 go_wp2_with (first
  | (refine wpList_load_row rfl 86 (.tmp 17) rfl W rfl 86 _ (0,0) _ hway.out Try.underlying86 rfl (by rw [hsz.out];exact way_size22) ?_)
  | (refine wpList_store_row rfl 86 (.tmp 9) (.tmp 18) rfl w.heap.size C rfl rfl 86 _ hnull.out (by rw [hsz.out];exact way_size22) (by rw [hsz.out];rfl) hOne.out ?_;generalize hwx : (w.alloc (.cells #[.int .i64 0,.int .i64 0,.int .i64 0,.int .i64 0,.int .i64 0,.int .i64 0,.int .i64 0,.int .i64 0,.int .i64 0,.int .i64 0,.int .i64 0,.int .i64 0,.int .i64 0,.int .i64 0,.int .i64 0,.int .i64 0,.int .i64 0,.int .i64 0,.int .i64 0,.int .i64 0,.int .i64 0,.pointer none] 86)).setRow w.heap.size C = wx at *;clear hnull hwx;have p0x:=(hp0.out _ hSx.out).1)
  | (have _h:=hO2;go_at_call 34;refine (hP2.out w2 pv2 hO2.out.way hO2.out.row.ptr).mono ?_;intro e w3 hm;obtain ⟨rfl,hg3,pv3,hO3'⟩:=hO2.out.put (tk:=.node (ndA ns (m : Int)).a) ⟨rfl,rfl,rfl,rfl⟩ hm;have hO3:=lhi hO3';have hB3:=lhi (hB2.out.grown hg3 hB2.out.size (fun k e => by rw [← Option.some.inj e];exact nlr _));have ⟨⟨_,_,_⟩,e3,e4,_⟩:=(hlow.out w3 (hB3.out.mono hbase.out)).1;clear hO3' hm hg3 hP2)
  | (go_at_call 34;refine (hP1.out).mono ?_;intro e w2 hm;obtain ⟨rfl,hg2,pv2,hO2'⟩:=hcp.out.1.put (tk:=.times (m : Int) (k + 1) p.i) ⟨rfl,rfl,rfl,rfl⟩ hm;have hO2:=lhi hO2';have hB2:=lhi (hbx.out.grown hg2 hbx.out.size (fun k e => by rw [← Option.some.inj e];exact nlr _));have ⟨⟨_,e1,_⟩,_,_,_⟩:=(hlow.out w2 (hB2.out.mono hbase.out)).1;clear hO2' hm hg2)
  | (have _h:=hO3;refine wpList_load_row rfl 86 (.tmp 9) rfl w.heap.size rfl 86 _ (0,0) _ hO3.out.way Try.underlying86 rfl (by rw [way_hold];exact way_size22) ?_;have hC3:=lhi (way_cells (p:=p) hO3.out.row.ptr))
  | (have _h:=hC3;refine wpList_store_row rfl 86 (.tmp 43) (.tmp 42) rfl W (wayC p pv3) rfl rfl 86 _ (hway.out.keep hB3.out) (by rw [way_hold];exact way_size22) (by rw [hsz.out];rfl) hC3.out ?_))
 go_end0
 have hS3:=hh.out.keep hB3.out
 obtain ⟨f1,f2⟩:=hS3.wayed (grown_row (b:=W) (wayC p pv3)) (hS3.way.row (wayC p pv3)) (hO3.out.row.keep fun b cs hb => hb.grown (grown_row _) (fun e => hb.apart hS3.way (by decide) (Option.some.inj e)))
 exact ⟨rfl,.goes (ys:=[]) (by rw [List.append_nil];exact f1) ((Chm.of_below hB3.out).trans f2) (Nat.zero_le _) (by simp)⟩
end
section
variable {w w1 w' : World} {B S W : Nat} {An : Option Addr} {nn cn : Nat} {At : Option Addr} {nt ct : Nat} {ns : List Nod} {t : List UInt8} {g : Int} {a left : Nat} {v v' : Value} {xs : List Wt} {b : Option Spn} {pv : Value} {p : Pt} {l : List Tsk}
theorem takesAgain_any (k : Nat) (h : Sta w B S W An nn cn At nt ct ns t g a left v xs b pv p l) {tk : Tsk} (hw : WOK ns t g a (tk :: l,p)) :
    Calls Try.prog 58 #[.pointer (some ⟨S,0,none⟩),.pointer (some ⟨W,0,none⟩),.agg #[.int .i64 (p.sp k).1,.int .i64 (p.sp k).2]] w (GoP w B S W An nn cn At nt ct ns t g a left v xs b (agL t (p.sp k) p l)):=by
 have hi : p.i ≤ t.length:=hw.hi
 rcases hw.span k with e | ⟨h0,h1,h2,h3⟩
 · replace e : p.sp k = (-1,-1):=e
   rw [e]
   have:=takesAgain_no (-1) h (-1) (by decide)
   rwa [show agL t (-1,-1) p l = [] from by unfold agL;rw [backAt_neg (by decide)]]
 · replace h0 : 0 ≤ (p.sp k).1:=h0
   replace h1 : (p.sp k).1 ≤ (p.sp k).2:=h1
   replace h2 : (p.sp k).2 ≤ p.i:=h2
   obtain ⟨x,hx⟩:=Int.eq_ofNat_of_zero_le h0
   obtain ⟨y,hy⟩:=Int.eq_ofNat_of_zero_le (show 0 ≤ (p.sp k).2 by omega)
   have e : p.sp k = ((x : Int),(y : Int)):=Prod.ext hx hy
   rw [e]
   have hxy : x ≤ y:=by omega
   have hyt : y ≤ t.length:=by omega
   by_cases e1 : ct = p.i
   · by_cases e2 : ct = x
     · exact takesAgain_B x y h hi hxy hyt e1 e2
     · exact takesAgain_C x y h hi hxy hyt e1 e2
   · by_cases e2 : ct = x
     · exact takesAgain_D x y h hi hxy hyt e1 e2
     · exact takesAgain_A x y h hi hxy hyt e1 e2
def tbL (f : Nat → Bool) (t : List UInt8) (p : Pt) (l : List Tsk) : List Wy:=match t[p.i]? with | some c => if f c.toNat = true then [(l,⟨p.i + 1,p.sp⟩)] else [] | none => []
theorem takesByte_all (f : Nat → Bool) (h : Sta w B S W An nn cn At nt ct ns t g a left v xs b pv p l) (hi : p.i ≤ t.length) :
    Calls Try.prog 57 #[.pointer (some ⟨S,0,none⟩),.pointer (some ⟨W,0,none⟩),setV f] w (GoP w B S W An nn cn At nt ct ns t g a left v xs b (tbL f t p l)):=takesByte_any f h hi
theorem GoP.ret {L : List Wy} {e : Ending} (h : GoP w B S W An nn cn At nt ct ns t g a left v xs b L e w') : ∃ r : Bool,e = .returned (.bool r):=by
 cases h with
 | gone => exact ⟨false,rfl⟩
 | goes => exact ⟨true,rfl⟩
end
section
variable {w w1 w' : World} {B S W : Nat} {An : Option Addr} {nn cn : Nat} {At : Option Addr} {nt ct : Nat} {ns : List Nod} {t : List UInt8} {g : Int} {a left : Nat} {v v' : Value} {xs : List Wt} {b : Option Spn} {pv : Value} {p : Pt} {l : List Tsk}
theorem takesNode_0 (m : Nat) (h : Sta w B S W An nn cn At nt ct ns t g a left v xs b pv p l) (hn : m < ns.length) (hk : (ndA ns (m : Int)).kind = 0) (hwk : WOK ns t g a (.node (m : Int) :: l,p)) :
    Calls Try.prog 55 #[.pointer (some ⟨S,0,none⟩),.pointer (some ⟨W,0,none⟩),.int .i64 (m : Int)] w (GoP w B S W An nn cn At nt ct ns t g a left v xs b ((nexts ns t (.node (m : Int)) p).map (ahead l))):=by
 rw [next_empty hk]
 have hmn : m < nn:=by have:=h.s.thru.nn_;omega
 obtain ⟨ad,bb,oo,rfl,hp,hbb,hr⟩:=h.s.thru.node' hn
 have c0:=h.c0
 have hlow:=lhi (fun w' (hb : Below B w w') => node_cells (range_below hr hb hbb))
 have hbase:=lhi h.s.thru.base
 have ⟨⟨d0,d1,d2⟩,d3,d4,d5⟩:=node_cells hr
 rw [hk] at d0
 have hh:=lhi h
 clear h hr hwk hlow
 go_enter Try.func55,Try.ntmps55
 go_wp2
 go_ret
 exact hh.out.stay (Chm.of_below (Below.refl _ _)) rfl
theorem takesNode_7 (m : Nat) (h : Sta w B S W An nn cn At nt ct ns t g a left v xs b pv p l) (hn : m < ns.length) (hk : (ndA ns (m : Int)).kind = 7) (hwk : WOK ns t g a (.node (m : Int) :: l,p)) :
    Calls Try.prog 55 #[.pointer (some ⟨S,0,none⟩),.pointer (some ⟨W,0,none⟩),.int .i64 (m : Int)] w (GoP w B S W An nn cn At nt ct ns t g a left v xs b ((nexts ns t (.node (m : Int)) p).map (ahead l))):=by
 rw [next_bol hk]
 have hmn : m < nn:=by have:=h.s.thru.nn_;omega
 obtain ⟨ad,bb,oo,rfl,hp,hbb,hr⟩:=h.s.thru.node' hn
 have c0:=h.c0
 have hlow:=lhi (fun w' (hb : Below B w w') => node_cells (range_below hr hb hbb))
 have hbase:=lhi h.s.thru.base
 have ⟨⟨d0,d1,d2⟩,d3,d4,d5⟩:=node_cells hr
 rw [hk] at d0
 have hh:=lhi h
 have p0:=h.p0
 clear h hr hwk hlow
 by_cases hi : p.i = 0
 · rw [if_pos hi]
   rw [hi] at p0
   replace hi:=lhi hi
   go_enter Try.func55,Try.ntmps55
   go_wp2
   go_ret
   exact hh.out.stay (Chm.of_below (Below.refl _ _)) rfl
 · rw [if_neg hi]
   have hz : ((p.i : Int) == 0) = false:=by rw [bef];omega
   have hz2 : (p.i == 0) = false:=by rw [bef];exact hi
   generalize hq : (p.i : Int) = q at *
   replace hq:=lhi hq
   replace hi:=lhi hi
   clear hz2
   go_enter Try.func55,Try.ntmps55
   go_wp2
   go_ret
   exact hh.out.gone (Chm.of_below (Below.refl _ _)) rfl
theorem takesNode_8 (m : Nat) (h : Sta w B S W An nn cn At nt ct ns t g a left v xs b pv p l) (hn : m < ns.length) (hk : (ndA ns (m : Int)).kind = 8) (hwk : WOK ns t g a (.node (m : Int) :: l,p)) :
    Calls Try.prog 55 #[.pointer (some ⟨S,0,none⟩),.pointer (some ⟨W,0,none⟩),.int .i64 (m : Int)] w (GoP w B S W An nn cn At nt ct ns t g a left v xs b ((nexts ns t (.node (m : Int)) p).map (ahead l))):=by
 rw [next_eol hk]
 have hmn : m < nn:=by have:=h.s.thru.nn_;omega
 obtain ⟨ad,bb,oo,rfl,hp,hbb,hr⟩:=h.s.thru.node' hn
 have c0:=h.c0
 have hlow:=lhi (fun w' (hb : Below B w w') => node_cells (range_below hr hb hbb))
 have hbase:=lhi h.s.thru.base
 have ⟨⟨d0,d1,d2⟩,d3,d4,d5⟩:=node_cells hr
 rw [hk] at d0
 have hh:=lhi h
 have p0:=h.p0
 have c1:=h.c1
 have hnt:=h.s.thru.nt_
 clear h hr hwk hlow
 by_cases hi : p.i = t.length
 · rw [if_pos hi]
   have hg:=lhi (show ((p.i : Int) == (nt : Int)) = true ∧ (p.i == nt) = true from ⟨by rw [beq_iff_eq];omega,by rw [beq_iff_eq];omega⟩)
   replace hi:=lhi hi
   replace hnt:=lhi hnt
   go_enter Try.func55,Try.ntmps55
   go_wp2
   have ⟨g1,g2⟩:=hg.out
   go_quiet (fail)
   go_wp2
   go_ret
   exact (hh.out.keep (below_drewN (Below.refl _ _) _)).stay (Chm.of_below (below_drewN (Below.refl _ _) _)) rfl
 · rw [if_neg hi]
   have hg:=lhi (show ((p.i : Int) == (nt : Int)) = false ∧ (p.i == nt) = false from ⟨by rw [bef];omega,by rw [bef];omega⟩)
   replace hi:=lhi hi
   replace hnt:=lhi hnt
   go_enter Try.func55,Try.ntmps55
   go_wp2
   have ⟨g1,g2⟩:=hg.out
   go_quiet (fail)
   go_wp2
   go_ret
   exact (hh.out.keep (below_drewN (Below.refl _ _) _)).gone (Chm.of_below (below_drewN (Below.refl _ _) _)) rfl
theorem takesNode_1 (m : Nat) (h : Sta w B S W An nn cn At nt ct ns t g a left v xs b pv p l) (hn : m < ns.length) (hk : (ndA ns (m : Int)).kind = 1) (hwk : WOK ns t g a (.node (m : Int) :: l,p)) :
    Calls Try.prog 55 #[.pointer (some ⟨S,0,none⟩),.pointer (some ⟨W,0,none⟩),.int .i64 (m : Int)] w (GoP w B S W An nn cn At nt ct ns t g a left v xs b ((nexts ns t (.node (m : Int)) p).map (ahead l))):=by
 have hnx : (nexts ns t (.node (m : Int)) p).map (ahead l) = tbL (ndA ns (m : Int)).set t p l:=by
  unfold tbL
  by_cases hi : p.i < t.length
  · rw [next_set hk (List.getElem?_eq_getElem hi),List.getElem?_eq_getElem hi]
    dsimp only
    split <;> rfl
  · rw [next_set_end hk (by omega),List.getElem?_eq_none (by omega)];rfl
 rw [hnx]
 clear hnx
 have hmn : m < nn:=by have:=h.s.thru.nn_;omega
 obtain ⟨ad,bb,oo,rfl,hp,hbb,hr⟩:=h.s.thru.node' hn
 have c0:=h.c0
 have hlow:=lhi (fun w' (hb : Below B w w') => node_cells (range_below hr hb hbb))
 have hbase:=lhi h.s.thru.base
 have ⟨⟨d0,d1,d2⟩,d3,d4,d5⟩:=node_cells hr
 rw [hk] at d0
 have hh:=lhi h
 have hT:=lhi (takesByte_all (ndA ns (m : Int)).set h hwk.hi)
 have e6 : w.cell? ⟨bb,oo + 6,none⟩ = some (.int .u64 ((wd (ndA ns (m : Int)).set 0 : Nat) : Int)):=hr 6 _ rfl
 have e7 : w.cell? ⟨bb,oo + 7,none⟩ = some (.int .u64 ((wd (ndA ns (m : Int)).set 1 : Nat) : Int)):=hr 7 _ rfl
 have e8 : w.cell? ⟨bb,oo + 8,none⟩ = some (.int .u64 ((wd (ndA ns (m : Int)).set 2 : Nat) : Int)):=hr 8 _ rfl
 have e9 : w.cell? ⟨bb,oo + 9,none⟩ = some (.int .u64 ((wd (ndA ns (m : Int)).set 3 : Nat) : Int)):=hr 9 _ rfl
 unfold setV setC at hT
 generalize tbL (ndA ns (m : Int)).set t p l = L at *
 generalize ((wd (ndA ns (m : Int)).set 0 : Nat) : Int) = s0 at *
 generalize ((wd (ndA ns (m : Int)).set 1 : Nat) : Int) = s1 at *
 generalize ((wd (ndA ns (m : Int)).set 2 : Nat) : Int) = s2 at *
 generalize ((wd (ndA ns (m : Int)).set 3 : Nat) : Int) = s3 at *
 clear h hr hwk hlow
 go_enter Try.func55,Try.ntmps55
 go_wp2_with (go_at_call 57;refine (hT.out).mono ?_;intro e w3 hg;obtain ⟨r,rfl⟩:=hg.ret;replace hg:=lhi hg)
 go_ret
 exact hg.out
end
end Go.Proofs.Ytbdfhmefjfaofaa
