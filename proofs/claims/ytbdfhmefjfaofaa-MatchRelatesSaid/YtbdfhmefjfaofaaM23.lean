/- Contracts and plain facts: M23. -/
import Derived.Test.YtbdfhmefjfaofaaM20
import Derived.Test.YtbdfhmefjfaofaaM21
import Derived.Test.YtbdfhmefjfaofaaM22
set_option linter.unusedVariables false
set_option linter.unusedSimpArgs false
set_option maxRecDepth 100000
set_option maxHeartbeats 32000000
namespace Go.Proofs.Ytbdfhmefjfaofaa
open Go.RowKit
section
variable {w w1 w' : World} {B S W : Nat} {An : Option Addr} {nn cn : Nat} {At : Option Addr} {nt ct : Nat} {ns : List Nod} {t : List UInt8} {g : Int} {a left : Nat} {v v' : Value} {xs : List Wt} {b : Option Spn} {pv : Value} {p : Pt} {l : List Tsk}
theorem takesAgain_any (k : Nat) (h : Sta w B S W An nn cn At nt ct ns t g a left v xs b pv p l) {tk : Tsk} (hw : WOK ns t g a (tk :: l,p)) :
    Calls Try.prog 58 #[.pointer (some ⟨S,0,none⟩),.pointer (some ⟨W,0,none⟩),.agg #[.int .i64 (p.sp k).1,.int .i64 (p.sp k).2]] w (GoP w B S W An nn cn At nt ct ns t g a left v xs b (agL t (p.sp k) p l)):=by
 have hi : p.i ≤ t.length:=hw.hi
 rcases hw.span k with e | ⟨h0,h1,h2,h3⟩
 · replace e : p.sp k = (-1,-1):=e
   rw [e]
   have:=takesAgain_no (-1) h (-1) (by decide)
   rwa [show agL t (-1,-1) p l = [] from by unfold agL;rw [backAt_neg (by decide)]]
 · replace h0 : 0 ≤ (p.sp k).1:=h0
   replace h1 : (p.sp k).1 ≤ (p.sp k).2:=h1
   replace h2 : (p.sp k).2 ≤ p.i:=h2
   obtain ⟨x,hx⟩:=Int.eq_ofNat_of_zero_le h0
   obtain ⟨y,hy⟩:=Int.eq_ofNat_of_zero_le (show 0 ≤ (p.sp k).2 by omega)
   have e : p.sp k = ((x : Int),(y : Int)):=Prod.ext hx hy
   rw [e]
   have hxy : x ≤ y:=by omega
   have hyt : y ≤ t.length:=by omega
   by_cases e1 : ct = p.i
   · by_cases e2 : ct = x
     · exact takesAgain_B x y h hi hxy hyt e1 e2
     · exact takesAgain_C x y h hi hxy hyt e1 e2
   · by_cases e2 : ct = x
     · exact takesAgain_D x y h hi hxy hyt e1 e2
     · exact takesAgain_A x y h hi hxy hyt e1 e2
def tbL (f : Nat → Bool) (t : List UInt8) (p : Pt) (l : List Tsk) : List Wy:=match t[p.i]? with | some c => if f c.toNat = true then [(l,⟨p.i + 1,p.sp⟩)] else [] | none => []
theorem takesByte_all (f : Nat → Bool) (h : Sta w B S W An nn cn At nt ct ns t g a left v xs b pv p l) (hi : p.i ≤ t.length) :
    Calls Try.prog 57 #[.pointer (some ⟨S,0,none⟩),.pointer (some ⟨W,0,none⟩),setV f] w (GoP w B S W An nn cn At nt ct ns t g a left v xs b (tbL f t p l)):=takesByte_any f h hi
theorem GoP.ret {L : List Wy} {e : Ending} (h : GoP w B S W An nn cn At nt ct ns t g a left v xs b L e w') : ∃ r : Bool,e = .returned (.bool r):=by
 cases h with
 | gone => exact ⟨false,rfl⟩
 | goes => exact ⟨true,rfl⟩
end
section
variable {w w1 w' : World} {B S W : Nat} {An : Option Addr} {nn cn : Nat} {At : Option Addr} {nt ct : Nat} {ns : List Nod} {t : List UInt8} {g : Int} {a left : Nat} {v v' : Value} {xs : List Wt} {b : Option Spn} {pv : Value} {p : Pt} {l : List Tsk}
theorem takesNode_0 (m : Nat) (h : Sta w B S W An nn cn At nt ct ns t g a left v xs b pv p l) (hn : m < ns.length) (hk : (ndA ns (m : Int)).kind = 0) (hwk : WOK ns t g a (.node (m : Int) :: l,p)) :
    Calls Try.prog 55 #[.pointer (some ⟨S,0,none⟩),.pointer (some ⟨W,0,none⟩),.int .i64 (m : Int)] w (GoP w B S W An nn cn At nt ct ns t g a left v xs b ((nexts ns t (.node (m : Int)) p).map (ahead l))):=by
 rw [next_empty hk]
 have hmn : m < nn:=by have:=h.s.thru.nn_;omega
 obtain ⟨ad,bb,oo,rfl,hp,hbb,hr⟩:=h.s.thru.node' hn
 have c0:=h.c0
 have hlow:=lhi (fun w' (hb : Below B w w') => node_cells (range_below hr hb hbb))
 have hbase:=lhi h.s.thru.base
 have ⟨⟨d0,d1,d2⟩,d3,d4,d5⟩:=node_cells hr
 rw [hk] at d0
 have hh:=lhi h
 clear h hr hwk hlow
 go_enter Try.func55,Try.ntmps55
 go_wp2
 go_ret
 exact hh.out.stay (Chm.of_below (Below.refl _ _)) rfl
theorem takesNode_7 (m : Nat) (h : Sta w B S W An nn cn At nt ct ns t g a left v xs b pv p l) (hn : m < ns.length) (hk : (ndA ns (m : Int)).kind = 7) (hwk : WOK ns t g a (.node (m : Int) :: l,p)) :
    Calls Try.prog 55 #[.pointer (some ⟨S,0,none⟩),.pointer (some ⟨W,0,none⟩),.int .i64 (m : Int)] w (GoP w B S W An nn cn At nt ct ns t g a left v xs b ((nexts ns t (.node (m : Int)) p).map (ahead l))):=by
 rw [next_bol hk]
 have hmn : m < nn:=by have:=h.s.thru.nn_;omega
 obtain ⟨ad,bb,oo,rfl,hp,hbb,hr⟩:=h.s.thru.node' hn
 have c0:=h.c0
 have hlow:=lhi (fun w' (hb : Below B w w') => node_cells (range_below hr hb hbb))
 have hbase:=lhi h.s.thru.base
 have ⟨⟨d0,d1,d2⟩,d3,d4,d5⟩:=node_cells hr
 rw [hk] at d0
 have hh:=lhi h
 have p0:=h.p0
 clear h hr hwk hlow
 by_cases hi : p.i = 0
 · rw [if_pos hi]
   rw [hi] at p0
   replace hi:=lhi hi
   go_enter Try.func55,Try.ntmps55
   go_wp2
   go_ret
   exact hh.out.stay (Chm.of_below (Below.refl _ _)) rfl
 · rw [if_neg hi]
   have hz : ((p.i : Int) == 0) = false:=by rw [bef];omega
   have hz2 : (p.i == 0) = false:=by rw [bef];exact hi
   generalize hq : (p.i : Int) = q at *
   replace hq:=lhi hq
   replace hi:=lhi hi
   clear hz2
   go_enter Try.func55,Try.ntmps55
   go_wp2
   go_ret
   exact hh.out.gone (Chm.of_below (Below.refl _ _)) rfl
theorem takesNode_8 (m : Nat) (h : Sta w B S W An nn cn At nt ct ns t g a left v xs b pv p l) (hn : m < ns.length) (hk : (ndA ns (m : Int)).kind = 8) (hwk : WOK ns t g a (.node (m : Int) :: l,p)) :
    Calls Try.prog 55 #[.pointer (some ⟨S,0,none⟩),.pointer (some ⟨W,0,none⟩),.int .i64 (m : Int)] w (GoP w B S W An nn cn At nt ct ns t g a left v xs b ((nexts ns t (.node (m : Int)) p).map (ahead l))):=by
 rw [next_eol hk]
 have hmn : m < nn:=by have:=h.s.thru.nn_;omega
 obtain ⟨ad,bb,oo,rfl,hp,hbb,hr⟩:=h.s.thru.node' hn
 have c0:=h.c0
 have hlow:=lhi (fun w' (hb : Below B w w') => node_cells (range_below hr hb hbb))
 have hbase:=lhi h.s.thru.base
 have ⟨⟨d0,d1,d2⟩,d3,d4,d5⟩:=node_cells hr
 rw [hk] at d0
 have hh:=lhi h
 have p0:=h.p0
 have c1:=h.c1
 have hnt:=h.s.thru.nt_
 clear h hr hwk hlow
 by_cases hi : p.i = t.length
 · rw [if_pos hi]
   have hg:=lhi (show ((p.i : Int) == (nt : Int)) = true ∧ (p.i == nt) = true from ⟨by rw [beq_iff_eq];omega,by rw [beq_iff_eq];omega⟩)
   replace hi:=lhi hi
   replace hnt:=lhi hnt
   go_enter Try.func55,Try.ntmps55
   go_wp2
   have ⟨g1,g2⟩:=hg.out
   go_quiet (fail)
   go_wp2
   go_ret
   exact (hh.out.keep (below_drewN (Below.refl _ _) _)).stay (Chm.of_below (below_drewN (Below.refl _ _) _)) rfl
 · rw [if_neg hi]
   have hg:=lhi (show ((p.i : Int) == (nt : Int)) = false ∧ (p.i == nt) = false from ⟨by rw [bef];omega,by rw [bef];omega⟩)
   replace hi:=lhi hi
   replace hnt:=lhi hnt
   go_enter Try.func55,Try.ntmps55
   go_wp2
   have ⟨g1,g2⟩:=hg.out
   go_quiet (fail)
   go_wp2
   go_ret
   exact (hh.out.keep (below_drewN (Below.refl _ _) _)).gone (Chm.of_below (below_drewN (Below.refl _ _) _)) rfl
theorem takesNode_1 (m : Nat) (h : Sta w B S W An nn cn At nt ct ns t g a left v xs b pv p l) (hn : m < ns.length) (hk : (ndA ns (m : Int)).kind = 1) (hwk : WOK ns t g a (.node (m : Int) :: l,p)) :
    Calls Try.prog 55 #[.pointer (some ⟨S,0,none⟩),.pointer (some ⟨W,0,none⟩),.int .i64 (m : Int)] w (GoP w B S W An nn cn At nt ct ns t g a left v xs b ((nexts ns t (.node (m : Int)) p).map (ahead l))):=by
 have hnx : (nexts ns t (.node (m : Int)) p).map (ahead l) = tbL (ndA ns (m : Int)).set t p l:=by
  unfold tbL
  by_cases hi : p.i < t.length
  · rw [next_set hk (List.getElem?_eq_getElem hi),List.getElem?_eq_getElem hi]
    dsimp only
    split <;> rfl
  · rw [next_set_end hk (by omega),List.getElem?_eq_none (by omega)];rfl
 rw [hnx]
 clear hnx
 have hmn : m < nn:=by have:=h.s.thru.nn_;omega
 obtain ⟨ad,bb,oo,rfl,hp,hbb,hr⟩:=h.s.thru.node' hn
 have c0:=h.c0
 have hlow:=lhi (fun w' (hb : Below B w w') => node_cells (range_below hr hb hbb))
 have hbase:=lhi h.s.thru.base
 have ⟨⟨d0,d1,d2⟩,d3,d4,d5⟩:=node_cells hr
 rw [hk] at d0
 have hh:=lhi h
 have hT:=lhi (takesByte_all (ndA ns (m : Int)).set h hwk.hi)
 have e6 : w.cell? ⟨bb,oo + 6,none⟩ = some (.int .u64 ((wd (ndA ns (m : Int)).set 0 : Nat) : Int)):=hr 6 _ rfl
 have e7 : w.cell? ⟨bb,oo + 7,none⟩ = some (.int .u64 ((wd (ndA ns (m : Int)).set 1 : Nat) : Int)):=hr 7 _ rfl
 have e8 : w.cell? ⟨bb,oo + 8,none⟩ = some (.int .u64 ((wd (ndA ns (m : Int)).set 2 : Nat) : Int)):=hr 8 _ rfl
 have e9 : w.cell? ⟨bb,oo + 9,none⟩ = some (.int .u64 ((wd (ndA ns (m : Int)).set 3 : Nat) : Int)):=hr 9 _ rfl
 unfold setV setC at hT
 generalize tbL (ndA ns (m : Int)).set t p l = L at *
 generalize ((wd (ndA ns (m : Int)).set 0 : Nat) : Int) = s0 at *
 generalize ((wd (ndA ns (m : Int)).set 1 : Nat) : Int) = s1 at *
 generalize ((wd (ndA ns (m : Int)).set 2 : Nat) : Int) = s2 at *
 generalize ((wd (ndA ns (m : Int)).set 3 : Nat) : Int) = s3 at *
 clear h hr hwk hlow
 go_enter Try.func55,Try.ntmps55
 go_wp2_with (go_at_call 57;refine (hT.out).mono ?_;intro e w3 hg;obtain ⟨r,rfl⟩:=hg.ret;replace hg:=lhi hg)
 go_ret
 exact hg.out
end
end Go.Proofs.Ytbdfhmefjfaofaa
