/- Contracts and plain facts: M16. -/
import Derived.Test.YtbdfhmefjfaofaaM15
import Derived.Deep.RegionLaw
import Derived.Deep.RegionWith
set_option linter.unusedVariables false
set_option linter.unusedSimpArgs false
set_option maxRecDepth 100000
set_option maxHeartbeats 32000000
namespace Go.Proofs.Ytbdfhmefjfaofaa
open Go.RowKit
def MPut (w : World) (W : Nat) (p : Pt) (pv : Value) (k n t q : Int) (e : Ending) (w' : World) : Prop :=
 e = .returned (.tuple #[]) ∧ ∃ b,w.heap.size ≤ b ∧ Held w' W 86 (wayC p (.pointer (some ⟨b,0,none⟩))) ∧ Held w' b 107 #[.int .i64 k,.int .i64 n,.int .i64 t,.int .i64 q,pv] ∧ w.grownBy w' (some W)
theorem mput_any (W : Nat) (p : Pt) (pv : Value) (k n t q : Int) (w : World) (h : Held w W 86 (wayC p pv)) (hp : PtrV pv) :
    Calls Try.prog 34 #[.pointer (some ⟨W,0,none⟩),.agg #[.int .i64 k,.int .i64 n,.int .i64 t,.int .i64 q]] w (MPut w W p pv k n t q):=by
 obtain ⟨x,rfl⟩:=hp
 have hlt:=h.lt
 have hne : W ≠ w.heap.size:=by omega
 have c21 : w.cell? ⟨W,21,none⟩ = some (.pointer x):=h.at_ rfl
 have t21:=h.thawed 21
 have hh:=lhi h
 clear h
 go_enter Try.func34,Try.ntmps34
 go_wp2
 go_region
 all_goals
  go_wp2
  go_end0
  refine ⟨rfl,w.heap.size + 1,by omega,?_,?_,?_⟩
  · exact (((hh.out.put 21 (.pointer (some ⟨w.heap.size + 1,0,none⟩))).alloc _).alloc _).drew
  · have:=held_new2 (w.setCell ⟨W,21,none⟩ (.pointer (some ⟨w.heap.size + 1,0,none⟩))) (.cells #[.int .i64 k,.int .i64 n,.int .i64 t,.int .i64 q] 89) 107 #[.int .i64 k,.int .i64 n,.int .i64 t,.int .i64 q,.pointer x]
    rw [World.size_setCell] at this
    exact this.drew
  · exact grown_then (grown_cell w W 21 _) ((((Below.refl _ _).alloc (nlr _) _).alloc (by simp) _).drew)
section
variable {w w' : World} {B S W : Nat} {An : Option Addr} {nn cn : Nat} {At : Option Addr} {nt ct : Nat} {ns : List Nod} {t : List UInt8} {g : Int} {a left : Nat} {v : Value} {xs : List Wt} {b : Option Spn} {pv : Value} {p : Pt} {l : List Tsk} {k n u q : Int} {tk : Tsk} {e : Ending}
theorem Sta.put (h : Sta w B S W An nn cn At nt ct ns t g a left v xs b pv p l) (hk : TkC ns tk k n u q) (hm : MPut w W p pv k n u q e w') : e = .returned (.tuple #[]) ∧ ∃ pv',Sta w' B S W An nn cn At nt ct ns t g a left v xs b pv' p (tk :: l) ∧ Chm w w' S W v v:=by
 obtain ⟨he,c,hc,h1,h2,h3⟩:=hm
 refine ⟨he,_,h.wayed h3 h1 (.cons h2 hk (h.row.keep fun b cs hb => hb.grown h3 (fun e => ?_)))⟩
 exact hb.apart h.way (by decide) (Option.some.inj e)
structure Ow (w : World) (B : Nat) (ns : List Nod) (O : Nat) (pv : Value) (p : Pt) (l : List Tsk) : Prop where
 way : Held w O 86 (wayC p pv)
 row : RowAt w ns pv l
 base : B ≤ O
theorem Ow.keep {O : Nat} (h : Ow w B ns O pv p l) (hb : Below w.heap.size w w') : Ow w' B ns O pv p l:=⟨h.way.keep hb,h.row.far hb,h.base⟩
theorem Ow.put {O : Nat} (h : Ow w B ns O pv p l) (hk : TkC ns tk k n u q) (hm : MPut w O p pv k n u q e w') : e = .returned (.tuple #[]) ∧ w.grownBy w' (some O) ∧ ∃ pv',Ow w' B ns O pv' p (tk :: l):=by
 obtain ⟨he,c,hc,h1,h2,h3⟩:=hm
 refine ⟨he,h3,_,h1,.cons h2 hk (h.row.keep fun b cs hb => hb.grown h3 (fun e => ?_)),h.base⟩
 exact hb.apart h.way (by decide) (Option.some.inj e)
end
theorem pow_small (c : Nat) : (2 : Int) ^ (c % 64) % 18446744073709551616 = ((bitN c : Nat) : Int):=by
 have hb:=bitN_lt c
 have e : (2 : Int) ^ (c % 64) = ((bitN c : Nat) : Int):=by simp [bitN]
 rw [e]
 omega
theorem bit_any (c : Nat) (w : World) (hc : c < 256) :
    Calls Try.prog 63 #[.int .u8 (c : Int)] w fun e w' => e = .returned (.int .u64 ((bitN c : Nat) : Int)) ∧ w = w':=by
 have h1 : (0 : Int) ≤ (c : Int) % 64:=by omega
 have h2 : (c : Int) % 64 ≤ 64:=by omega
 have ht : ((c : Int) % 64).toNat = c % 64:=by omega
 go_enter Try.func63,Try.ntmps63
 go_wp2
 go_ret
 exact ⟨ret_int (pow_small c),rfl⟩
theorem has_any (f : Nat → Bool) (c : Nat) (w : World) (hc : c < 256) :
    Calls Try.prog 60 #[setV f,.int .u8 (c : Int)] w fun e w' => e = .returned (.bool (f c)) ∧ Below w.heap.size w w':=by
 unfold setV setC
 obtain ⟨k,i,he,hi,hk⟩:=byte_parts c hc
 have hA:=lhi (and_ne f c k i he hi)
 have h0:=tdiv_of he hi
 have h1:=ediv_of he hi
 clear he hi
 rcases hk with rfl | rfl | rfl | rfl
 all_goals
  go_enter Try.func60,Try.ntmps60
  go_wp2_with (go_quiet ((go_at_call 63;exact Calls.quiet_of_same ((bit_any c _ hc).mono fun e w' h => ⟨h.1,h.2.symm⟩))))
  go_ret
  exact ⟨ret_bool hA.out,below_drewN ((Below.refl _ _).alloc (nlr _) _) _⟩
section
variable {w w' : World} {g : Nat} {f : Nat → Bool}
theorem SetAt.more {c k i : Nat} (h : SetAt w g f) (he : c = 64 * k + i) (hi : i < 64) (hk : k = 0 ∨ k = 1 ∨ k = 2 ∨ k = 3) :
    SetAt (w.setCell ⟨g,k,none⟩ (.int .u64 (bits .or .u64 ((wd f k : Nat) : Int) ((bitN c : Nat) : Int)))) g (fun x => f x || decide (x = c)):=by
 unfold SetAt at h ⊢
 rw [heap_setCell_same w g k _ _ _ h,or_bit f c k i he hi]
 have hw : ∀ k',k' ≠ k → wd (fun x => f x || decide (x = c)) k' = wd f k':=fun k' hk' => wd_more f c k k' i he hi hk'
 unfold setC
 rcases hk with rfl | rfl | rfl | rfl
 · rw [hw 1 (by decide),hw 2 (by decide),hw 3 (by decide)];rfl
 · rw [hw 0 (by decide),hw 2 (by decide),hw 3 (by decide)];rfl
 · rw [hw 0 (by decide),hw 1 (by decide),hw 3 (by decide)];rfl
 · rw [hw 0 (by decide),hw 1 (by decide),hw 2 (by decide)];rfl
end
section
variable {w w1 : World} {B S W : Nat} {An : Option Addr} {nn cn : Nat} {At : Option Addr} {nt ct : Nat} {ns : List Nod} {t : List UInt8} {g : Int} {a left : Nat} {v : Value} {xs : List Wt} {b : Option Spn} {pv : Value} {p : Pt} {l : List Tsk}
theorem Sta.goto (h : Sta w1 B S W An nn cn At nt ct ns t g a left v xs b pv p l) (hc : Chm w w1 S W v v) {j : Nat} {z : Int} (hz : z = (j : Int)) {L : List Wy} (hL : L = [(l,⟨j,p.sp⟩)]) : GoP w B S W An nn cn At nt ct ns t g a left v xs b L (.returned (.bool true)) (w1.setCell ⟨W,0,none⟩ (.int .i64 z)):=by
 subst hz
 subst hL
 obtain ⟨h1,h2⟩:=h.wayed (grown_cell w1 W 0 (.int .i64 (j : Int))) (p':=⟨j,p.sp⟩) (pv':=pv) (l':=l) (by have:=h.way.put 0 (.int .i64 (j : Int));rwa [way_goto] at this) (h.row.keep fun b cs hb => hb.grown (grown_cell w1 W 0 _) (fun e => hb.apart h.way (by decide) (Option.some.inj e)))
 exact .goes (ys:=[]) (by rw [List.append_nil];exact h1) (hc.trans h2) (Nat.zero_le _) (by simp)
theorem Sta.gone (h : Sta w1 B S W An nn cn At nt ct ns t g a left v xs b pv p l) (hc : Chm w w1 S W v v) {L : List Wy} (hL : L = []) : GoP w B S W An nn cn At nt ct ns t g a left v xs b L (.returned (.bool false)) w1 :=
 .gone hL h.s h.way hc
theorem Sta.stay (h : Sta w1 B S W An nn cn At nt ct ns t g a left v xs b pv p l) (hc : Chm w w1 S W v v) {L : List Wy} (hL : L = [(l,p)]) : GoP w B S W An nn cn At nt ct ns t g a left v xs b L (.returned (.bool true)) w1:=by
 subst hL
 exact .goes (ys:=[]) (by rw [List.append_nil];exact h) hc (Nat.zero_le _) (by simp)
theorem Sta.c1 (h : Sta w B S W An nn cn At nt ct ns t g a left v xs b pv p l) : w.cell? ⟨S,1,none⟩ = some (.slice At nt ct):=h.s.held.at_ rfl
theorem Sta.c0 (h : Sta w B S W An nn cn At nt ct ns t g a left v xs b pv p l) : w.cell? ⟨S,0,none⟩ = some (.slice An nn cn):=h.s.held.at_ rfl
theorem Sta.c3 (h : Sta w B S W An nn cn At nt ct ns t g a left v xs b pv p l) : w.cell? ⟨S,3,none⟩ = some (.int .i64 (left : Int)):=h.s.held.at_ rfl
theorem Sta.c4 (h : Sta w B S W An nn cn At nt ct ns t g a left v xs b pv p l) : w.cell? ⟨S,4,none⟩ = some v:=h.s.held.at_ rfl
theorem Sta.p0 (h : Sta w B S W An nn cn At nt ct ns t g a left v xs b pv p l) : w.cell? ⟨W,0,none⟩ = some (.int .i64 (p.i : Int)):=h.way.at_ rfl
theorem Sta.p21 (h : Sta w B S W An nn cn At nt ct ns t g a left v xs b pv p l) : w.cell? ⟨W,21,none⟩ = some pv:=h.way.at_ rfl
theorem Sta.byte (h : Sta w B S W An nn cn At nt ct ns t g a left v xs b pv p l) {k : Nat} (hk : k < t.length) : ∃ ad,At = some ad ∧ w.cell? (ad.add k) = some (.int .u8 ((t[k]'hk).toNat : Int)):=by
 obtain ⟨ad,h1,h2,h3⟩:=h.s.thru.byt.at_ hk
 exact ⟨ad,h1,h3⟩
theorem set_cells4 {w : World} {G : Nat} {f : Nat → Bool} (h : SetAt w G f) : w.cell? ⟨G,0,none⟩ = some (.int .u64 ((wd f 0 : Nat) : Int)) ∧ w.cell? ⟨G,1,none⟩ = some (.int .u64 ((wd f 1 : Nat) : Int)) ∧ w.cell? ⟨G,2,none⟩ = some (.int .u64 ((wd f 2 : Nat) : Int)) ∧ w.cell? ⟨G,3,none⟩ = some (.int .u64 ((wd f 3 : Nat) : Int)) :=
 ⟨h.cell 0 (by decide),h.cell 1 (by decide),h.cell 2 (by decide),h.cell 3 (by decide)⟩
theorem takesByte_any (f : Nat → Bool) (h : Sta w B S W An nn cn At nt ct ns t g a left v xs b pv p l) (hi : p.i ≤ t.length) :
    Calls Try.prog 57 #[.pointer (some ⟨S,0,none⟩),.pointer (some ⟨W,0,none⟩),setV f] w (GoP w B S W An nn cn At nt ct ns t g a left v xs b (match t[p.i]? with | some c => if f c.toNat = true then [(l,⟨p.i + 1,p.sp⟩)] else [] | none => [])):=by
 have hnt:=h.s.thru.nt_
 have htc:=h.s.thru.tc
 have htm:=h.s.thru.tm
 have htl:=h.s.thru.tl
 have hb0:=lhi ((Below.refl w.heap.size w).alloc (nlr _) (.cells (setC f) 51))
 have h0:=h.keep hb0.out
 have c1:=h0.c1
 have p0:=h0.p0
 have tW:=h0.way.thawed 0
 unfold maxLen at htm
 by_cases hlt : p.i < t.length
 · obtain ⟨ad,rfl,hcb⟩:=h0.byte hlt
   rw [List.getElem?_eq_getElem hlt]
   dsimp only
   have hc8 : (t[p.i]'hlt).toNat < 256:=UInt8.toNat_lt _
   generalize (t[p.i]'hlt).toNat = c at *
   have hH:=lhi (fun w => has_any f c w hc8)
   have hs0:=lhi (set_new w f)
   have hz:=set_cells4 hs0.out
   have hg1:=lhi (show ((p.i : Int) == (nt : Int)) = false ∧ (p.i == nt) = false ∧ ¬ p.i = nt from ⟨by rw [bef];omega,by rw [bef];omega,by omega⟩)
   replace hnt:=lhi hnt
   replace htc:=lhi htc
   replace htm:=lhi htm
   replace hlt:=lhi hlt
   replace hi:=lhi hi
   have i0 : (0 : Int) ≤ (p.i : Int):=by omega
   have i1 : (p.i : Int) < (nt : Int):=by have:=hlt.out;have:=hnt.out;omega
   have hw1 : IntKind.i64.wrap ((p.i : Int) + 1) = (p.i : Int) + 1:=IntWalk.i64_in _ (by have:=hlt.out;have:=hnt.out;omega)
   have hSl:=h.s.held.lt
   have hWl:=h.way.lt
   have hGo:=lhi (fun w' (hb : Below w.heap.size w w') => (h.keep hb).goto (Chm.of_below hb) (j:=p.i + 1) (z:=(p.i : Int) + 1) (by omega) rfl)
   have hGn:=lhi (fun w' (hb : Below w.heap.size w w') => (h.keep hb).gone (Chm.of_below hb) rfl)
   have hadb : ad.block < w.heap.size + 1:=by have:=World.block_lt_of_cell? _ _ hcb;rw [block_add] at this;simpa using this
   have hK:=lhi (fun w' (hb : Below (w.heap.size + 1) (w.alloc (.cells (setC f) 51)) w') =>
    show ((w'.cell? ⟨w.heap.size,0,none⟩ = some (.int .u64 ((wd f 0 : Nat) : Int)) ∧ w'.cell? ⟨w.heap.size,1,none⟩ = some (.int .u64 ((wd f 1 : Nat) : Int)) ∧ w'.cell? ⟨w.heap.size,2,none⟩ = some (.int .u64 ((wd f 2 : Nat) : Int)) ∧ w'.cell? ⟨w.heap.size,3,none⟩ = some (.int .u64 ((wd f 3 : Nat) : Int)) ∧ w'.cell? ⟨S,1,none⟩ = some (.slice (some ad) nt ct) ∧ w'.cell? ⟨W,0,none⟩ = some (.int .i64 (p.i : Int)) ∧ w'.cell? (ad.add p.i) = some (.int .u8 (c : Int))) ∧ w'.frozen? ⟨W,0,none⟩ = false ∧ Below w.heap.size w w') from by
     have hbb : Below w.heap.size w w':=hb0.out.trans (hb.mono (Nat.le_succ _))
     have q:=h.keep hbb
     have ⟨z0,z1,z2,z3⟩:=set_cells4 (hs0.out.below hb (Nat.lt_succ_self _))
     exact ⟨⟨z0,z1,z2,z3,q.c1,q.p0,(hb.cell (p:=ad.add p.i) (by rw [block_add];exact hadb)).trans hcb⟩,q.way.thawed 0,hbb⟩)
   unfold setV setC at hH
   unfold setC at hK
   have hK0:=lhi (hK.out _ ((Below.refl _ _).drew))
   generalize hr : f c = r at *
   replace hr:=lhi hr
   generalize hL : (if r = true then [(l,(⟨p.i + 1,p.sp⟩ : Pt))] else []) = L
   replace hL:=lhi hL
   have hzz:=hz
   clear h h0 hs0 hb0 hz hadb
   obtain ⟨z0,z1,z2,z3⟩:=hzz
   unfold setC at z0 z1 z2 z3 hcb c1 p0 tW
   show Calls Try.prog 57 #[.pointer (some ⟨S,0,none⟩),.pointer (some ⟨W,0,none⟩),.agg #[.int .u64 ((wd f 0 : Nat) : Int),.int .u64 ((wd f 1 : Nat) : Int),.int .u64 ((wd f 2 : Nat) : Int),.int .u64 ((wd f 3 : Nat) : Int)]] w _
   generalize ((wd f 0 : Nat) : Int) = s0 at *
   generalize ((wd f 1 : Nat) : Int) = s1 at *
   generalize ((wd f 2 : Nat) : Int) = s2 at *
   generalize ((wd f 3 : Nat) : Int) = s3 at *
   go_enter Try.func57,Try.ntmps57
   go_wp2
   have ⟨g1,g2,g3⟩:=hg1.out
   go_region_held3 (fun w' => w'.cell? ⟨w.heap.size,0,none⟩ = some (.int .u64 s0) ∧ w'.cell? ⟨w.heap.size,1,none⟩ = some (.int .u64 s1) ∧ w'.cell? ⟨w.heap.size,2,none⟩ = some (.int .u64 s2) ∧ w'.cell? ⟨w.heap.size,3,none⟩ = some (.int .u64 s3) ∧ w'.cell? ⟨S,1,none⟩ = some (.slice (some ad) nt ct) ∧ w'.cell? ⟨W,0,none⟩ = some (.int .i64 (p.i : Int)) ∧ w'.cell? (ad.add p.i) = some (.int .u8 (c : Int)))
    (first | with_reducible exact hK0.out.1 | with_reducible exact hK3.out | go_keep)
    (first
    | (go_at_call 60;refine (hH.out _).mono ?_;rintro e w3 ⟨rfl,hb3⟩;have hk:=hK.out w3 (((Below.refl _ _).drew).trans (hb3.mono (by simp)));have hK3:=lhi hk.1;have hb3':=lhi hk.2.2;have p03:=hk.1.2.2.2.2.2.1;have t03:=hk.2.1;clear hk hb3))
   clear hH hK hK0 z0 z1 z2 z3 c1 p0 tW hcb
   cases r with
   | false =>
    go_wp2
    go_ret
    exact (hGn.out _ hb3'.out).cast (by rw [← hL.out];rfl)
   | true =>
    go_wp2
    go_ret
    exact (hGo.out _ hb3'.out).cast (by rw [← hL.out];rfl)
 · have hge : t.length ≤ p.i:=by omega
   rw [List.getElem?_eq_none hge]
   dsimp only
   have hg1:=lhi (show ((p.i : Int) == (nt : Int)) = true ∧ (p.i == nt) = true from ⟨by rw [beq_iff_eq];omega,by rw [beq_iff_eq];omega⟩)
   replace hnt:=lhi hnt
   replace htc:=lhi htc
   replace htm:=lhi htm
   clear hlt hge hi htl
   have hGn:=lhi (fun w' (hb : Below w.heap.size w w') => (h.keep hb).gone (Chm.of_below hb) rfl)
   clear h h0
   show Calls Try.prog 57 #[.pointer (some ⟨S,0,none⟩),.pointer (some ⟨W,0,none⟩),.agg (setC f)] w _
   generalize setC f = cf at *
   go_enter Try.func57,Try.ntmps57
   go_wp2
   have ⟨g1,g2⟩:=hg1.out
   go_quiet (fail)
   go_wp2
   go_ret
   exact hGn.out _ (below_drewN hb0.out _)
end
end Go.Proofs.Ytbdfhmefjfaofaa
