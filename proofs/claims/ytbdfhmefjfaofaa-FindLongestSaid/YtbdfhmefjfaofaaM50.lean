/- Contracts and plain facts: M50. -/
import Derived.Test.YtbdfhmefjfaofaaM48
set_option linter.unusedVariables false
set_option linter.unusedSimpArgs false
set_option maxRecDepth 100000
set_option maxHeartbeats 32000000
namespace Go.Proofs.Ytbdfhmefjfaofaa
open Go.RowKit
theorem ptL_set (q : Pt) {d : Nat} (hd : d < 10) (x : Int × Int) : ptL ⟨q.i,setSp q.sp d x⟩ = ((ptL q).set (1 + d * 2) (.int .i64 x.1)).set (1 + d * 2 + 1) (.int .i64 x.2):=by
 have : d = 0 ∨ d = 1 ∨ d = 2 ∨ d = 3 ∨ d = 4 ∨ d = 5 ∨ d = 6 ∨ d = 7 ∨ d = 8 ∨ d = 9:=by omega
 rcases this with rfl | rfl | rfl | rfl | rfl | rfl | rfl | rfl | rfl | rfl <;> rfl
def RowJ (w : World) (A : Option Addr) (lo hi : Nat) (l : List Pt) (k : Nat) : Prop:=∀ j (hj : j < l.length),k ≤ j → ∃ G cur,A = some ⟨G,0,none⟩ ∧ lo ≤ G ∧ G < hi ∧ Held w G 71 cur ∧ ∀ i,i < 21 → cur[j * 21 + i]? = (ptL (l[j]'hj))[i]?
theorem RowJ.keep {w w' : World} {A : Option Addr} {lo hi k : Nat} {l : List Pt} (h : RowJ w A lo hi l k) (hb : Below w.heap.size w w') : RowJ w' A lo hi l k:=fun j hj hk => by
 obtain ⟨G,cur,h1,h2,h3,h4,h5⟩:=h j hj hk
 exact ⟨G,cur,h1,h2,h3,h4.keep hb,h5⟩
theorem Pts.rowJ {w : World} {b : Nat} {A : Option Addr} {n c : Nat} {l : List Pt} (h : Pts w b (.slice A n c) l) : RowJ w A b w.heap.size l 0:=fun j hj _ => by
 have hlen:=h.1
 rcases h.2 with ⟨_,h0⟩ | ⟨G,cap,cur,hv,hb,hg,hnc,hcm,hcs,htake⟩
 · omega
 · have hG : G < w.heap.size:=(World.ownsRow.lt h G (by rw [hv];rfl)).2
   refine ⟨G,cur,by injection hv,hb,hG,hg,fun i hi => ?_⟩
   rw [← ptsL_at l j hj i hi,← htake,List.getElem?_take_of_lt (by rw [ptsL_len] at hlen;omega)]
   simp
theorem RowJ.put {w : World} {lo hi k G : Nat} {l : List Pt} (h : RowJ w (some ⟨G,0,none⟩) lo hi l k) (hk : k < l.length) {d : Nat} (hd : d < 10) (x : Int × Int) :
    RowJ ((w.setCell ⟨G,k * 21 + 1 + d * 2,none⟩ (.int .i64 x.1)).setCell ⟨G,k * 21 + 1 + d * 2 + 1,none⟩ (.int .i64 x.2)) (some ⟨G,0,none⟩) lo hi l (k + 1) ∧
    ((w.setCell ⟨G,k * 21 + 1 + d * 2,none⟩ (.int .i64 x.1)).setCell ⟨G,k * 21 + 1 + d * 2 + 1,none⟩ (.int .i64 x.2)).rangeAt G (k * 21) (ptL ⟨(l[k]'hk).i,setSp (l[k]'hk).sp d x⟩):=by
 refine ⟨fun j hj hkj => ?_,fun i u hi => ?_⟩
 · obtain ⟨G',cur,h1,h2,h3,h4,h5⟩:=h j hj (by omega)
   cases h1
   refine ⟨G,_,rfl,h2,h3,(h4.put _ _).put _ _,fun i hi => ?_⟩
   rw [Array.getElem?_setIfInBounds,if_neg (by omega),Array.getElem?_setIfInBounds,if_neg (by omega)]
   exact h5 i hi
 · obtain ⟨G',cur,h1,h2,h3,h4,h5⟩:=h k hk (nlr _)
   cases h1
   have hL:=ptL_len (l[k]'hk)
   have hlt : ∀ i,i < 21 → k * 21 + i < cur.size:=fun i hi => by
    have:=h5 i hi
    rw [List.getElem?_eq_getElem (by omega)] at this
    exact (Array.getElem?_eq_some_iff.1 this).1
   have hi21 : i < 21:=by have:=(List.getElem?_eq_some_iff.1 hi).1;rwa [ptL_len] at this
   refine ((h4.put _ _).put _ _).at_ ?_
   rw [ptL_set _ hd] at hi
   rw [← hi,Array.getElem?_setIfInBounds,List.getElem?_set,Array.getElem?_setIfInBounds,List.getElem?_set]
   have b1:=hlt (1 + d * 2) (by omega)
   have b2:=hlt (1 + d * 2 + 1) (by omega)
   by_cases e1 : i = 1 + d * 2 + 1
   · subst e1
     rw [if_pos (by omega),if_pos rfl,if_pos (by simp;omega),if_pos (by simp;omega)]
   · rw [if_neg (show ¬ k * 21 + 1 + d * 2 + 1 = k * 21 + i by omega),if_neg (show ¬ 1 + d * 2 + 1 = i by omega)]
     by_cases e2 : i = 1 + d * 2
     · subst e2
       rw [if_pos (by omega),if_pos rfl,if_pos (by omega),if_pos (by omega)]
     · rw [if_neg (by omega),if_neg (by omega)]
       exact h5 i hi21
def SR5 (H H1 H2 : Nat) (RE CP CN : Array Value) (G o : Nat) (x : Value) (w' : World) : Prop:=SRe H H1 H2 RE CP CN w' ∧ w'.cell? ⟨G,o,none⟩ = some x
section
variable {w w' w1 : World} {B : Nat} {An : Option Addr} {nn cn : Nat} {At : Option Addr} {nt ct : Nat} {ns : List Nod} {t : List UInt8} {g : Int} {a : Nat} {D : Nat} {p : Pt} {F : Int → Pt → Prop}
theorem reach_5 (m : Nat) (hW : ReachOK B An nn cn At nt ct ns t g a F m) (h : Thru w B An nn cn At nt ct ns t g) (hm : m < ns.length) (hp : POK ns t g a p) (hk : (ndA ns (m : Int)).kind = 5) (hF : Bnd ns t F) (hst : F (m : Int) p) :
    Calls Try.prog 26 #[.agg #[.slice An nn cn,.int .i64 g],.slice At nt ct,.int .i64 (m : Int),.agg (ptC p)] w (RchQ w ns t m p):=by
 obtain ⟨N0,N1,N2,N3,N4,N5⟩:=nod_at (ndA ns (m : Int))
 rw [hk] at N0
 have hkh:=lhi hk
 have htx:=lhi (show nt = t.length ∧ nt ≤ 1000000 ∧ p.i ≤ t.length from ⟨h.nt_,h.tl,hp.hi⟩)
 have hmn : m < nn:=by have:=h.nn_;omega
 have hmI0 : (0 : Int) ≤ (m : Int):=by omega
 have hmI1 : (m : Int) < (nn : Int):=by omega
 have hph:=lhi hp
 have hThr:=lhi h
 have hrt:=h.rt
 obtain ⟨ha0,ha1⟩:=(hrt.2.2 (m : Int) (by omega) (by omega)).2.2.1 (.inr hk)
 obtain ⟨hd0,hd1⟩:=(hrt.2.2 (m : Int) (by omega) (by omega)).2.2.2.2 (.inl hk)
 have hg9:=hrt.2.1
 obtain ⟨ka,hka⟩:=Int.eq_ofNat_of_zero_le ha0
 obtain ⟨d,hd⟩:=Int.eq_ofNat_of_zero_le (show 0 ≤ (ndA ns (m : Int)).grp by omega)
 have hd10 : d < 10:=by omega
 have j1 : (d : Int) < 10:=by omega
 have j0 : (0 : Int) ≤ (d : Int):=by omega
 have hal : ka < ns.length:=by omega
 have hSa:=hF.grp hk hst
 rw [hka] at N1 hSa
 rw [hd] at N5
 have hCa:=lhi (fun (w' : World) (hb : Below w.heap.size w w') => show Calls Try.prog 26 #[.agg #[.slice An nn cn,.int .i64 g],.slice At nt ct,.int .i64 (ka : Int),.agg (ptC p)] w' (RchQ w' ns t ka p) from hW w' ka p (h.below (hb.mono h.base)) hal hp hSa (by omega))
 have hrl:=lhi (fun q => show Rel ns t (.node (m : Int)) p q ↔ ∃ x,Rel ns t (.node (ka : Int)) p x ∧ q = ⟨x.i,setSp x.sp d ((p.i : Int),(x.i : Int))⟩ from by rw [rel_grp hk,hka,hd];rfl)
 have hlen:=lhi (fun (l : List Pt) (hn : l.Nodup) (hl : ∀ q ∈ l,Rel ns t (.node (m : Int)) p q) => show l.length ≤ 500000000000 from hF.few hst l hn hl)
 have hla:=lhi (fun (l : List Pt) (hl : Rch ns t (ka : Int) p l) => show l.length ≤ 500000000000 from hF.rch hSa hl)
 have hnr:=lhi (fun q (hq : Rel ns t (.node (m : Int)) p q) => show Nrm q from POK.nrm hrt (hp.rel hrt (by omega) (by omega) hq))
 clear hW hst hSa hrt ha0 ha1 hd0 hd1 hF hg9
 obtain ⟨ad,bb,oo,rfl,hpp,hbb,hrn⟩:=h.node' hm
 have hrN:=lhi (fun w' (hb : Below w.heap.size w w') => range_below hrn (hb.mono h.base) hbb)
 have hb2:=lhi (((Below.refl w.heap.size w).alloc (nlr _) (.cells #[.slice (some ad) nn cn,.int .i64 g] 24)).alloc (by simp) (.cells (ptC p) 71))
 have hR2:=lhi (show Held _ w.heap.size 24 #[.slice (some ad) nn cn,.int .i64 g] from (held_new w 24 #[.slice (some ad) nn cn,.int .i64 g]).alloc (.cells (ptC p) 71))
 have hP2:=lhi (show Held _ (w.heap.size + 1) 71 (ptC p) from held_new2 w (.cells #[.slice (some ad) nn cn,.int .i64 g] 24) 71 (ptC p))
 have hl2:=lhi (show ((w.alloc (.cells #[.slice (some ad) nn cn,.int .i64 g] 24)).alloc (.cells (ptC p) 71)).heap.size = w.heap.size + 1 + 1 by simp)
 have hPs:=lhi (show (Try.prog.info? 71).map (·.size) = some (ptC p).size by rw [ptC_size];exact size_pt)
 have hP0 : (ptC p)[0]? = some (.int .i64 (p.i : Int)):=rfl
 have hNl:=lhi (nod_size (ndA ns (m : Int)))
 have hNo:=lhi (nod_cells (ndA ns (m : Int)))
 replace hrn:=lhi hrn
 clear h hp hbb
 generalize hcp : ptC p = CP at *
 replace hcp:=lhi hcp
 replace hk:=lhi hk
 go_enter Try.func26,Try.ntmps26
 go_upto_region 1 with fail
 generalize (w.alloc (.cells #[.slice (some ad) nn cn,.int .i64 g] 24)).alloc (.cells CP 71) = w2 at *
 have r0 : w2.cell? ⟨w.heap.size,0,none⟩ = some (.slice (some ad) nn cn):=hR2.out.at_ rfl
 have hr2:=lhi (hrN.out w2 hb2.out)
 have hnull:=lhi (held_new w2 54 #[.int .i64 0,.int .i64 0,.int .i64 0,.int .i64 0,.int .i64 0,.int .i64 0,.int .u64 0,.int .u64 0,.int .u64 0,.int .u64 0])
 go_upto_region 2 with (first
  | (refine wpList_load_mid rfl 54 (.tmp 23) rfl bb oo rfl (nodL (ndA ns (m : Int))) _ hr2.out Try.underlying54 rfl (by rw [nodL_len];kernel_rfl) ?_)
  | (refine wpList_store_row rfl 54 (.tmp 9) (.tmp 24) rfl w2.heap.size (nodC (ndA ns (m : Int))) rfl rfl 54 _ hnull.out hNl.out rfl hNo.out ?_))
 have hb3:=lhi (below_row (hb2.out.alloc hb2.out.size (.cells #[.int .i64 0,.int .i64 0,.int .i64 0,.int .i64 0,.int .i64 0,.int .i64 0,.int .u64 0,.int .u64 0,.int .u64 0,.int .u64 0] 54)) hb2.out.size (nodC (ndA ns (m : Int))))
 have hl3:=lhi (show w.heap.size ≠ w2.heap.size ∧ w.heap.size + 1 ≠ w2.heap.size by have:=hl2.out;omega)
 have hS3:=lhi (show SRe w.heap.size (w.heap.size + 1) w2.heap.size #[.slice (some ad) nn cn,.int .i64 g] CP (nodC (ndA ns (m : Int))) ((w2.alloc (.cells #[.int .i64 0,.int .i64 0,.int .i64 0,.int .i64 0,.int .i64 0,.int .i64 0,.int .u64 0,.int .u64 0,.int .u64 0,.int .u64 0] 54)).setRow w2.heap.size (nodC (ndA ns (m : Int)))) from
  ⟨(hR2.out.alloc _).row_far (by have:=hl3.out;omega) _,(hP2.out.alloc _).row_far (by have:=hl3.out;omega) _,hnull.out.row _⟩)
 generalize (w2.alloc (.cells #[.int .i64 0,.int .i64 0,.int .i64 0,.int .i64 0,.int .i64 0,.int .i64 0,.int .u64 0,.int .u64 0,.int .u64 0,.int .u64 0] 54)).setRow w2.heap.size (nodC (ndA ns (m : Int))) = w3 at *
 generalize w2.heap.size = H2 at *
 generalize hH1 : w.heap.size + 1 = H1 at *
 clear hb2 hR2 hP2 hr2 hnull r0 hNl hNo hrN hrn hl2 hl3
 generalize hcn : nodC (ndA ns (m : Int)) = CN at *
 replace hcn:=lhi hcn
 replace hH1:=lhi hH1
 have k0 : w3.cell? ⟨H2,0,none⟩ = some (.int .i64 5):=hS3.out.2.2.at_ N0
 have r0 : w3.cell? ⟨w.heap.size,0,none⟩ = some (.slice (some ad) nn cn):=hS3.out.1.at_ rfl
 have r1 : w3.cell? ⟨w.heap.size,1,none⟩ = some (.int .i64 g):=hS3.out.1.at_ rfl
 have k1 : w3.cell? ⟨H2,1,none⟩ = some (.int .i64 (ka : Int)):=hS3.out.2.2.at_ N1
 go_upto_region 32 with (first
  | (refine wpList_load_row rfl 71 (.tmp 7) rfl H1 rfl 71 _ (0,0) _ hS3.out.2.1 Try.underlying71 rfl hPs.out ?_)
  | (go_at_call 26;refine (hCa.out w3 hb3.out).mono ?_;rintro e w4 ⟨⟨va,la,rfl,hRa,hPa⟩,hb4'⟩))
 have hb4:=lhi hb4'
 have hS4:=lhi (hS3.out.below hb4.out)
 have hB4:=lhi (hb3.out.trans (hb4.out.mono hb3.out.size))
 have hz3:=lhi (show w.heap.size ≤ w3.heap.size ∧ w.heap.size < w3.heap.size ∧ H1 < w3.heap.size ∧ H2 < w3.heap.size from ⟨hb3.out.size,hS3.out.1.lt,hS3.out.2.1.lt,hS3.out.2.2.lt⟩)
 have hla4:=hla.out la hRa
 replace hRa:=lhi hRa
 clear hb4' r0 r1 k0 k1 hS3
 obtain ⟨Aa,ca',rfl,_⟩:=hPa.prow
 have hJ4:=lhi (hPa.rowJ)
 generalize hna : la.length = na at *
 replace hna:=lhi hna
 have N5h:=lhi N5
 have hP0h:=lhi hP0
 clear N0 N1 N2 N3 N4 N5 hP0 hPa
 go_wp2
 go_loopw [10,18] (fun v i wr => ∃ (v0 : Value) (k : Nat) (l : List Pt),v0 = v ∧ k ≤ na ∧ i = .int .i64 (k : Int) ∧ Pts wr w4.heap.size v l ∧ l.Nodup ∧ (∀ q,q ∈ l ↔ ∃ x ∈ la.take k,q = ⟨x.i,setSp x.sp d ((p.i : Int),(x.i : Int))⟩) ∧ RowJ wr Aa w3.heap.size w4.heap.size la k ∧ SRe w.heap.size H1 H2 #[.slice (some ad) nn cn,.int .i64 g] CP CN wr ∧ w4.heap.size ≤ wr.heap.size ∧ Below w.heap.size w wr) (fun _ i _ => na - (intOf i).toNat)
 case atStart => exact ⟨_,0,[],rfl,Nat.zero_le _,rfl,Pts.nil _ _,List.nodup_nil,fun q => by simp,hJ4.out,hS4.out,nlr _,hB4.out⟩
 case round =>
  obtain ⟨v,k,l,rfl,hk',rfl,hPl,hnd,hmem,hJ,hS,hsz,hbr⟩:=hrel
  have hPl0:=lhi hPl
  have hnd0:=lhi hnd
  have hmem0:=lhi hmem
  have hbr0:=lhi hbr
  have hJ0:=lhi hJ
  have hS0:=lhi hS
  have hsz0:=lhi hsz
  clear hPl hnd hmem hbr hJ hS hsz
  by_cases hlt : k < na
  · have hkx : k < la.length:=by rw [hna.out];exact hlt
    obtain ⟨G,cur,rfl,hGl,hGh,hGH,hcur⟩:=hJ0.out k hkx (nlr _)
    have hxr : Rel ns t (.node (ka : Int)) p (la[k]'hkx):=(hRa.out.2 _).1 (List.getElem_mem hkx)
    have hqr : Rel ns t (.node (m : Int)) p ⟨(la[k]'hkx).i,setSp (la[k]'hkx).sp d ((p.i : Int),((la[k]'hkx).i : Int))⟩:=(hrl.out _).2 ⟨_,hxr,rfl⟩
    have hlr : ∀ q ∈ l,Rel ns t (.node (m : Int)) p q:=fun q hq => by
     obtain ⟨x,hx,hq⟩:=(hmem0.out q).1 hq
     exact (hrl.out q).2 ⟨x,(hRa.out.2 _).1 (List.mem_of_mem_take hx),hq⟩
    have hCw:=lhi (fun (w' : World) (h1 : w4.heap.size ≤ w'.heap.size) (h2 : Pts w' w4.heap.size v l) => show Calls Try.prog 39 #[v,.agg (ptL ⟨(la[k]'hkx).i,setSp (la[k]'hkx).sp d ((p.i : Int),((la[k]'hkx).i : Int))⟩).toArray] w' fun e w2 => (∃ v' l',e = .returned v' ∧ PutP l ⟨(la[k]'hkx).i,setSp (la[k]'hkx).sp d ((p.i : Int),((la[k]'hkx).i : Int))⟩ l' ∧ Pts w2 w4.heap.size v' l') ∧ Below w'.heap.size w' w2 from
     rwith_any w4.heap.size v l _ w' h1 h2 (hnr.out _ hqr) (fun q hq => hnr.out q (hlr q hq)) (hlen.out l hnd0.out hlr))
    have hLl:=lhi (ptL_len ⟨(la[k]'hkx).i,setSp (la[k]'hkx).sp d ((p.i : Int),((la[k]'hkx).i : Int))⟩)
    have htk : la.take (k + 1) = la.take k ++ [la[k]'hkx]:=by rw [List.take_add_one,List.getElem?_eq_getElem hkx];rfl
    replace htk:=lhi htk
    have hcx:=fun i (hi : i < 21) => hcur i hi
    have c0 : wr.drew.cell? ⟨G,k * 21,none⟩ = some (.int .i64 ((la[k]'hkx).i : Int)):=hGH.at_ (hcx 0 (by omega))
    have hge : ∀ i,i < 21 → ∃ z,wr.drew.cell? ⟨G,k * 21 + i,none⟩ = some z:=fun i hi => by
     have h1:=hcx i hi
     rw [List.getElem?_eq_getElem (by rw [ptL_len];exact hi)] at h1
     exact ⟨_,hGH.at_ h1⟩
    obtain ⟨u0,z0'⟩:=hge (1 + d * 2) (by omega)
    obtain ⟨u1,z1'⟩:=hge (1 + d * 2 + 1) (by omega)
    have z0 : wr.drew.cell? ⟨G,k * 21 + 1 + d * 2,none⟩ = some u0:=by rw [show k * 21 + 1 + d * 2 = k * 21 + (1 + d * 2) by omega];exact z0'
    have z1 : wr.drew.cell? ⟨G,k * 21 + 1 + d * 2 + 1,none⟩ = some u1:=by rw [show k * 21 + 1 + d * 2 + 1 = k * 21 + (1 + d * 2 + 1) by omega];exact z1'
    have y0 : wr.drew.frozen? ⟨G,k * 21 + 1 + d * 2,none⟩ = false:=hGH.thawed _
    have y1 : wr.drew.frozen? ⟨G,k * 21 + 1 + d * 2 + 1,none⟩ = false:=hGH.thawed _
    have hput:=lhi (show RowJ _ _ _ _ _ _ ∧ World.rangeAt _ _ _ _ from RowJ.put (w:=wr.drew) hJ0.out hkx hd10 ((p.i : Int),((la[k]'hkx).i : Int)))
    have hB6:=lhi (show Below w.heap.size w ((wr.drew.setCell ⟨G,k * 21 + 1 + d * 2,none⟩ (.int .i64 (p.i : Int))).setCell ⟨G,k * 21 + 1 + d * 2 + 1,none⟩ (.int .i64 ((la[k]'hkx).i : Int))) from
     ((below_drewN hbr0.out 1).setCell (p:=⟨G,k * 21 + 1 + d * 2,none⟩) (Nat.le_trans hz3.out.1 hGl) _).setCell (p:=⟨G,k * 21 + 1 + d * 2 + 1,none⟩) (Nat.le_trans hz3.out.1 hGl) _)
    have hfar:=lhi (show w.heap.size ≠ G ∧ H1 ≠ G ∧ H2 ≠ G by have:=hz3.out;omega)
    have hS6:=lhi (show SRe w.heap.size H1 H2 #[.slice (some ad) nn cn,.int .i64 g] CP CN ((wr.drew.setCell ⟨G,k * 21 + 1 + d * 2,none⟩ (.int .i64 (p.i : Int))).setCell ⟨G,k * 21 + 1 + d * 2 + 1,none⟩ (.int .i64 ((la[k]'hkx).i : Int))) from
     ⟨((hS0.out.1.drew).far (a:=⟨G,_,none⟩) hfar.out.1 _).far (a:=⟨G,_,none⟩) hfar.out.1 _,((hS0.out.2.1.drew).far (a:=⟨G,_,none⟩) hfar.out.2.1 _).far (a:=⟨G,_,none⟩) hfar.out.2.1 _,((hS0.out.2.2.drew).far (a:=⟨G,_,none⟩) hfar.out.2.2 _).far (a:=⟨G,_,none⟩) hfar.out.2.2 _⟩)
    have hP6:=lhi (show Pts ((wr.drew.setCell ⟨G,k * 21 + 1 + d * 2,none⟩ (.int .i64 (p.i : Int))).setCell ⟨G,k * 21 + 1 + d * 2 + 1,none⟩ (.int .i64 ((la[k]'hkx).i : Int))) w4.heap.size v l from
     ownsRow_setCell_below (ownsRow_setCell_below (show Pts wr.drew w4.heap.size v l from hPl0.out) (a:=⟨G,_,none⟩) hGh _) (a:=⟨G,_,none⟩) hGh _)
    have hc6:=lhi (show ((wr.drew.setCell ⟨G,k * 21 + 1 + d * 2,none⟩ (.int .i64 (p.i : Int))).setCell ⟨G,k * 21 + 1 + d * 2 + 1,none⟩ (.int .i64 ((la[k]'hkx).i : Int))).cell? ⟨G,k * 21,none⟩ = some (.int .i64 ((la[k]'hkx).i : Int)) from hput.out.2 0 _ rfl)
    have hsz6:=lhi (show w4.heap.size ≤ ((wr.drew.setCell ⟨G,k * 21 + 1 + d * 2,none⟩ (.int .i64 (p.i : Int))).setCell ⟨G,k * 21 + 1 + d * 2 + 1,none⟩ (.int .i64 ((la[k]'hkx).i : Int))).heap.size by simpa using hsz0.out)
    have hSd:=lhi (show SR5 w.heap.size H1 H2 #[.slice (some ad) nn cn,.int .i64 g] CP CN G (k * 21) (.int .i64 ((la[k]'hkx).i : Int)) wr.drew from ⟨hS0.out,c0⟩)
    have hkI : (k : Int) < (na : Int):=by omega
    have hw2 : IntKind.i64.wrap ((k : Int) + 1) = (k : Int) + 1:=IntWalk.i64_in _ (by omega)
    clear hge z0' z1' hcx hcur hGH hxr hqr hlr
    generalize hq : la[k]'hkx = xk at *
    replace hq:=lhi hq
    replace hGl:=lhi hGl
    replace hGh:=lhi hGh
    go_wp2
    refine wp_region_held_drew (S:=SR5 w.heap.size H1 H2 #[.slice (some ad) nn cn,.int .i64 g] CP CN G (k * 21) (.int .i64 (xk.i : Int))) (by kernel_rfl) hSd.out (fun hS => ?_)
    generalize wr.drew = wd at *
    refine wpAnyH_take (i:=0) (v:=?_) rfl (by kernel_rfl) (by kernel_rfl) (by kernel_rfl) (fun _ _ _ h => h) (Or.inl ⟨by rfl,?_⟩) hS ?_
    rotate_left
    · (intro w' hS';go_simp;try with_reducible rfl)
    (try simp only [Act.put,List.getElem_toArray,List.getElem_cons_zero,List.getElem_cons_succ,List.setIfInBounds_toArray,List.set_cons_zero,List.set_cons_succ])
    refine wpAnyH_take (i:=1) (v:=?_) rfl (by kernel_rfl) (by kernel_rfl) (by kernel_rfl) (fun _ _ _ h => h) (Or.inl ⟨by rfl,?_⟩) hS ?_
    rotate_left
    · (intro w' hS';go_simp;try with_reducible rfl)
    (try simp only [Act.put,List.getElem_toArray,List.getElem_cons_zero,List.getElem_cons_succ,List.setIfInBounds_toArray,List.set_cons_zero,List.set_cons_succ])
    refine wpAnyH_take (i:=2) (v:=?_) rfl (by kernel_rfl) (by kernel_rfl) (by kernel_rfl) (fun _ _ _ h => h) (Or.inl ⟨by rfl,?_⟩) hS ?_
    rotate_left
    · (intro w' hS';go_simp;try with_reducible rfl)
    (try simp only [Act.put,List.getElem_toArray,List.getElem_cons_zero,List.getElem_cons_succ,List.setIfInBounds_toArray,List.set_cons_zero,List.set_cons_succ])
    refine wpAnyH_take (i:=3) (v:=?_) rfl (by kernel_rfl) (by kernel_rfl) (by kernel_rfl) (fun _ _ _ h => h) (Or.inl ⟨by rfl,?_⟩) hS ?_
    rotate_left
    · (intro w' hS';have ha : w'.cell? ⟨H2,5,none⟩ = some (.int .i64 (d : Int)):=hS'.1.2.2.at_ N5h.out;go_simp;try with_reducible rfl)
    (try simp only [Act.put,List.getElem_toArray,List.getElem_cons_zero,List.getElem_cons_succ,List.setIfInBounds_toArray,List.set_cons_zero,List.set_cons_succ])
    refine wpAnyH_take (i:=4) (v:=?_) rfl (by kernel_rfl) (by kernel_rfl) (by kernel_rfl) (fun _ _ _ h => h) (Or.inl ⟨by rfl,?_⟩) hS ?_
    rotate_left
    · (intro w' hS';go_simp;try with_reducible rfl)
    (try simp only [Act.put,List.getElem_toArray,List.getElem_cons_zero,List.getElem_cons_succ,List.setIfInBounds_toArray,List.set_cons_zero,List.set_cons_succ])
    refine wpAnyH_take (i:=5) (v:=?_) rfl (by kernel_rfl) (by kernel_rfl) (by kernel_rfl) (fun _ _ _ h => h) (Or.inl ⟨by rfl,?_⟩) hS ?_
    rotate_left
    · (intro w' hS';have ha : w'.cell? ⟨H1,0,none⟩ = some (.int .i64 (p.i : Int)):=hS'.1.2.1.at_ hP0h.out;go_simp;try with_reducible rfl)
    (try simp only [Act.put,List.getElem_toArray,List.getElem_cons_zero,List.getElem_cons_succ,List.setIfInBounds_toArray,List.set_cons_zero,List.set_cons_succ])
    refine wpAnyH_take (i:=6) (v:=?_) rfl (by kernel_rfl) (by kernel_rfl) (by kernel_rfl) (fun _ _ _ h => h) (Or.inl ⟨by rfl,?_⟩) hS ?_
    rotate_left
    · (intro w' hS';go_simp;try with_reducible rfl)
    (try simp only [Act.put,List.getElem_toArray,List.getElem_cons_zero,List.getElem_cons_succ,List.setIfInBounds_toArray,List.set_cons_zero,List.set_cons_succ])
    refine wpAnyH_take (i:=7) (v:=?_) rfl (by kernel_rfl) (by kernel_rfl) (by kernel_rfl) (fun _ _ _ h => h) (Or.inl ⟨by rfl,?_⟩) hS ?_
    rotate_left
    · (intro w' hS';go_simp;try with_reducible rfl)
    (try simp only [Act.put,List.getElem_toArray,List.getElem_cons_zero,List.getElem_cons_succ,List.setIfInBounds_toArray,List.set_cons_zero,List.set_cons_succ])
    refine wpAnyH_take (i:=8) (v:=?_) rfl (by kernel_rfl) (by kernel_rfl) (by kernel_rfl) (fun _ _ _ h => h) (Or.inl ⟨by rfl,?_⟩) hS ?_
    rotate_left
    · (intro w' hS';go_simp;try with_reducible rfl)
    (try simp only [Act.put,List.getElem_toArray,List.getElem_cons_zero,List.getElem_cons_succ,List.setIfInBounds_toArray,List.set_cons_zero,List.set_cons_succ])
    refine wpAnyH_take (i:=9) (v:=?_) rfl (by kernel_rfl) (by kernel_rfl) (by kernel_rfl) (fun _ _ _ h => h) (Or.inl ⟨by rfl,?_⟩) hS ?_
    rotate_left
    · (intro w' hS';go_simp;try with_reducible rfl)
    (try simp only [Act.put,List.getElem_toArray,List.getElem_cons_zero,List.getElem_cons_succ,List.setIfInBounds_toArray,List.set_cons_zero,List.set_cons_succ])
    refine wpAnyH_take (i:=10) (v:=?_) rfl (by kernel_rfl) (by kernel_rfl) (by kernel_rfl) (fun _ _ _ h => h) (Or.inl ⟨by rfl,?_⟩) hS ?_
    rotate_left
    · (intro w' hS';have ha:=hS'.2;go_simp;try with_reducible rfl)
    (try simp only [Act.put,List.getElem_toArray,List.getElem_cons_zero,List.getElem_cons_succ,List.setIfInBounds_toArray,List.set_cons_zero,List.set_cons_succ])
    refine wpAnyH_take (i:=11) (v:=?_) rfl (by kernel_rfl) (by kernel_rfl) (by kernel_rfl) (fun _ _ _ h => h) (Or.inl ⟨by rfl,?_⟩) hS ?_
    rotate_left
    · (intro w' hS';go_simp;try with_reducible rfl)
    (try simp only [Act.put,List.getElem_toArray,List.getElem_cons_zero,List.getElem_cons_succ,List.setIfInBounds_toArray,List.set_cons_zero,List.set_cons_succ])
    refine wpAnyH_take (i:=12) (v:=?_) rfl (by kernel_rfl) (by kernel_rfl) (by kernel_rfl) (fun _ _ _ h => h) (Or.inl ⟨by rfl,?_⟩) hS ?_
    rotate_left
    · (intro w' hS';go_simp;try with_reducible rfl)
    (try simp only [Act.put,List.getElem_toArray,List.getElem_cons_zero,List.getElem_cons_succ,List.setIfInBounds_toArray,List.set_cons_zero,List.set_cons_succ])
    refine wpAnyH_take (i:=13) (v:=?_) rfl (by kernel_rfl) (by kernel_rfl) (by kernel_rfl) (fun _ _ _ h => h) (Or.inl ⟨by rfl,?_⟩) hS ?_
    rotate_left
    · (intro w' hS';go_simp;try with_reducible rfl)
    (try simp only [Act.put,List.getElem_toArray,List.getElem_cons_zero,List.getElem_cons_succ,List.setIfInBounds_toArray,List.set_cons_zero,List.set_cons_succ])
    refine wpAnyH_take (i:=14) (v:=?_) rfl (by kernel_rfl) (by kernel_rfl) (by kernel_rfl) (fun _ _ _ h => h) (Or.inl ⟨by rfl,?_⟩) hS ?_
    rotate_left
    · (intro w' hS';go_simp;try with_reducible rfl)
    (try simp only [Act.put,List.getElem_toArray,List.getElem_cons_zero,List.getElem_cons_succ,List.setIfInBounds_toArray,List.set_cons_zero,List.set_cons_succ])
    refine wpAnyH_ready (rs:=[15]) (by kernel_rfl) (by simp) ?_
    refine AllReadyH.cons rfl (fun K hK => ?_) AllReadyH.nil
    go_simp
    refine hK.out _ _ ⟨hS6.out,hc6.out⟩ (fun _ => ?_)
    clear hK K
    (try simp only [Act.put,List.getElem_toArray,List.getElem_cons_zero,List.getElem_cons_succ,List.setIfInBounds_toArray,List.set_cons_zero,List.set_cons_succ])
    refine wpAnyH_done (by kernel_rfl) ?_ _
    generalize (wd.setCell ⟨G,k * 21 + 1 + d * 2,none⟩ (.int .i64 (p.i : Int))).setCell ⟨G,k * 21 + 1 + d * 2 + 1,none⟩ (.int .i64 (xk.i : Int)) = w6 at *
    clear c0 z0 z1 y0 y1 hS hSd
    have hrg:=lhi hput.out.2
    have hCw6:=lhi (hCw.out w6 hsz6.out hP6.out)
    go_wp2_with (first
     | (refine wpList_load_mid rfl 71 (.tmp 152) rfl G (k * 21) rfl (ptL ⟨xk.i,setSp xk.sp d ((p.i : Int),(xk.i : Int))⟩) _ hrg.out Try.underlying71 rfl (by rw [hLl.out];exact size_pt) ?_)
     | (go_at_call 39;refine hCw6.out.mono ?_;rintro e w9 ⟨⟨v',l',rfl,hpu,hP9⟩,hb9⟩))
    go_roundw
    case rel => exact ⟨_,k + 1,l',rfl,by omega,rfl,hP9,hpu.nodup hnd0.out,fun q => by
        rw [hpu.mem,hmem0.out,htk.out]
        simp only [List.mem_append,List.mem_singleton]
        constructor
        · rintro (⟨x,h1,h2⟩ | h2)
          · exact ⟨x,.inl h1,h2⟩
          · exact ⟨_,.inr rfl,h2⟩
        · rintro ⟨x,h1 | rfl,h2⟩
          · exact .inl ⟨x,h1,h2⟩
          · exact .inr h2,hput.out.1.keep hb9,hS6.out.below hb9,Nat.le_trans hsz6.out hb9.size,hB6.out.trans (hb9.mono hB6.out.size)⟩
    case measure => simp [intOf];omega
  · obtain rfl : k = na:=by omega
    go_wp2
    go_ret
    refine ⟨⟨_,l,rfl,⟨hnd0.out,fun q => ?_⟩,by exact hPl0.out.mono hB4.out.size⟩,hbr0.out⟩
    rw [hmem0.out,hrl.out,← hna.out,List.take_length]
    exact ⟨fun ⟨x,h1,h2⟩ => ⟨x,(hRa.out.2 x).1 h1,h2⟩,fun ⟨x,h1,h2⟩ => ⟨x,(hRa.out.2 x).2 h1,h2⟩⟩
end
end Go.Proofs.Ytbdfhmefjfaofaa
