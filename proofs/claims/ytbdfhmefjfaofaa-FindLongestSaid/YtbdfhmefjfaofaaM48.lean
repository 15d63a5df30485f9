/- Contracts and plain facts: M48. -/
import Derived.Test.YtbdfhmefjfaofaaM47
set_option linter.unusedVariables false
set_option linter.unusedSimpArgs false
set_option maxRecDepth 100000
set_option maxHeartbeats 32000000
namespace Go.Proofs.Ytbdfhmefjfaofaa
open Go.RowKit
def SR2 (H H1 H2 : Nat) (RE CP CN : Array Value) (G o : Nat) (L : List Value) (w' : World) : Prop:=SRe H H1 H2 RE CP CN w' ∧ w'.rangeAt G o L
theorem SR2.below {H H1 H2 : Nat} {RE CP CN : Array Value} {G o : Nat} {L : List Value} {w1 w2 : World} (h : SR2 H H1 H2 RE CP CN G o L w1) (hG : G < w1.heap.size) (hb : Below w1.heap.size w1 w2) : SR2 H H1 H2 RE CP CN G o L w2:=⟨h.1.below hb,range_below h.2 hb hG⟩
section
variable {w w' w1 : World} {B : Nat} {An : Option Addr} {nn cn : Nat} {At : Option Addr} {nt ct : Nat} {ns : List Nod} {t : List UInt8} {g : Int} {a : Nat} {D : Nat} {p : Pt} {F : Int → Pt → Prop}
theorem reach_2 (m : Nat) (hW : ReachOK B An nn cn At nt ct ns t g a F m) (h : Thru w B An nn cn At nt ct ns t g) (hm : m < ns.length) (hp : POK ns t g a p) (hk : (ndA ns (m : Int)).kind = 2) (hF : Bnd ns t F) (hst : F (m : Int) p) :
    Calls Try.prog 26 #[.agg #[.slice An nn cn,.int .i64 g],.slice At nt ct,.int .i64 (m : Int),.agg (ptC p)] w (RchQ w ns t m p):=by
 obtain ⟨N0,N1,N2,N3,N4,N5⟩:=nod_at (ndA ns (m : Int))
 rw [hk] at N0
 have hkh:=lhi hk
 have htx:=lhi (show nt = t.length ∧ nt ≤ 1000000 ∧ p.i ≤ t.length from ⟨h.nt_,h.tl,hp.hi⟩)
 have hmn : m < nn:=by have:=h.nn_;omega
 have hmI0 : (0 : Int) ≤ (m : Int):=by omega
 have hmI1 : (m : Int) < (nn : Int):=by omega
 have hph:=lhi hp
 have hThr:=lhi h
 have hrt:=h.rt
 obtain ⟨⟨ha0,ha1⟩,hb0,hb1⟩:=(hrt.2.2 (m : Int) (by omega) (by omega)).2.1 (.inl hk)
 obtain ⟨ka,hka⟩:=Int.eq_ofNat_of_zero_le ha0
 obtain ⟨kb,hkb⟩:=Int.eq_ofNat_of_zero_le hb0
 have hal : ka < ns.length:=by omega
 have hbl : kb < ns.length:=by omega
 obtain ⟨hSa,hSb⟩:=hF.cat hk hst
 rw [hka] at N1 hSa hSb
 rw [hkb] at N2 hSb
 have hCa:=lhi (fun (w' : World) (hb : Below w.heap.size w w') => show Calls Try.prog 26 #[.agg #[.slice An nn cn,.int .i64 g],.slice At nt ct,.int .i64 (ka : Int),.agg (ptC p)] w' (RchQ w' ns t ka p) from hW w' ka p (h.below (hb.mono h.base)) hal hp hSa (by omega))
 have hCb:=lhi (fun (w' : World) (hb : Below w.heap.size w w') (x : Pt) (hx : Rel ns t (.node (ka : Int)) p x) => show Calls Try.prog 26 #[.agg #[.slice An nn cn,.int .i64 g],.slice At nt ct,.int .i64 (kb : Int),.agg (ptL x).toArray] w' (RchQ w' ns t kb x) from
  hW w' kb x (h.below (hb.mono h.base)) hbl (hp.rel hrt (by omega) (by omega) hx) (hSb x hx) (by omega))
 have hrl:=lhi (fun q => show Rel ns t (.node (m : Int)) p q ↔ ∃ x,Rel ns t (.node (ka : Int)) p x ∧ Rel ns t (.node (kb : Int)) x q from by rw [rel_cat hk,hka,hkb])
 have hlen:=lhi (fun (l : List Pt) (hn : l.Nodup) (hl : ∀ q ∈ l,Rel ns t (.node (m : Int)) p q) => show l.length ≤ 500000000000 from hF.few hst l hn hl)
 have hla:=lhi (fun (l : List Pt) (hl : Rch ns t (ka : Int) p l) => show l.length ≤ 500000000000 from hF.rch hSa hl)
 have hlb:=lhi (fun (x : Pt) (hx : Rel ns t (.node (ka : Int)) p x) (l : List Pt) (hl : Rch ns t (kb : Int) x l) => show l.length ≤ 500000000000 from hF.rch (hSb x hx) hl)
 have hnr:=lhi (fun q (hq : Rel ns t (.node (m : Int)) p q) => show Nrm q from POK.nrm hrt (hp.rel hrt (by omega) (by omega) hq))
 clear hW hst hSa hSb hrt ha0 ha1 hb0 hb1 hF
 obtain ⟨ad,bb,oo,rfl,hpp,hbb,hrn⟩:=h.node' hm
 have hrN:=lhi (fun w' (hb : Below w.heap.size w w') => range_below hrn (hb.mono h.base) hbb)
 have hb2:=lhi (((Below.refl w.heap.size w).alloc (nlr _) (.cells #[.slice (some ad) nn cn,.int .i64 g] 24)).alloc (by simp) (.cells (ptC p) 71))
 have hR2:=lhi (show Held _ w.heap.size 24 #[.slice (some ad) nn cn,.int .i64 g] from (held_new w 24 #[.slice (some ad) nn cn,.int .i64 g]).alloc (.cells (ptC p) 71))
 have hP2:=lhi (show Held _ (w.heap.size + 1) 71 (ptC p) from held_new2 w (.cells #[.slice (some ad) nn cn,.int .i64 g] 24) 71 (ptC p))
 have hl2:=lhi (show ((w.alloc (.cells #[.slice (some ad) nn cn,.int .i64 g] 24)).alloc (.cells (ptC p) 71)).heap.size = w.heap.size + 1 + 1 by simp)
 have hPs:=lhi (show (Try.prog.info? 71).map (·.size) = some (ptC p).size by rw [ptC_size];exact size_pt)
 have hP0 : (ptC p)[0]? = some (.int .i64 (p.i : Int)):=rfl
 have hNl:=lhi (nod_size (ndA ns (m : Int)))
 have hNo:=lhi (nod_cells (ndA ns (m : Int)))
 replace hrn:=lhi hrn
 clear h hp hbb
 generalize hcp : ptC p = CP at *
 replace hcp:=lhi hcp
 replace hk:=lhi hk
 go_enter Try.func26,Try.ntmps26
 go_upto_region 1 with fail
 generalize (w.alloc (.cells #[.slice (some ad) nn cn,.int .i64 g] 24)).alloc (.cells CP 71) = w2 at *
 have r0 : w2.cell? ⟨w.heap.size,0,none⟩ = some (.slice (some ad) nn cn):=hR2.out.at_ rfl
 have hr2:=lhi (hrN.out w2 hb2.out)
 have hnull:=lhi (held_new w2 54 #[.int .i64 0,.int .i64 0,.int .i64 0,.int .i64 0,.int .i64 0,.int .i64 0,.int .u64 0,.int .u64 0,.int .u64 0,.int .u64 0])
 go_upto_region 2 with (first
  | (refine wpList_load_mid rfl 54 (.tmp 23) rfl bb oo rfl (nodL (ndA ns (m : Int))) _ hr2.out Try.underlying54 rfl (by rw [nodL_len];kernel_rfl) ?_)
  | (refine wpList_store_row rfl 54 (.tmp 9) (.tmp 24) rfl w2.heap.size (nodC (ndA ns (m : Int))) rfl rfl 54 _ hnull.out hNl.out rfl hNo.out ?_))
 have hb3:=lhi (below_row (hb2.out.alloc hb2.out.size (.cells #[.int .i64 0,.int .i64 0,.int .i64 0,.int .i64 0,.int .i64 0,.int .i64 0,.int .u64 0,.int .u64 0,.int .u64 0,.int .u64 0] 54)) hb2.out.size (nodC (ndA ns (m : Int))))
 have hl3:=lhi (show w.heap.size ≠ w2.heap.size ∧ w.heap.size + 1 ≠ w2.heap.size by have:=hl2.out;omega)
 have hS3:=lhi (show SRe w.heap.size (w.heap.size + 1) w2.heap.size #[.slice (some ad) nn cn,.int .i64 g] CP (nodC (ndA ns (m : Int))) ((w2.alloc (.cells #[.int .i64 0,.int .i64 0,.int .i64 0,.int .i64 0,.int .i64 0,.int .i64 0,.int .u64 0,.int .u64 0,.int .u64 0,.int .u64 0] 54)).setRow w2.heap.size (nodC (ndA ns (m : Int)))) from
  ⟨(hR2.out.alloc _).row_far (by have:=hl3.out;omega) _,(hP2.out.alloc _).row_far (by have:=hl3.out;omega) _,hnull.out.row _⟩)
 generalize (w2.alloc (.cells #[.int .i64 0,.int .i64 0,.int .i64 0,.int .i64 0,.int .i64 0,.int .i64 0,.int .u64 0,.int .u64 0,.int .u64 0,.int .u64 0] 54)).setRow w2.heap.size (nodC (ndA ns (m : Int))) = w3 at *
 generalize w2.heap.size = H2 at *
 generalize hH1 : w.heap.size + 1 = H1 at *
 clear hb2 hR2 hP2 hr2 hnull r0 hNl hNo hrN hrn hl2 hl3
 generalize hcn : nodC (ndA ns (m : Int)) = CN at *
 replace hcn:=lhi hcn
 replace hH1:=lhi hH1
 have k0 : w3.cell? ⟨H2,0,none⟩ = some (.int .i64 2):=hS3.out.2.2.at_ N0
 have r0 : w3.cell? ⟨w.heap.size,0,none⟩ = some (.slice (some ad) nn cn):=hS3.out.1.at_ rfl
 have r1 : w3.cell? ⟨w.heap.size,1,none⟩ = some (.int .i64 g):=hS3.out.1.at_ rfl
 have k1 : w3.cell? ⟨H2,1,none⟩ = some (.int .i64 (ka : Int)):=hS3.out.2.2.at_ N1
 go_upto_region 11 with (first
  | (refine wpList_load_row rfl 71 (.tmp 7) rfl H1 rfl 71 _ (0,0) _ hS3.out.2.1 Try.underlying71 rfl hPs.out ?_)
  | (go_at_call 26;refine (hCa.out w3 hb3.out).mono ?_;rintro e w4 ⟨⟨va,la,rfl,hRa,hPa⟩,hb4'⟩))
 have hb4:=lhi hb4'
 have hS4:=lhi (hS3.out.below hb4.out)
 have hB4:=lhi (hb3.out.trans (hb4.out.mono hb3.out.size))
 replace hPa:=lhi (hPa.mono (b':=w.heap.size) hb3.out.size)
 have hla4:=hla.out la hRa
 replace hRa:=lhi hRa
 clear hb4' r0 r1 k0 k1 hS3
 obtain ⟨Aa,ca',rfl,_⟩:=hPa.out.prow
 generalize hna : la.length = na at *
 replace hna:=lhi hna
 have N2h:=lhi N2
 clear N0 N1 N2 N3 N4 N5
 go_wp2
 go_loopw [10,12] (fun v i wr => ∃ (v0 : Value) (k : Nat) (l : List Pt),v0 = v ∧ k ≤ na ∧ i = .int .i64 (k : Int) ∧ Pts wr w.heap.size v l ∧ l.Nodup ∧ (∀ q,q ∈ l ↔ ∃ x ∈ la.take k,Rel ns t (.node (kb : Int)) x q) ∧ Below w4.heap.size w4 wr) (fun _ i _ => na - (intOf i).toNat)
 case atStart => exact ⟨_,0,[],rfl,Nat.zero_le _,rfl,Pts.nil _ _,List.nodup_nil,fun q => by simp,Below.refl _ _⟩
 case round =>
  obtain ⟨v,k,l,rfl,hk',rfl,hPl,hnd,hmem,hbr⟩:=hrel
  have hPl0:=lhi hPl
  have hnd0:=lhi hnd
  have hmem0:=lhi hmem
  have hbr0:=lhi hbr
  clear hPl hnd hmem hbr
  by_cases hlt : k < na
  · have hkx : k < la.length:=by rw [hna.out];exact hlt
    obtain ⟨G,c',e',_,hG,hrg⟩:=(hPa.out.keep hbr0.out).range hkx
    rw [hna.out] at e'
    obtain ⟨rfl,rfl⟩ : Aa = some ⟨G,0,none⟩ ∧ ca' = c':=by injection e' with e1 _ e2;exact ⟨e1,e2⟩
    have hB6:=lhi (hB4.out.trans (hbr0.out.mono hB4.out.size))
    have hB6d:=lhi (show Below w.heap.size w wr.drew from below_drewN hB6.out 1)
    have hxr : Rel ns t (.node (ka : Int)) p (la[k]'hkx):=(hRa.out.2 _).1 (List.getElem_mem hkx)
    have hC:=lhi (hCb.out wr.drew hB6d.out _ hxr)
    have hLb:=lhi (hlb.out _ hxr)
    have hSd:=lhi (show SR2 w.heap.size H1 H2 #[.slice (some ad) nn cn,.int .i64 g] CP CN G (k * 21) (ptL (la[k]'hkx)) wr.drew from ⟨(hS4.out.below hbr0.out).below (below_drewN (Below.refl _ _) 1),hrg⟩)
    have hrB:=lhi (fun q (hq : Rel ns t (.node (kb : Int)) (la[k]'hkx) q) => show Rel ns t (.node (m : Int)) p q from (hrl.out q).2 ⟨_,hxr,hq⟩)
    have hrA1:=lhi (fun q (hq : q ∈ l) => show Rel ns t (.node (m : Int)) p q from by
     obtain ⟨x,hx,hq⟩:=(hmem0.out q).1 hq
     exact (hrl.out q).2 ⟨x,(hRa.out.2 _).1 (List.mem_of_mem_take hx),hq⟩)
    have htk : la.take (k + 1) = la.take k ++ [la[k]'hkx]:=by rw [List.take_add_one,List.getElem?_eq_getElem hkx];rfl
    replace htk:=lhi htk
    have hLl:=lhi (ptL_len (la[k]'hkx))
    have hGd:=lhi (show G < wr.drew.heap.size from hG)
    have hkI : (k : Int) < (na : Int):=by omega
    have hw2 : IntKind.i64.wrap ((k : Int) + 1) = (k : Int) + 1:=IntWalk.i64_in _ (by omega)
    clear hrg e' hxr
    generalize hq : la[k]'hkx = xk at *
    replace hq:=lhi hq
    go_wp2
    refine wp_region_held_drew (S:=SR2 w.heap.size H1 H2 #[.slice (some ad) nn cn,.int .i64 g] CP CN G (k * 21) (ptL xk)) (by kernel_rfl) hSd.out (fun hS => ?_)
    refine wpAnyH_take (i:=0) (v:=?_) rfl (by kernel_rfl) (by kernel_rfl) (by kernel_rfl) (fun _ _ _ h => h) (Or.inl ⟨by rfl,?_⟩) hS ?_
    rotate_left
    · (intro w' hS';have ha : w'.cell? ⟨w.heap.size,0,none⟩ = some (.slice (some ad) nn cn):=hS'.1.1.at_ rfl;have hb : w'.cell? ⟨w.heap.size,1,none⟩ = some (.int .i64 g):=hS'.1.1.at_ rfl;go_simp;try with_reducible rfl)
    (try simp only [Act.put,List.getElem_toArray,List.getElem_cons_zero,List.getElem_cons_succ,List.setIfInBounds_toArray,List.set_cons_zero,List.set_cons_succ])
    refine wpAnyH_take (i:=1) (v:=?_) rfl (by kernel_rfl) (by kernel_rfl) (by kernel_rfl) (fun _ _ _ h => h) (Or.inl ⟨by rfl,?_⟩) hS ?_
    rotate_left
    · (intro w' hS';go_simp;try with_reducible rfl)
    (try simp only [Act.put,List.getElem_toArray,List.getElem_cons_zero,List.getElem_cons_succ,List.setIfInBounds_toArray,List.set_cons_zero,List.set_cons_succ])
    refine wpAnyH_take (i:=2) (v:=?_) rfl (by kernel_rfl) (by kernel_rfl) (by kernel_rfl) (fun _ _ _ h => h) (Or.inl ⟨by rfl,?_⟩) hS ?_
    rotate_left
    · (intro w' hS';go_simp;try with_reducible rfl)
    (try simp only [Act.put,List.getElem_toArray,List.getElem_cons_zero,List.getElem_cons_succ,List.setIfInBounds_toArray,List.set_cons_zero,List.set_cons_succ])
    refine wpAnyH_take (i:=3) (v:=?_) rfl (by kernel_rfl) (by kernel_rfl) (by kernel_rfl) (fun _ _ _ h => h) (Or.inl ⟨by rfl,?_⟩) hS ?_
    rotate_left
    · (intro w' hS';have ha : w'.cell? ⟨H2,2,none⟩ = some (.int .i64 (kb : Int)):=hS'.1.2.2.at_ N2h.out;go_simp;try with_reducible rfl)
    (try simp only [Act.put,List.getElem_toArray,List.getElem_cons_zero,List.getElem_cons_succ,List.setIfInBounds_toArray,List.set_cons_zero,List.set_cons_succ])
    refine wpAnyH_take (i:=4) (v:=?_) rfl (by kernel_rfl) (by kernel_rfl) (by kernel_rfl) (fun _ _ _ h => h) (Or.inl ⟨by rfl,?_⟩) hS ?_
    rotate_left
    · (intro w' hS';go_simp;try with_reducible rfl)
    (try simp only [Act.put,List.getElem_toArray,List.getElem_cons_zero,List.getElem_cons_succ,List.setIfInBounds_toArray,List.set_cons_zero,List.set_cons_succ])
    refine wpAnyH_take (i:=5) (v:=?_) rfl (by kernel_rfl) (by kernel_rfl) (by kernel_rfl) (fun _ _ _ h => h) (Or.inl ⟨by rfl,?_⟩) hS ?_
    rotate_left
    · (intro w' hS';go_simp;try with_reducible rfl)
    (try simp only [Act.put,List.getElem_toArray,List.getElem_cons_zero,List.getElem_cons_succ,List.setIfInBounds_toArray,List.set_cons_zero,List.set_cons_succ])
    refine wpAnyH_take (i:=6) (v:=?_) rfl (by kernel_rfl) (by kernel_rfl) (by kernel_rfl) (fun _ _ _ h => h) (Or.inl ⟨by rfl,?_⟩) hS ?_
    rotate_left
    · (intro w' hS';go_simp;try with_reducible rfl)
    (try simp only [Act.put,List.getElem_toArray,List.getElem_cons_zero,List.getElem_cons_succ,List.setIfInBounds_toArray,List.set_cons_zero,List.set_cons_succ])
    refine wpAnyH_take (i:=7) (v:=_) rfl (by kernel_rfl) (by kernel_rfl) (by kernel_rfl) (fun _ _ _ h => h) (yieldsIf_load_mid (by rfl) _ _ rfl (G) (k * 21) rfl ((ptL xk)) _ (fun _ hS' => hS'.2) Try.underlying71 rfl (by rw [hLl.out];exact size_pt)) hS ?_
    (try simp only [Act.put,List.getElem_toArray,List.getElem_cons_zero,List.getElem_cons_succ,List.setIfInBounds_toArray,List.set_cons_zero,List.set_cons_succ])
    refine wpAnyH_ready (rs:=[8]) (by kernel_rfl) (by simp) ?_
    refine AllReadyH.cons rfl (fun K hK => ?_) AllReadyH.nil
    go_simp
    refine hC.out.mono ?_
    rintro e w6 ⟨⟨vb,lb,rfl,hRb,hPb⟩,hb6'⟩
    go_simp
    refine hK.out _ _ (hS.below hGd.out hb6') (fun _ => ?_)
    clear hK K
    replace hS:=hS.below hGd.out hb6'
    (try simp only [Act.put,List.getElem_toArray,List.getElem_cons_zero,List.getElem_cons_succ,List.setIfInBounds_toArray,List.set_cons_zero,List.set_cons_succ])
    refine wpAnyH_take (i:=9) (v:=?_) rfl (by kernel_rfl) (by kernel_rfl) (by kernel_rfl) (fun _ _ _ h => h) (Or.inl ⟨by rfl,?_⟩) hS ?_
    rotate_left
    · (intro w' hS';go_simp;try with_reducible rfl)
    (try simp only [Act.put,List.getElem_toArray,List.getElem_cons_zero,List.getElem_cons_succ,List.setIfInBounds_toArray,List.set_cons_zero,List.set_cons_succ])
    refine wpAnyH_done (by kernel_rfl) ?_ _
    have hb6:=lhi (show Below wr.heap.size wr w6 from (below_drewN (Below.refl wr.heap.size wr) 1).trans hb6')
    have hB7:=lhi (hB6.out.trans (hb6.out.mono hB6.out.size))
    replace hPb:=lhi (hPb.mono (b':=w.heap.size) hB6d.out.size)
    have hPl6:=lhi (hPl0.out.keep hb6.out)
    have hnb4:=hLb.out lb hRb
    replace hRb:=lhi hRb
    have hrA2:=lhi (fun q (hq : q ∈ lb) => show Rel ns t (.node (m : Int)) p q from hrB.out q ((hRb.out.2 q).1 hq))
    obtain ⟨Ab,cb',rfl,_⟩:=hPb.out.prow
    generalize hnb : lb.length = nb at *
    replace hnb:=lhi hnb
    clear hb6' hSd hC hS
    go_wp2
    go_loopw [10,14] (fun v i wr => ∃ (v0 : Value) (j : Nat) (l' : List Pt),v0 = v ∧ j ≤ nb ∧ i = .int .i64 (j : Int) ∧ Pts wr w.heap.size v l' ∧ l'.Nodup ∧ (∀ q,q ∈ l' ↔ q ∈ l ∨ q ∈ lb.take j) ∧ Below w6.heap.size w6 wr) (fun _ i _ => nb - (intOf i).toNat)
    case atStart => exact ⟨_,0,l,rfl,Nat.zero_le _,rfl,hPl6.out,hnd0.out,fun q => by simp,Below.refl _ _⟩
    case round =>
     obtain ⟨v,j,l',rfl,hj',rfl,hPl,hnd,hmem,hbr⟩:=hrel
     have hPlh:=lhi hPl
     have hndh:=lhi hnd
     have hmemh:=lhi hmem
     have hbrh:=lhi hbr
     clear hPl hnd hmem hbr
     by_cases hltj : j < nb
     · have hjx : j < lb.length:=by rw [hnb.out];exact hltj
       obtain ⟨G2,c2',e',_,hG2,hrg⟩:=(hPb.out.keep hbrh.out).range hjx
       rw [hnb.out] at e'
       obtain ⟨rfl,rfl⟩ : Ab = some ⟨G2,0,none⟩ ∧ cb' = c2':=by injection e' with e1 _ e2;exact ⟨e1,e2⟩
       have hrgh:=lhi hrg
       have hB8:=lhi (hB7.out.trans (hbrh.out.mono hB7.out.size))
       have hlr : ∀ q ∈ l',Rel ns t (.node (m : Int)) p q:=fun q hq => by
        rcases (hmemh.out q).1 hq with h1 | h1
        · exact hrA1.out q h1
        · exact hrA2.out q (List.mem_of_mem_take h1)
       have hqr : Rel ns t (.node (m : Int)) p (lb[j]'hjx):=hrA2.out _ (List.getElem_mem hjx)
       have hCw:=lhi (show Calls Try.prog 39 #[v,.agg (ptL (lb[j]'hjx)).toArray] wr fun e w' => (∃ v' l2,e = .returned v' ∧ PutP l' (lb[j]'hjx) l2 ∧ Pts w' w.heap.size v' l2) ∧ Below wr.heap.size wr w' from
        rwith_any w.heap.size v l' (lb[j]'hjx) wr hB8.out.size hPlh.out (hnr.out _ hqr) (fun q hq => hnr.out q (hlr q hq)) (hlen.out l' hndh.out hlr))
       have hLj:=lhi (ptL_len (lb[j]'hjx))
       have hput:=lhi (fun l2 (hp' : PutP l' (lb[j]'hjx) l2) => putP_take hjx hmemh.out hp')
       have hjI : (j : Int) < (nb : Int):=by omega
       have hw2j : IntKind.i64.wrap ((j : Int) + 1) = (j : Int) + 1:=IntWalk.i64_in _ (by omega)
       clear hrg e' hqr hlr
       generalize hqj : lb[j]'hjx = qk at *
       replace hqj:=lhi hqj
       go_wp2_with (first
        | (refine wpList_load_mid rfl 71 (.tmp 82) rfl G2 (j * 21) rfl (ptL qk) _ hrgh.out Try.underlying71 rfl (by rw [hLj.out];exact size_pt) ?_)
        | (go_at_call 39;refine hCw.out.mono ?_;rintro e w9 ⟨⟨v',l2,rfl,hpu,hP9⟩,hb9⟩))
       go_roundw
       case rel => exact ⟨_,j + 1,l2,rfl,by omega,rfl,hP9,hpu.nodup hndh.out,hput.out l2 hpu,hbrh.out.trans (hb9.mono hbrh.out.size)⟩
       case measure => simp [intOf];omega
     · obtain rfl : j = nb:=by omega
       go_wp2
       go_roundw
       case rel => exact ⟨_,k + 1,l',rfl,by omega,rfl,hPlh.out,hndh.out,fun q => by
               rw [hmemh.out,hmem0.out,htk.out,← hnb.out,List.take_length,hRb.out.2]
               simp only [List.mem_append,List.mem_singleton]
               constructor
               · rintro (⟨x,h1,h2⟩ | h2)
                 · exact ⟨x,.inl h1,h2⟩
                 · exact ⟨_,.inr rfl,h2⟩
               · rintro ⟨x,h1 | rfl,h2⟩
                 · exact .inl ⟨x,h1,h2⟩
                 · exact .inr h2,(hbr0.out.trans (hb6.out.mono hbr0.out.size)).trans (hbrh.out.mono (Nat.le_trans hbr0.out.size hb6.out.size))⟩
       case measure => simp [intOf];omega
  · obtain rfl : k = na:=by omega
    go_wp2
    go_ret
    refine ⟨⟨_,l,rfl,⟨hnd0.out,fun q => ?_⟩,by exact hPl0.out⟩,hB4.out.trans (hbr0.out.mono hB4.out.size)⟩
    rw [hmem0.out,hrl.out,← hna.out,List.take_length]
    exact ⟨fun ⟨x,h1,h2⟩ => ⟨x,(hRa.out.2 x).1 h1,h2⟩,fun ⟨x,h1,h2⟩ => ⟨x,(hRa.out.2 x).2 h1,h2⟩⟩
end
end Go.Proofs.Ytbdfhmefjfaofaa
