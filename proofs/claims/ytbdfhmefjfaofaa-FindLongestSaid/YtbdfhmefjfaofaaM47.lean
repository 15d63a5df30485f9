/- Contracts and plain facts: M47. -/
import Derived.Test.YtbdfhmefjfaofaaM46
set_option linter.unusedVariables false
set_option linter.unusedSimpArgs false
set_option maxRecDepth 100000
set_option maxHeartbeats 32000000
namespace Go.Proofs.Ytbdfhmefjfaofaa
open Go.RowKit
def ReachOK (B : Nat) (An : Option Addr) (nn cn : Nat) (At : Option Addr) (nt ct : Nat) (ns : List Nod) (t : List UInt8) (g : Int) (a : Nat) (F : Int → Pt → Prop) (M : Nat) : Prop :=
 ∀ (w : World) (m : Nat) (p : Pt),Thru w B An nn cn At nt ct ns t g → m < ns.length → POK ns t g a p → F (m : Int) p → m < M →
  Calls Try.prog 26 #[.agg #[.slice An nn cn,.int .i64 g],.slice At nt ct,.int .i64 (m : Int),.agg (ptC p)] w (RchQ w ns t m p)
theorem Pts.range {w : World} {b : Nat} {v : Value} {l : List Pt} (h : Pts w b v l) {k : Nat} (hk : k < l.length) : ∃ G c,v = .slice (some ⟨G,0,none⟩) l.length c ∧ b ≤ G ∧ G < w.heap.size ∧ w.rangeAt G (k * 21) (ptL (l[k]'hk)):=by
 obtain ⟨A,c,rfl,hr⟩:=h.prow
 have hL:=ptL_len (l[k]'hk)
 have hz : (ptsL l)[k * 21 + 0]? = some ((ptL (l[k]'hk))[0]'(by omega)):=(ptsL_at l k hk 0 (by omega)).trans (List.getElem?_eq_getElem _)
 obtain ⟨G,rfl,hG,-⟩:=hr _ _ hz
 refine ⟨G,c,rfl,(World.ownsRow.lt h G rfl).1,hG,fun j u hj => ?_⟩
 have hj1 : j < 21:=by have:=(List.getElem?_eq_some_iff.1 hj).1;omega
 obtain ⟨G',e,_,hc⟩:=hr (k * 21 + j) u ((ptsL_at l k hk j hj1).trans hj)
 cases e;exact hc
theorem putP_take {l1 l2 l l' : List Pt} {k : Nat} (hk : k < l2.length) (h : ∀ q,q ∈ l ↔ q ∈ l1 ∨ q ∈ l2.take k) (hp : PutP l (l2[k]'hk) l') : ∀ q,q ∈ l' ↔ q ∈ l1 ∨ q ∈ l2.take (k + 1):=fun q => by
 have e : l2.take (k + 1) = l2.take k ++ [l2[k]'hk]:=by rw [List.take_add_one,List.getElem?_eq_getElem hk];rfl
 rw [hp.mem,h,e,List.mem_append,List.mem_singleton,or_assoc]
section
variable {w w' w1 : World} {B : Nat} {An : Option Addr} {nn cn : Nat} {At : Option Addr} {nt ct : Nat} {ns : List Nod} {t : List UInt8} {g : Int} {a : Nat} {D : Nat} {p : Pt} {F : Int → Pt → Prop}
theorem reach_3 (m : Nat) (hW : ReachOK B An nn cn At nt ct ns t g a F m) (h : Thru w B An nn cn At nt ct ns t g) (hm : m < ns.length) (hp : POK ns t g a p) (hk : (ndA ns (m : Int)).kind = 3) (hF : Bnd ns t F) (hst : F (m : Int) p) :
    Calls Try.prog 26 #[.agg #[.slice An nn cn,.int .i64 g],.slice At nt ct,.int .i64 (m : Int),.agg (ptC p)] w (RchQ w ns t m p):=by
 obtain ⟨N0,N1,N2,N3,N4,N5⟩:=nod_at (ndA ns (m : Int))
 rw [hk] at N0
 have hkh:=lhi hk
 have htx:=lhi (show nt = t.length ∧ nt ≤ 1000000 ∧ p.i ≤ t.length from ⟨h.nt_,h.tl,hp.hi⟩)
 have hmn : m < nn:=by have:=h.nn_;omega
 have hmI0 : (0 : Int) ≤ (m : Int):=by omega
 have hmI1 : (m : Int) < (nn : Int):=by omega
 have hph:=lhi hp
 have hThr:=lhi h
 have hrt:=h.rt
 obtain ⟨⟨ha0,ha1⟩,hb0,hb1⟩:=(hrt.2.2 (m : Int) (by omega) (by omega)).2.1 (.inr hk)
 obtain ⟨ka,hka⟩:=Int.eq_ofNat_of_zero_le ha0
 obtain ⟨kb,hkb⟩:=Int.eq_ofNat_of_zero_le hb0
 have hal : ka < ns.length:=by omega
 have hbl : kb < ns.length:=by omega
 obtain ⟨hSa,hSb⟩:=hF.alt hk hst
 rw [hka] at N1 hSa
 rw [hkb] at N2 hSb
 have hCa:=lhi (fun (w' : World) (hb : Below w.heap.size w w') => show Calls Try.prog 26 #[.agg #[.slice An nn cn,.int .i64 g],.slice At nt ct,.int .i64 (ka : Int),.agg (ptC p)] w' (RchQ w' ns t ka p) from hW w' ka p (h.below (hb.mono h.base)) hal hp hSa (by omega))
 have hCb:=lhi (fun (w' : World) (hb : Below w.heap.size w w') => show Calls Try.prog 26 #[.agg #[.slice An nn cn,.int .i64 g],.slice At nt ct,.int .i64 (kb : Int),.agg (ptC p)] w' (RchQ w' ns t kb p) from hW w' kb p (h.below (hb.mono h.base)) hbl hp hSb (by omega))
 have hrl:=lhi (fun q => show Rel ns t (.node (m : Int)) p q ↔ Rel ns t (.node (ka : Int)) p q ∨ Rel ns t (.node (kb : Int)) p q from by rw [rel_alt hk,hka,hkb])
 have hlen:=lhi (fun (l : List Pt) (hn : l.Nodup) (hl : ∀ q ∈ l,Rel ns t (.node (m : Int)) p q) => show l.length ≤ 500000000000 from hF.few hst l hn hl)
 have hlb:=lhi (fun (l : List Pt) (hl : Rch ns t (kb : Int) p l) => show l.length ≤ 500000000000 from hF.rch hSb hl)
 have hnr:=lhi (fun q (hq : Rel ns t (.node (m : Int)) p q) => show Nrm q from POK.nrm hrt (hp.rel hrt (by omega) (by omega) hq))
 clear hW hst hSa hSb hrt ha0 ha1 hb0 hb1 hF
 obtain ⟨ad,bb,oo,rfl,hpp,hbb,hrn⟩:=h.node' hm
 have hrN:=lhi (fun w' (hb : Below w.heap.size w w') => range_below hrn (hb.mono h.base) hbb)
 have hb2:=lhi (((Below.refl w.heap.size w).alloc (nlr _) (.cells #[.slice (some ad) nn cn,.int .i64 g] 24)).alloc (by simp) (.cells (ptC p) 71))
 have hR2:=lhi (show Held _ w.heap.size 24 #[.slice (some ad) nn cn,.int .i64 g] from (held_new w 24 #[.slice (some ad) nn cn,.int .i64 g]).alloc (.cells (ptC p) 71))
 have hP2:=lhi (show Held _ (w.heap.size + 1) 71 (ptC p) from held_new2 w (.cells #[.slice (some ad) nn cn,.int .i64 g] 24) 71 (ptC p))
 have hl2:=lhi (show ((w.alloc (.cells #[.slice (some ad) nn cn,.int .i64 g] 24)).alloc (.cells (ptC p) 71)).heap.size = w.heap.size + 1 + 1 by simp)
 have hPs:=lhi (show (Try.prog.info? 71).map (·.size) = some (ptC p).size by rw [ptC_size];exact size_pt)
 have hP0 : (ptC p)[0]? = some (.int .i64 (p.i : Int)):=rfl
 have hNl:=lhi (nod_size (ndA ns (m : Int)))
 have hNo:=lhi (nod_cells (ndA ns (m : Int)))
 replace hrn:=lhi hrn
 clear h hp hbb
 generalize hcp : ptC p = CP at *
 replace hcp:=lhi hcp
 replace hk:=lhi hk
 go_enter Try.func26,Try.ntmps26
 go_upto_region 1 with fail
 generalize (w.alloc (.cells #[.slice (some ad) nn cn,.int .i64 g] 24)).alloc (.cells CP 71) = w2 at *
 have r0 : w2.cell? ⟨w.heap.size,0,none⟩ = some (.slice (some ad) nn cn):=hR2.out.at_ rfl
 have hr2:=lhi (hrN.out w2 hb2.out)
 have hnull:=lhi (held_new w2 54 #[.int .i64 0,.int .i64 0,.int .i64 0,.int .i64 0,.int .i64 0,.int .i64 0,.int .u64 0,.int .u64 0,.int .u64 0,.int .u64 0])
 go_upto_region 2 with (first
  | (refine wpList_load_mid rfl 54 (.tmp 23) rfl bb oo rfl (nodL (ndA ns (m : Int))) _ hr2.out Try.underlying54 rfl (by rw [nodL_len];kernel_rfl) ?_)
  | (refine wpList_store_row rfl 54 (.tmp 9) (.tmp 24) rfl w2.heap.size (nodC (ndA ns (m : Int))) rfl rfl 54 _ hnull.out hNl.out rfl hNo.out ?_))
 have hb3:=lhi (below_row (hb2.out.alloc hb2.out.size (.cells #[.int .i64 0,.int .i64 0,.int .i64 0,.int .i64 0,.int .i64 0,.int .i64 0,.int .u64 0,.int .u64 0,.int .u64 0,.int .u64 0] 54)) hb2.out.size (nodC (ndA ns (m : Int))))
 have hl3:=lhi (show w.heap.size ≠ w2.heap.size ∧ w.heap.size + 1 ≠ w2.heap.size by have:=hl2.out;omega)
 have hS3:=lhi (show SRe w.heap.size (w.heap.size + 1) w2.heap.size #[.slice (some ad) nn cn,.int .i64 g] CP (nodC (ndA ns (m : Int))) ((w2.alloc (.cells #[.int .i64 0,.int .i64 0,.int .i64 0,.int .i64 0,.int .i64 0,.int .i64 0,.int .u64 0,.int .u64 0,.int .u64 0,.int .u64 0] 54)).setRow w2.heap.size (nodC (ndA ns (m : Int)))) from
  ⟨(hR2.out.alloc _).row_far (by have:=hl3.out;omega) _,(hP2.out.alloc _).row_far (by have:=hl3.out;omega) _,hnull.out.row _⟩)
 generalize (w2.alloc (.cells #[.int .i64 0,.int .i64 0,.int .i64 0,.int .i64 0,.int .i64 0,.int .i64 0,.int .u64 0,.int .u64 0,.int .u64 0,.int .u64 0] 54)).setRow w2.heap.size (nodC (ndA ns (m : Int))) = w3 at *
 generalize w2.heap.size = H2 at *
 generalize hH1 : w.heap.size + 1 = H1 at *
 clear hb2 hR2 hP2 hr2 hnull r0 hNl hNo hrN hrn hl2 hl3
 generalize hcn : nodC (ndA ns (m : Int)) = CN at *
 replace hcn:=lhi hcn
 replace hH1:=lhi hH1
 have k0 : w3.cell? ⟨H2,0,none⟩ = some (.int .i64 3):=hS3.out.2.2.at_ N0
 have r0 : w3.cell? ⟨w.heap.size,0,none⟩ = some (.slice (some ad) nn cn):=hS3.out.1.at_ rfl
 have r1 : w3.cell? ⟨w.heap.size,1,none⟩ = some (.int .i64 g):=hS3.out.1.at_ rfl
 have k1 : w3.cell? ⟨H2,1,none⟩ = some (.int .i64 (ka : Int)):=hS3.out.2.2.at_ N1
 go_upto_region 22 with (first
  | (refine wpList_load_row rfl 71 (.tmp 7) rfl H1 rfl 71 _ (0,0) _ hS3.out.2.1 Try.underlying71 rfl hPs.out ?_)
  | (go_at_call 26;refine (hCa.out w3 hb3.out).mono ?_;rintro e w4 ⟨⟨va,la,rfl,hRa,hPa⟩,hb4'⟩))
 have hb4:=lhi hb4'
 have hS4:=lhi (hS3.out.below hb4.out)
 have hB4:=lhi (hb3.out.trans (hb4.out.mono hb3.out.size))
 replace hPa:=lhi (hPa.mono (b':=w.heap.size) hb3.out.size)
 clear hb4' r0 r1 k0 k1
 replace hRa:=lhi hRa
 have r0 : w4.cell? ⟨w.heap.size,0,none⟩ = some (.slice (some ad) nn cn):=hS4.out.1.at_ rfl
 have r1 : w4.cell? ⟨w.heap.size,1,none⟩ = some (.int .i64 g):=hS4.out.1.at_ rfl
 have k2 : w4.cell? ⟨H2,2,none⟩ = some (.int .i64 (kb : Int)):=hS4.out.2.2.at_ N2
 go_upto_region 23 with (first
  | (refine wpList_load_row rfl 71 (.tmp 7) rfl H1 rfl 71 _ (0,0) _ hS4.out.2.1 Try.underlying71 rfl hPs.out ?_)
  | (go_at_call 26;refine (hCb.out w4 hB4.out).mono ?_;rintro e w5 ⟨⟨vb,lb,rfl,hRb,hPb⟩,hb5'⟩))
 have hb5:=lhi hb5'
 have hB5:=lhi (hB4.out.trans (hb5.out.mono hB4.out.size))
 replace hPb:=lhi (hPb.mono (b':=w.heap.size) hB4.out.size)
 have hPa5:=lhi (hPa.out.keep hb5.out)
 clear hb5' r0 r1 k2 hPa hS4 hS3
 have hlb5:=lhi (hlb.out lb hRb)
 replace hRb:=lhi hRb
 obtain ⟨Ab,cb',rfl,_⟩:=hPb.out.prow
 generalize hnb : lb.length = nb at *
 replace hnb:=lhi hnb
 have hnb4:=hlb5.out
 go_wp2
 go_loopw [10,16] (fun v i wr => ∃ (v0 : Value) (k : Nat) (l : List Pt),v0 = v ∧ k ≤ nb ∧ i = .int .i64 (k : Int) ∧ Pts wr w.heap.size v l ∧ l.Nodup ∧ (∀ q,q ∈ l ↔ q ∈ la ∨ q ∈ lb.take k) ∧ Below w5.heap.size w5 wr) (fun _ i _ => nb - (intOf i).toNat)
 case atStart => exact ⟨_,0,la,rfl,Nat.zero_le _,rfl,hPa5.out,hRa.out.1,fun q => by simp,Below.refl _ _⟩
 case round =>
  obtain ⟨v,k,l,rfl,hk',rfl,hPl,hnd,hmem,hbr⟩:=hrel
  have hPlh:=lhi hPl
  have hndh:=lhi hnd
  have hmemh:=lhi hmem
  have hbrh:=lhi hbr
  clear hPl hnd hmem hbr
  by_cases hlt : k < nb
  · have hkx : k < lb.length:=by rw [hnb.out];exact hlt
    obtain ⟨G,c',e',_,hG,hrg⟩:=(hPb.out.keep hbrh.out).range hkx
    rw [hnb.out] at e'
    obtain ⟨rfl,rfl⟩ : Ab = some ⟨G,0,none⟩ ∧ cb' = c':=by injection e' with e1 _ e2;exact ⟨e1,e2⟩
    have hrgh:=lhi hrg
    have hB6:=lhi (hB5.out.trans (hbrh.out.mono hB5.out.size))
    have hqr : Rel ns t (.node (m : Int)) p (lb[k]'hkx):=(hrl.out _).2 (.inr ((hRb.out.2 _).1 (List.getElem_mem hkx)))
    have hlr : ∀ q ∈ l,Rel ns t (.node (m : Int)) p q:=fun q hq => by
     rcases (hmemh.out q).1 hq with h1 | h1
     · exact (hrl.out _).2 (.inl ((hRa.out.2 _).1 h1))
     · exact (hrl.out _).2 (.inr ((hRb.out.2 _).1 (List.mem_of_mem_take h1)))
    have hCw:=lhi (show Calls Try.prog 39 #[v,.agg (ptL (lb[k]'hkx)).toArray] wr fun e w' => (∃ v' l',e = .returned v' ∧ PutP l (lb[k]'hkx) l' ∧ Pts w' w.heap.size v' l') ∧ Below wr.heap.size wr w' from
     rwith_any w.heap.size v l (lb[k]'hkx) wr hB6.out.size hPlh.out (hnr.out _ hqr) (fun q hq => hnr.out q (hlr q hq)) (hlen.out l hndh.out hlr))
    have hLl:=lhi (ptL_len (lb[k]'hkx))
    have hput:=lhi (fun l' (hp' : PutP l (lb[k]'hkx) l') => putP_take hkx hmemh.out hp')
    have hkI : (k : Int) < (nb : Int):=by omega
    have hw2 : IntKind.i64.wrap ((k : Int) + 1) = (k : Int) + 1:=IntWalk.i64_in _ (by omega)
    clear hrg e' hqr hlr
    generalize hq : lb[k]'hkx = qk at *
    replace hq:=lhi hq
    go_wp2_with (first
     | (refine wpList_load_mid rfl 71 (.tmp 109) rfl G (k * 21) rfl (ptL qk) _ hrgh.out Try.underlying71 rfl (by rw [hLl.out];exact size_pt) ?_)
     | (go_at_call 39;refine hCw.out.mono ?_;rintro e w6 ⟨⟨v',l',rfl,hpu,hP6⟩,hb6⟩))
    go_roundw
    case rel => exact ⟨_,k + 1,l',rfl,by omega,rfl,hP6,hpu.nodup hndh.out,hput.out l' hpu,hbrh.out.trans (hb6.mono hbrh.out.size)⟩
    case measure => simp [intOf];omega
  · obtain rfl : k = nb:=by omega
    go_wp2
    go_ret
    refine ⟨⟨_,l,rfl,⟨hndh.out,fun q => ?_⟩,by exact hPlh.out⟩,hB5.out.trans (hbrh.out.mono hB5.out.size)⟩
    rw [hmemh.out,hrl.out,hRa.out.2,← hRb.out.2,← hnb.out,List.take_length]
end
end Go.Proofs.Ytbdfhmefjfaofaa
