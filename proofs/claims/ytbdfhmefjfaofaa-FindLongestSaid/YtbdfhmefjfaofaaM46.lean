/- Contracts and plain facts: M46. -/
import Derived.Test.YtbdfhmefjfaofaaM44
import Derived.Test.YtbdfhmefjfaofaaM45
set_option linter.unusedVariables false
set_option linter.unusedSimpArgs false
set_option maxRecDepth 100000
set_option maxHeartbeats 32000000
namespace Go.Proofs.Ytbdfhmefjfaofaa
open Go.RowKit
def SRe (H H1 H2 : Nat) (RE CP CN : Array Value) (w' : World) : Prop:=Held w' H 24 RE ∧ Held w' H1 71 CP ∧ Held w' H2 54 CN
theorem SRe.below {H H1 H2 : Nat} {RE CP CN : Array Value} {w1 w2 : World} (h : SRe H H1 H2 RE CP CN w1) (hb : Below w1.heap.size w1 w2) : SRe H H1 H2 RE CP CN w2:=⟨h.1.keep hb,h.2.1.keep hb,h.2.2.keep hb⟩
def RchQ (w : World) (ns : List Nod) (t : List UInt8) (m : Nat) (p : Pt) (e : Ending) (w' : World) : Prop :=
 (∃ v l,e = .returned v ∧ Rch ns t (m : Int) p l ∧ Pts w' w.heap.size v l) ∧ Below w.heap.size w w'
section
variable {w w' w1 : World} {B : Nat} {An : Option Addr} {nn cn : Nat} {At : Option Addr} {nt ct : Nat} {ns : List Nod} {t : List UInt8} {g : Int} {a : Nat} {D : Nat} {p : Pt}
theorem reach_0 (m : Nat) (h : Thru w B An nn cn At nt ct ns t g) (hm : m < ns.length) (hp : POK ns t g a p) (hk : (ndA ns (m : Int)).kind = 0) :
    Calls Try.prog 26 #[.agg #[.slice An nn cn,.int .i64 g],.slice At nt ct,.int .i64 (m : Int),.agg (ptC p)] w (RchQ w ns t m p):=by
 obtain ⟨N0,N1,N2,N3,N4,N5⟩:=nod_at (ndA ns (m : Int))
 rw [hk] at N0
 have hkh:=lhi hk
 have htx:=lhi (show nt = t.length ∧ nt ≤ 1000000 ∧ p.i ≤ t.length from ⟨h.nt_,h.tl,hp.hi⟩)
 have hmn : m < nn:=by have:=h.nn_;omega
 have hmI0 : (0 : Int) ≤ (m : Int):=by omega
 have hmI1 : (m : Int) < (nn : Int):=by omega
 have hph:=lhi hp
 have hThr:=lhi h
 obtain ⟨ad,bb,oo,rfl,hpp,hbb,hrn⟩:=h.node' hm
 have hrN:=lhi (fun w' (hb : Below w.heap.size w w') => range_below hrn (hb.mono h.base) hbb)
 have hb2:=lhi (((Below.refl w.heap.size w).alloc (nlr _) (.cells #[.slice (some ad) nn cn,.int .i64 g] 24)).alloc (by simp) (.cells (ptC p) 71))
 have hR2:=lhi (show Held _ w.heap.size 24 #[.slice (some ad) nn cn,.int .i64 g] from (held_new w 24 #[.slice (some ad) nn cn,.int .i64 g]).alloc (.cells (ptC p) 71))
 have hP2:=lhi (show Held _ (w.heap.size + 1) 71 (ptC p) from held_new2 w (.cells #[.slice (some ad) nn cn,.int .i64 g] 24) 71 (ptC p))
 have hl2:=lhi (show ((w.alloc (.cells #[.slice (some ad) nn cn,.int .i64 g] 24)).alloc (.cells (ptC p) 71)).heap.size = w.heap.size + 1 + 1 by simp)
 have hPs:=lhi (show (Try.prog.info? 71).map (·.size) = some (ptC p).size by rw [ptC_size];exact size_pt)
 have hP0 : (ptC p)[0]? = some (.int .i64 (p.i : Int)):=rfl
 have hNl:=lhi (nod_size (ndA ns (m : Int)))
 have hNo:=lhi (nod_cells (ndA ns (m : Int)))
 replace hrn:=lhi hrn
 clear h hp hbb
 generalize hcp : ptC p = CP at *
 replace hcp:=lhi hcp
 replace hk:=lhi hk
 go_enter Try.func26,Try.ntmps26
 go_upto_region 1 with fail
 generalize (w.alloc (.cells #[.slice (some ad) nn cn,.int .i64 g] 24)).alloc (.cells CP 71) = w2 at *
 have r0 : w2.cell? ⟨w.heap.size,0,none⟩ = some (.slice (some ad) nn cn):=hR2.out.at_ rfl
 have hr2:=lhi (hrN.out w2 hb2.out)
 have hnull:=lhi (held_new w2 54 #[.int .i64 0,.int .i64 0,.int .i64 0,.int .i64 0,.int .i64 0,.int .i64 0,.int .u64 0,.int .u64 0,.int .u64 0,.int .u64 0])
 go_upto_region 2 with (first
  | (refine wpList_load_mid rfl 54 (.tmp 23) rfl bb oo rfl (nodL (ndA ns (m : Int))) _ hr2.out Try.underlying54 rfl (by rw [nodL_len];kernel_rfl) ?_)
  | (refine wpList_store_row rfl 54 (.tmp 9) (.tmp 24) rfl w2.heap.size (nodC (ndA ns (m : Int))) rfl rfl 54 _ hnull.out hNl.out rfl hNo.out ?_))
 have hb3:=lhi (below_row (hb2.out.alloc hb2.out.size (.cells #[.int .i64 0,.int .i64 0,.int .i64 0,.int .i64 0,.int .i64 0,.int .i64 0,.int .u64 0,.int .u64 0,.int .u64 0,.int .u64 0] 54)) hb2.out.size (nodC (ndA ns (m : Int))))
 have hl3:=lhi (show w.heap.size ≠ w2.heap.size ∧ w.heap.size + 1 ≠ w2.heap.size by have:=hl2.out;omega)
 have hS3:=lhi (show SRe w.heap.size (w.heap.size + 1) w2.heap.size #[.slice (some ad) nn cn,.int .i64 g] CP (nodC (ndA ns (m : Int))) ((w2.alloc (.cells #[.int .i64 0,.int .i64 0,.int .i64 0,.int .i64 0,.int .i64 0,.int .i64 0,.int .u64 0,.int .u64 0,.int .u64 0,.int .u64 0] 54)).setRow w2.heap.size (nodC (ndA ns (m : Int)))) from
  ⟨(hR2.out.alloc _).row_far (by have:=hl3.out;omega) _,(hP2.out.alloc _).row_far (by have:=hl3.out;omega) _,hnull.out.row _⟩)
 generalize (w2.alloc (.cells #[.int .i64 0,.int .i64 0,.int .i64 0,.int .i64 0,.int .i64 0,.int .i64 0,.int .u64 0,.int .u64 0,.int .u64 0,.int .u64 0] 54)).setRow w2.heap.size (nodC (ndA ns (m : Int))) = w3 at *
 generalize w2.heap.size = H2 at *
 generalize hH1 : w.heap.size + 1 = H1 at *
 clear hb2 hR2 hP2 hr2 hnull r0 hNl hNo hrN hrn hl2 hl3
 generalize hcn : nodC (ndA ns (m : Int)) = CN at *
 replace hcn:=lhi hcn
 replace hH1:=lhi hH1
 have k0 : w3.cell? ⟨H2,0,none⟩ = some (.int .i64 0):=hS3.out.2.2.at_ N0
 go_wp2_with (first
  | (refine wpList_load_row rfl 71 (.tmp 7) rfl H1 rfl 71 _ (0,0) _ hS3.out.2.1 Try.underlying71 rfl hPs.out ?_)
  | (refine wpList_build_pt rfl (.tmp 185) rfl p CP hcp.out rfl ?_))
 go_ret
 refine ⟨⟨_,[p],rfl,?_,?_⟩,hb3.out.alloc hb3.out.size _⟩
 · refine ⟨by simp,fun q => ?_⟩
   rw [rel_empty hk.out];simp
 · have:=(Pts.one w3 p).mono (b':=w.heap.size) hb3.out.size
   rw [hcp.out] at this
   exact this
theorem reach_7y (m : Nat) (h : Thru w B An nn cn At nt ct ns t g) (hm : m < ns.length) (hp : POK ns t g a p) (hk : (ndA ns (m : Int)).kind = 7) (hi : p.i = 0) :
    Calls Try.prog 26 #[.agg #[.slice An nn cn,.int .i64 g],.slice At nt ct,.int .i64 (m : Int),.agg (ptC p)] w (RchQ w ns t m p):=by
 have hic : ((p.i : Int) != 0) = false:=by rw [hi];rfl
 replace hi:=lhi hi
 obtain ⟨N0,N1,N2,N3,N4,N5⟩:=nod_at (ndA ns (m : Int))
 rw [hk] at N0
 have hkh:=lhi hk
 have htx:=lhi (show nt = t.length ∧ nt ≤ 1000000 ∧ p.i ≤ t.length from ⟨h.nt_,h.tl,hp.hi⟩)
 have hmn : m < nn:=by have:=h.nn_;omega
 have hmI0 : (0 : Int) ≤ (m : Int):=by omega
 have hmI1 : (m : Int) < (nn : Int):=by omega
 have hph:=lhi hp
 have hThr:=lhi h
 obtain ⟨ad,bb,oo,rfl,hpp,hbb,hrn⟩:=h.node' hm
 have hrN:=lhi (fun w' (hb : Below w.heap.size w w') => range_below hrn (hb.mono h.base) hbb)
 have hb2:=lhi (((Below.refl w.heap.size w).alloc (nlr _) (.cells #[.slice (some ad) nn cn,.int .i64 g] 24)).alloc (by simp) (.cells (ptC p) 71))
 have hR2:=lhi (show Held _ w.heap.size 24 #[.slice (some ad) nn cn,.int .i64 g] from (held_new w 24 #[.slice (some ad) nn cn,.int .i64 g]).alloc (.cells (ptC p) 71))
 have hP2:=lhi (show Held _ (w.heap.size + 1) 71 (ptC p) from held_new2 w (.cells #[.slice (some ad) nn cn,.int .i64 g] 24) 71 (ptC p))
 have hl2:=lhi (show ((w.alloc (.cells #[.slice (some ad) nn cn,.int .i64 g] 24)).alloc (.cells (ptC p) 71)).heap.size = w.heap.size + 1 + 1 by simp)
 have hPs:=lhi (show (Try.prog.info? 71).map (·.size) = some (ptC p).size by rw [ptC_size];exact size_pt)
 have hP0 : (ptC p)[0]? = some (.int .i64 (p.i : Int)):=rfl
 have hNl:=lhi (nod_size (ndA ns (m : Int)))
 have hNo:=lhi (nod_cells (ndA ns (m : Int)))
 replace hrn:=lhi hrn
 clear h hp hbb
 generalize hcp : ptC p = CP at *
 replace hcp:=lhi hcp
 replace hk:=lhi hk
 go_enter Try.func26,Try.ntmps26
 go_upto_region 1 with fail
 generalize (w.alloc (.cells #[.slice (some ad) nn cn,.int .i64 g] 24)).alloc (.cells CP 71) = w2 at *
 have r0 : w2.cell? ⟨w.heap.size,0,none⟩ = some (.slice (some ad) nn cn):=hR2.out.at_ rfl
 have hr2:=lhi (hrN.out w2 hb2.out)
 have hnull:=lhi (held_new w2 54 #[.int .i64 0,.int .i64 0,.int .i64 0,.int .i64 0,.int .i64 0,.int .i64 0,.int .u64 0,.int .u64 0,.int .u64 0,.int .u64 0])
 go_upto_region 2 with (first
  | (refine wpList_load_mid rfl 54 (.tmp 23) rfl bb oo rfl (nodL (ndA ns (m : Int))) _ hr2.out Try.underlying54 rfl (by rw [nodL_len];kernel_rfl) ?_)
  | (refine wpList_store_row rfl 54 (.tmp 9) (.tmp 24) rfl w2.heap.size (nodC (ndA ns (m : Int))) rfl rfl 54 _ hnull.out hNl.out rfl hNo.out ?_))
 have hb3:=lhi (below_row (hb2.out.alloc hb2.out.size (.cells #[.int .i64 0,.int .i64 0,.int .i64 0,.int .i64 0,.int .i64 0,.int .i64 0,.int .u64 0,.int .u64 0,.int .u64 0,.int .u64 0] 54)) hb2.out.size (nodC (ndA ns (m : Int))))
 have hl3:=lhi (show w.heap.size ≠ w2.heap.size ∧ w.heap.size + 1 ≠ w2.heap.size by have:=hl2.out;omega)
 have hS3:=lhi (show SRe w.heap.size (w.heap.size + 1) w2.heap.size #[.slice (some ad) nn cn,.int .i64 g] CP (nodC (ndA ns (m : Int))) ((w2.alloc (.cells #[.int .i64 0,.int .i64 0,.int .i64 0,.int .i64 0,.int .i64 0,.int .i64 0,.int .u64 0,.int .u64 0,.int .u64 0,.int .u64 0] 54)).setRow w2.heap.size (nodC (ndA ns (m : Int)))) from
  ⟨(hR2.out.alloc _).row_far (by have:=hl3.out;omega) _,(hP2.out.alloc _).row_far (by have:=hl3.out;omega) _,hnull.out.row _⟩)
 generalize (w2.alloc (.cells #[.int .i64 0,.int .i64 0,.int .i64 0,.int .i64 0,.int .i64 0,.int .i64 0,.int .u64 0,.int .u64 0,.int .u64 0,.int .u64 0] 54)).setRow w2.heap.size (nodC (ndA ns (m : Int))) = w3 at *
 generalize w2.heap.size = H2 at *
 generalize hH1 : w.heap.size + 1 = H1 at *
 clear hb2 hR2 hP2 hr2 hnull r0 hNl hNo hrN hrn hl2 hl3
 generalize hcn : nodC (ndA ns (m : Int)) = CN at *
 replace hcn:=lhi hcn
 replace hH1:=lhi hH1
 have k0 : w3.cell? ⟨H2,0,none⟩ = some (.int .i64 7):=hS3.out.2.2.at_ N0
 have p0 : w3.cell? ⟨H1,0,none⟩ = some (.int .i64 (p.i : Int)):=hS3.out.2.1.at_ hP0
 go_wp2_with (first
  | (refine wpList_load_row rfl 71 (.tmp 7) rfl H1 rfl 71 _ (0,0) _ hS3.out.2.1 Try.underlying71 rfl hPs.out ?_)
  | (refine wpList_build_pt rfl (.tmp 185) rfl p CP hcp.out rfl ?_))
 go_ret
 refine ⟨⟨_,[p],rfl,?_,?_⟩,hb3.out.alloc hb3.out.size _⟩
 · refine ⟨by simp,fun q => ?_⟩
   rw [rel_bol hk.out];simp [hi.out]
 · have:=(Pts.one w3 p).mono (b':=w.heap.size) hb3.out.size
   rw [hcp.out] at this
   exact this
theorem reach_7n (m : Nat) (h : Thru w B An nn cn At nt ct ns t g) (hm : m < ns.length) (hp : POK ns t g a p) (hk : (ndA ns (m : Int)).kind = 7) (hi : p.i ≠ 0) :
    Calls Try.prog 26 #[.agg #[.slice An nn cn,.int .i64 g],.slice At nt ct,.int .i64 (m : Int),.agg (ptC p)] w (RchQ w ns t m p):=by
 have hic : ((p.i : Int) != 0) = true:=by rw [bne_iff_ne];omega
 replace hi:=lhi hi
 obtain ⟨N0,N1,N2,N3,N4,N5⟩:=nod_at (ndA ns (m : Int))
 rw [hk] at N0
 have hkh:=lhi hk
 have htx:=lhi (show nt = t.length ∧ nt ≤ 1000000 ∧ p.i ≤ t.length from ⟨h.nt_,h.tl,hp.hi⟩)
 have hmn : m < nn:=by have:=h.nn_;omega
 have hmI0 : (0 : Int) ≤ (m : Int):=by omega
 have hmI1 : (m : Int) < (nn : Int):=by omega
 have hph:=lhi hp
 have hThr:=lhi h
 obtain ⟨ad,bb,oo,rfl,hpp,hbb,hrn⟩:=h.node' hm
 have hrN:=lhi (fun w' (hb : Below w.heap.size w w') => range_below hrn (hb.mono h.base) hbb)
 have hb2:=lhi (((Below.refl w.heap.size w).alloc (nlr _) (.cells #[.slice (some ad) nn cn,.int .i64 g] 24)).alloc (by simp) (.cells (ptC p) 71))
 have hR2:=lhi (show Held _ w.heap.size 24 #[.slice (some ad) nn cn,.int .i64 g] from (held_new w 24 #[.slice (some ad) nn cn,.int .i64 g]).alloc (.cells (ptC p) 71))
 have hP2:=lhi (show Held _ (w.heap.size + 1) 71 (ptC p) from held_new2 w (.cells #[.slice (some ad) nn cn,.int .i64 g] 24) 71 (ptC p))
 have hl2:=lhi (show ((w.alloc (.cells #[.slice (some ad) nn cn,.int .i64 g] 24)).alloc (.cells (ptC p) 71)).heap.size = w.heap.size + 1 + 1 by simp)
 have hPs:=lhi (show (Try.prog.info? 71).map (·.size) = some (ptC p).size by rw [ptC_size];exact size_pt)
 have hP0 : (ptC p)[0]? = some (.int .i64 (p.i : Int)):=rfl
 have hNl:=lhi (nod_size (ndA ns (m : Int)))
 have hNo:=lhi (nod_cells (ndA ns (m : Int)))
 replace hrn:=lhi hrn
 clear h hp hbb
 generalize hcp : ptC p = CP at *
 replace hcp:=lhi hcp
 replace hk:=lhi hk
 go_enter Try.func26,Try.ntmps26
 go_upto_region 1 with fail
 generalize (w.alloc (.cells #[.slice (some ad) nn cn,.int .i64 g] 24)).alloc (.cells CP 71) = w2 at *
 have r0 : w2.cell? ⟨w.heap.size,0,none⟩ = some (.slice (some ad) nn cn):=hR2.out.at_ rfl
 have hr2:=lhi (hrN.out w2 hb2.out)
 have hnull:=lhi (held_new w2 54 #[.int .i64 0,.int .i64 0,.int .i64 0,.int .i64 0,.int .i64 0,.int .i64 0,.int .u64 0,.int .u64 0,.int .u64 0,.int .u64 0])
 go_upto_region 2 with (first
  | (refine wpList_load_mid rfl 54 (.tmp 23) rfl bb oo rfl (nodL (ndA ns (m : Int))) _ hr2.out Try.underlying54 rfl (by rw [nodL_len];kernel_rfl) ?_)
  | (refine wpList_store_row rfl 54 (.tmp 9) (.tmp 24) rfl w2.heap.size (nodC (ndA ns (m : Int))) rfl rfl 54 _ hnull.out hNl.out rfl hNo.out ?_))
 have hb3:=lhi (below_row (hb2.out.alloc hb2.out.size (.cells #[.int .i64 0,.int .i64 0,.int .i64 0,.int .i64 0,.int .i64 0,.int .i64 0,.int .u64 0,.int .u64 0,.int .u64 0,.int .u64 0] 54)) hb2.out.size (nodC (ndA ns (m : Int))))
 have hl3:=lhi (show w.heap.size ≠ w2.heap.size ∧ w.heap.size + 1 ≠ w2.heap.size by have:=hl2.out;omega)
 have hS3:=lhi (show SRe w.heap.size (w.heap.size + 1) w2.heap.size #[.slice (some ad) nn cn,.int .i64 g] CP (nodC (ndA ns (m : Int))) ((w2.alloc (.cells #[.int .i64 0,.int .i64 0,.int .i64 0,.int .i64 0,.int .i64 0,.int .i64 0,.int .u64 0,.int .u64 0,.int .u64 0,.int .u64 0] 54)).setRow w2.heap.size (nodC (ndA ns (m : Int)))) from
  ⟨(hR2.out.alloc _).row_far (by have:=hl3.out;omega) _,(hP2.out.alloc _).row_far (by have:=hl3.out;omega) _,hnull.out.row _⟩)
 generalize (w2.alloc (.cells #[.int .i64 0,.int .i64 0,.int .i64 0,.int .i64 0,.int .i64 0,.int .i64 0,.int .u64 0,.int .u64 0,.int .u64 0,.int .u64 0] 54)).setRow w2.heap.size (nodC (ndA ns (m : Int))) = w3 at *
 generalize w2.heap.size = H2 at *
 generalize hH1 : w.heap.size + 1 = H1 at *
 clear hb2 hR2 hP2 hr2 hnull r0 hNl hNo hrN hrn hl2 hl3
 generalize hcn : nodC (ndA ns (m : Int)) = CN at *
 replace hcn:=lhi hcn
 replace hH1:=lhi hH1
 have k0 : w3.cell? ⟨H2,0,none⟩ = some (.int .i64 7):=hS3.out.2.2.at_ N0
 have p0 : w3.cell? ⟨H1,0,none⟩ = some (.int .i64 (p.i : Int)):=hS3.out.2.1.at_ hP0
 go_wp2
 go_ret
 exact ⟨⟨_,[],rfl,⟨List.nodup_nil,fun q => ⟨(fun h => by cases h),(fun h => by rw [rel_bol hk.out] at h;exact absurd h.1 hi.out)⟩⟩,by exact Pts.nil _ _⟩,hb3.out⟩
theorem reach_8y (m : Nat) (h : Thru w B An nn cn At nt ct ns t g) (hm : m < ns.length) (hp : POK ns t g a p) (hk : (ndA ns (m : Int)).kind = 8) (hi : p.i = t.length) :
    Calls Try.prog 26 #[.agg #[.slice An nn cn,.int .i64 g],.slice At nt ct,.int .i64 (m : Int),.agg (ptC p)] w (RchQ w ns t m p):=by
 have hic : ((p.i : Int) != (nt : Int)) = false:=by rw [hi,h.nt_];simp
 replace hi:=lhi hi
 obtain ⟨N0,N1,N2,N3,N4,N5⟩:=nod_at (ndA ns (m : Int))
 rw [hk] at N0
 have hkh:=lhi hk
 have htx:=lhi (show nt = t.length ∧ nt ≤ 1000000 ∧ p.i ≤ t.length from ⟨h.nt_,h.tl,hp.hi⟩)
 have hmn : m < nn:=by have:=h.nn_;omega
 have hmI0 : (0 : Int) ≤ (m : Int):=by omega
 have hmI1 : (m : Int) < (nn : Int):=by omega
 have hph:=lhi hp
 have hThr:=lhi h
 obtain ⟨ad,bb,oo,rfl,hpp,hbb,hrn⟩:=h.node' hm
 have hrN:=lhi (fun w' (hb : Below w.heap.size w w') => range_below hrn (hb.mono h.base) hbb)
 have hb2:=lhi (((Below.refl w.heap.size w).alloc (nlr _) (.cells #[.slice (some ad) nn cn,.int .i64 g] 24)).alloc (by simp) (.cells (ptC p) 71))
 have hR2:=lhi (show Held _ w.heap.size 24 #[.slice (some ad) nn cn,.int .i64 g] from (held_new w 24 #[.slice (some ad) nn cn,.int .i64 g]).alloc (.cells (ptC p) 71))
 have hP2:=lhi (show Held _ (w.heap.size + 1) 71 (ptC p) from held_new2 w (.cells #[.slice (some ad) nn cn,.int .i64 g] 24) 71 (ptC p))
 have hl2:=lhi (show ((w.alloc (.cells #[.slice (some ad) nn cn,.int .i64 g] 24)).alloc (.cells (ptC p) 71)).heap.size = w.heap.size + 1 + 1 by simp)
 have hPs:=lhi (show (Try.prog.info? 71).map (·.size) = some (ptC p).size by rw [ptC_size];exact size_pt)
 have hP0 : (ptC p)[0]? = some (.int .i64 (p.i : Int)):=rfl
 have hNl:=lhi (nod_size (ndA ns (m : Int)))
 have hNo:=lhi (nod_cells (ndA ns (m : Int)))
 replace hrn:=lhi hrn
 clear h hp hbb
 generalize hcp : ptC p = CP at *
 replace hcp:=lhi hcp
 replace hk:=lhi hk
 go_enter Try.func26,Try.ntmps26
 go_upto_region 1 with fail
 generalize (w.alloc (.cells #[.slice (some ad) nn cn,.int .i64 g] 24)).alloc (.cells CP 71) = w2 at *
 have r0 : w2.cell? ⟨w.heap.size,0,none⟩ = some (.slice (some ad) nn cn):=hR2.out.at_ rfl
 have hr2:=lhi (hrN.out w2 hb2.out)
 have hnull:=lhi (held_new w2 54 #[.int .i64 0,.int .i64 0,.int .i64 0,.int .i64 0,.int .i64 0,.int .i64 0,.int .u64 0,.int .u64 0,.int .u64 0,.int .u64 0])
 go_upto_region 2 with (first
  | (refine wpList_load_mid rfl 54 (.tmp 23) rfl bb oo rfl (nodL (ndA ns (m : Int))) _ hr2.out Try.underlying54 rfl (by rw [nodL_len];kernel_rfl) ?_)
  | (refine wpList_store_row rfl 54 (.tmp 9) (.tmp 24) rfl w2.heap.size (nodC (ndA ns (m : Int))) rfl rfl 54 _ hnull.out hNl.out rfl hNo.out ?_))
 have hb3:=lhi (below_row (hb2.out.alloc hb2.out.size (.cells #[.int .i64 0,.int .i64 0,.int .i64 0,.int .i64 0,.int .i64 0,.int .i64 0,.int .u64 0,.int .u64 0,.int .u64 0,.int .u64 0] 54)) hb2.out.size (nodC (ndA ns (m : Int))))
 have hl3:=lhi (show w.heap.size ≠ w2.heap.size ∧ w.heap.size + 1 ≠ w2.heap.size by have:=hl2.out;omega)
 have hS3:=lhi (show SRe w.heap.size (w.heap.size + 1) w2.heap.size #[.slice (some ad) nn cn,.int .i64 g] CP (nodC (ndA ns (m : Int))) ((w2.alloc (.cells #[.int .i64 0,.int .i64 0,.int .i64 0,.int .i64 0,.int .i64 0,.int .i64 0,.int .u64 0,.int .u64 0,.int .u64 0,.int .u64 0] 54)).setRow w2.heap.size (nodC (ndA ns (m : Int)))) from
  ⟨(hR2.out.alloc _).row_far (by have:=hl3.out;omega) _,(hP2.out.alloc _).row_far (by have:=hl3.out;omega) _,hnull.out.row _⟩)
 generalize (w2.alloc (.cells #[.int .i64 0,.int .i64 0,.int .i64 0,.int .i64 0,.int .i64 0,.int .i64 0,.int .u64 0,.int .u64 0,.int .u64 0,.int .u64 0] 54)).setRow w2.heap.size (nodC (ndA ns (m : Int))) = w3 at *
 generalize w2.heap.size = H2 at *
 generalize hH1 : w.heap.size + 1 = H1 at *
 clear hb2 hR2 hP2 hr2 hnull r0 hNl hNo hrN hrn hl2 hl3
 generalize hcn : nodC (ndA ns (m : Int)) = CN at *
 replace hcn:=lhi hcn
 replace hH1:=lhi hH1
 have k0 : w3.cell? ⟨H2,0,none⟩ = some (.int .i64 8):=hS3.out.2.2.at_ N0
 have p0 : w3.cell? ⟨H1,0,none⟩ = some (.int .i64 (p.i : Int)):=hS3.out.2.1.at_ hP0
 go_wp2_with (first
  | (refine wpList_load_row rfl 71 (.tmp 7) rfl H1 rfl 71 _ (0,0) _ hS3.out.2.1 Try.underlying71 rfl hPs.out ?_)
  | (refine wpList_build_pt rfl (.tmp 185) rfl p CP hcp.out rfl ?_))
 go_ret
 refine ⟨⟨_,[p],rfl,?_,?_⟩,hb3.out.alloc hb3.out.size _⟩
 · refine ⟨by simp,fun q => ?_⟩
   rw [rel_eol hk.out];simp [hi.out]
 · have:=(Pts.one w3 p).mono (b':=w.heap.size) hb3.out.size
   rw [hcp.out] at this
   exact this
theorem reach_8n (m : Nat) (h : Thru w B An nn cn At nt ct ns t g) (hm : m < ns.length) (hp : POK ns t g a p) (hk : (ndA ns (m : Int)).kind = 8) (hi : p.i ≠ t.length) :
    Calls Try.prog 26 #[.agg #[.slice An nn cn,.int .i64 g],.slice At nt ct,.int .i64 (m : Int),.agg (ptC p)] w (RchQ w ns t m p):=by
 have hic : ((p.i : Int) != (nt : Int)) = true:=by rw [bne_iff_ne];have:=h.nt_;omega
 replace hi:=lhi hi
 obtain ⟨N0,N1,N2,N3,N4,N5⟩:=nod_at (ndA ns (m : Int))
 rw [hk] at N0
 have hkh:=lhi hk
 have htx:=lhi (show nt = t.length ∧ nt ≤ 1000000 ∧ p.i ≤ t.length from ⟨h.nt_,h.tl,hp.hi⟩)
 have hmn : m < nn:=by have:=h.nn_;omega
 have hmI0 : (0 : Int) ≤ (m : Int):=by omega
 have hmI1 : (m : Int) < (nn : Int):=by omega
 have hph:=lhi hp
 have hThr:=lhi h
 obtain ⟨ad,bb,oo,rfl,hpp,hbb,hrn⟩:=h.node' hm
 have hrN:=lhi (fun w' (hb : Below w.heap.size w w') => range_below hrn (hb.mono h.base) hbb)
 have hb2:=lhi (((Below.refl w.heap.size w).alloc (nlr _) (.cells #[.slice (some ad) nn cn,.int .i64 g] 24)).alloc (by simp) (.cells (ptC p) 71))
 have hR2:=lhi (show Held _ w.heap.size 24 #[.slice (some ad) nn cn,.int .i64 g] from (held_new w 24 #[.slice (some ad) nn cn,.int .i64 g]).alloc (.cells (ptC p) 71))
 have hP2:=lhi (show Held _ (w.heap.size + 1) 71 (ptC p) from held_new2 w (.cells #[.slice (some ad) nn cn,.int .i64 g] 24) 71 (ptC p))
 have hl2:=lhi (show ((w.alloc (.cells #[.slice (some ad) nn cn,.int .i64 g] 24)).alloc (.cells (ptC p) 71)).heap.size = w.heap.size + 1 + 1 by simp)
 have hPs:=lhi (show (Try.prog.info? 71).map (·.size) = some (ptC p).size by rw [ptC_size];exact size_pt)
 have hP0 : (ptC p)[0]? = some (.int .i64 (p.i : Int)):=rfl
 have hNl:=lhi (nod_size (ndA ns (m : Int)))
 have hNo:=lhi (nod_cells (ndA ns (m : Int)))
 replace hrn:=lhi hrn
 clear h hp hbb
 generalize hcp : ptC p = CP at *
 replace hcp:=lhi hcp
 replace hk:=lhi hk
 go_enter Try.func26,Try.ntmps26
 go_upto_region 1 with fail
 generalize (w.alloc (.cells #[.slice (some ad) nn cn,.int .i64 g] 24)).alloc (.cells CP 71) = w2 at *
 have r0 : w2.cell? ⟨w.heap.size,0,none⟩ = some (.slice (some ad) nn cn):=hR2.out.at_ rfl
 have hr2:=lhi (hrN.out w2 hb2.out)
 have hnull:=lhi (held_new w2 54 #[.int .i64 0,.int .i64 0,.int .i64 0,.int .i64 0,.int .i64 0,.int .i64 0,.int .u64 0,.int .u64 0,.int .u64 0,.int .u64 0])
 go_upto_region 2 with (first
  | (refine wpList_load_mid rfl 54 (.tmp 23) rfl bb oo rfl (nodL (ndA ns (m : Int))) _ hr2.out Try.underlying54 rfl (by rw [nodL_len];kernel_rfl) ?_)
  | (refine wpList_store_row rfl 54 (.tmp 9) (.tmp 24) rfl w2.heap.size (nodC (ndA ns (m : Int))) rfl rfl 54 _ hnull.out hNl.out rfl hNo.out ?_))
 have hb3:=lhi (below_row (hb2.out.alloc hb2.out.size (.cells #[.int .i64 0,.int .i64 0,.int .i64 0,.int .i64 0,.int .i64 0,.int .i64 0,.int .u64 0,.int .u64 0,.int .u64 0,.int .u64 0] 54)) hb2.out.size (nodC (ndA ns (m : Int))))
 have hl3:=lhi (show w.heap.size ≠ w2.heap.size ∧ w.heap.size + 1 ≠ w2.heap.size by have:=hl2.out;omega)
 have hS3:=lhi (show SRe w.heap.size (w.heap.size + 1) w2.heap.size #[.slice (some ad) nn cn,.int .i64 g] CP (nodC (ndA ns (m : Int))) ((w2.alloc (.cells #[.int .i64 0,.int .i64 0,.int .i64 0,.int .i64 0,.int .i64 0,.int .i64 0,.int .u64 0,.int .u64 0,.int .u64 0,.int .u64 0] 54)).setRow w2.heap.size (nodC (ndA ns (m : Int)))) from
  ⟨(hR2.out.alloc _).row_far (by have:=hl3.out;omega) _,(hP2.out.alloc _).row_far (by have:=hl3.out;omega) _,hnull.out.row _⟩)
 generalize (w2.alloc (.cells #[.int .i64 0,.int .i64 0,.int .i64 0,.int .i64 0,.int .i64 0,.int .i64 0,.int .u64 0,.int .u64 0,.int .u64 0,.int .u64 0] 54)).setRow w2.heap.size (nodC (ndA ns (m : Int))) = w3 at *
 generalize w2.heap.size = H2 at *
 generalize hH1 : w.heap.size + 1 = H1 at *
 clear hb2 hR2 hP2 hr2 hnull r0 hNl hNo hrN hrn hl2 hl3
 generalize hcn : nodC (ndA ns (m : Int)) = CN at *
 replace hcn:=lhi hcn
 replace hH1:=lhi hH1
 have k0 : w3.cell? ⟨H2,0,none⟩ = some (.int .i64 8):=hS3.out.2.2.at_ N0
 have p0 : w3.cell? ⟨H1,0,none⟩ = some (.int .i64 (p.i : Int)):=hS3.out.2.1.at_ hP0
 go_wp2
 go_ret
 exact ⟨⟨_,[],rfl,⟨List.nodup_nil,fun q => ⟨(fun h => by cases h),(fun h => by rw [rel_eol hk.out] at h;exact absurd h.1 hi.out)⟩⟩,by exact Pts.nil _ _⟩,hb3.out⟩
end
end Go.Proofs.Ytbdfhmefjfaofaa
