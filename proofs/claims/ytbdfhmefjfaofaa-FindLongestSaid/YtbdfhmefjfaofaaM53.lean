/- Contracts and plain facts: M53. -/
import Derived.Test.YtbdfhmefjfaofaaM49
import Derived.Test.YtbdfhmefjfaofaaM50
import Derived.Test.YtbdfhmefjfaofaaM52
set_option linter.unusedVariables false
set_option linter.unusedSimpArgs false
set_option maxRecDepth 100000
set_option maxHeartbeats 32000000
namespace Go.Proofs.Ytbdfhmefjfaofaa
open Go.RowKit
section
variable {w w' w1 : World} {B : Nat} {An : Option Addr} {nn cn : Nat} {At : Option Addr} {nt ct : Nat} {ns : List Nod} {t : List UInt8} {g : Int} {a : Nat} {D : Nat} {p : Pt} {F : Int → Pt → Prop}
theorem reach_4 (m : Nat) (hW : ReachOK B An nn cn At nt ct ns t g a F m) (h : Thru w B An nn cn At nt ct ns t g) (hm : m < ns.length) (hp : POK ns t g a p) (hk : (ndA ns (m : Int)).kind = 4) (hF : Bnd ns t F) (hst : F (m : Int) p) :
    Calls Try.prog 26 #[.agg #[.slice An nn cn,.int .i64 g],.slice At nt ct,.int .i64 (m : Int),.agg (ptC p)] w (RchQ w ns t m p):=by
 obtain ⟨N0,N1,N2,N3,N4,N5⟩:=nod_at (ndA ns (m : Int))
 rw [hk] at N0
 have hkh:=lhi hk
 have htx:=lhi (show nt = t.length ∧ nt ≤ 1000000 ∧ p.i ≤ t.length from ⟨h.nt_,h.tl,hp.hi⟩)
 have hmn : m < nn:=by have:=h.nn_;omega
 have hmI0 : (0 : Int) ≤ (m : Int):=by omega
 have hmI1 : (m : Int) < (nn : Int):=by omega
 have hph:=lhi hp
 have hThr:=lhi h
 have hCt:=lhi (fun (w' : World) (hb : Below w.heap.size w w') => show Calls Try.prog 40 #[.agg #[.slice An nn cn,.int .i64 g],.slice At nt ct,.agg (nodC (ndA ns (m : Int))),.agg (ptC p)] w' (RchQ w' ns t m p) from rtimes_any m hW (h.below (hb.mono h.base)) hm hp hk hF hst)
 have hNs:=lhi (nod_size (ndA ns (m : Int)))
 clear hW hst hF
 obtain ⟨ad,bb,oo,rfl,hpp,hbb,hrn⟩:=h.node' hm
 have hrN:=lhi (fun w' (hb : Below w.heap.size w w') => range_below hrn (hb.mono h.base) hbb)
 have hb2:=lhi (((Below.refl w.heap.size w).alloc (nlr _) (.cells #[.slice (some ad) nn cn,.int .i64 g] 24)).alloc (by simp) (.cells (ptC p) 71))
 have hR2:=lhi (show Held _ w.heap.size 24 #[.slice (some ad) nn cn,.int .i64 g] from (held_new w 24 #[.slice (some ad) nn cn,.int .i64 g]).alloc (.cells (ptC p) 71))
 have hP2:=lhi (show Held _ (w.heap.size + 1) 71 (ptC p) from held_new2 w (.cells #[.slice (some ad) nn cn,.int .i64 g] 24) 71 (ptC p))
 have hl2:=lhi (show ((w.alloc (.cells #[.slice (some ad) nn cn,.int .i64 g] 24)).alloc (.cells (ptC p) 71)).heap.size = w.heap.size + 1 + 1 by simp)
 have hPs:=lhi (show (Try.prog.info? 71).map (·.size) = some (ptC p).size by rw [ptC_size];exact size_pt)
 have hP0 : (ptC p)[0]? = some (.int .i64 (p.i : Int)):=rfl
 have hNl:=lhi (nod_size (ndA ns (m : Int)))
 have hNo:=lhi (nod_cells (ndA ns (m : Int)))
 replace hrn:=lhi hrn
 clear h hp hbb
 generalize hcp : ptC p = CP at *
 replace hcp:=lhi hcp
 replace hk:=lhi hk
 go_enter Try.func26,Try.ntmps26
 go_upto_region 1 with fail
 generalize (w.alloc (.cells #[.slice (some ad) nn cn,.int .i64 g] 24)).alloc (.cells CP 71) = w2 at *
 have r0 : w2.cell? ⟨w.heap.size,0,none⟩ = some (.slice (some ad) nn cn):=hR2.out.at_ rfl
 have hr2:=lhi (hrN.out w2 hb2.out)
 have hnull:=lhi (held_new w2 54 #[.int .i64 0,.int .i64 0,.int .i64 0,.int .i64 0,.int .i64 0,.int .i64 0,.int .u64 0,.int .u64 0,.int .u64 0,.int .u64 0])
 go_upto_region 2 with (first
  | (refine wpList_load_mid rfl 54 (.tmp 23) rfl bb oo rfl (nodL (ndA ns (m : Int))) _ hr2.out Try.underlying54 rfl (by rw [nodL_len];kernel_rfl) ?_)
  | (refine wpList_store_row rfl 54 (.tmp 9) (.tmp 24) rfl w2.heap.size (nodC (ndA ns (m : Int))) rfl rfl 54 _ hnull.out hNl.out rfl hNo.out ?_))
 have hb3:=lhi (below_row (hb2.out.alloc hb2.out.size (.cells #[.int .i64 0,.int .i64 0,.int .i64 0,.int .i64 0,.int .i64 0,.int .i64 0,.int .u64 0,.int .u64 0,.int .u64 0,.int .u64 0] 54)) hb2.out.size (nodC (ndA ns (m : Int))))
 have hl3:=lhi (show w.heap.size ≠ w2.heap.size ∧ w.heap.size + 1 ≠ w2.heap.size by have:=hl2.out;omega)
 have hS3:=lhi (show SRe w.heap.size (w.heap.size + 1) w2.heap.size #[.slice (some ad) nn cn,.int .i64 g] CP (nodC (ndA ns (m : Int))) ((w2.alloc (.cells #[.int .i64 0,.int .i64 0,.int .i64 0,.int .i64 0,.int .i64 0,.int .i64 0,.int .u64 0,.int .u64 0,.int .u64 0,.int .u64 0] 54)).setRow w2.heap.size (nodC (ndA ns (m : Int)))) from
  ⟨(hR2.out.alloc _).row_far (by have:=hl3.out;omega) _,(hP2.out.alloc _).row_far (by have:=hl3.out;omega) _,hnull.out.row _⟩)
 generalize (w2.alloc (.cells #[.int .i64 0,.int .i64 0,.int .i64 0,.int .i64 0,.int .i64 0,.int .i64 0,.int .u64 0,.int .u64 0,.int .u64 0,.int .u64 0] 54)).setRow w2.heap.size (nodC (ndA ns (m : Int))) = w3 at *
 generalize w2.heap.size = H2 at *
 generalize hH1 : w.heap.size + 1 = H1 at *
 clear hb2 hR2 hP2 hr2 hnull r0 hNl hNo hrN hrn hl2 hl3
 generalize hcn : nodC (ndA ns (m : Int)) = CN at *
 replace hcn:=lhi hcn
 replace hH1:=lhi hH1
 have k0 : w3.cell? ⟨H2,0,none⟩ = some (.int .i64 4):=hS3.out.2.2.at_ N0
 have r0 : w3.cell? ⟨w.heap.size,0,none⟩ = some (.slice (some ad) nn cn):=hS3.out.1.at_ rfl
 have r1 : w3.cell? ⟨w.heap.size,1,none⟩ = some (.int .i64 g):=hS3.out.1.at_ rfl
 go_wp2_with (first
  | (refine wpList_load_row rfl 71 (.tmp 7) rfl H1 rfl 71 _ (0,0) _ hS3.out.2.1 Try.underlying71 rfl hPs.out ?_)
  | (refine wpList_load_row rfl 54 (.tmp 9) rfl H2 rfl 54 _ (0,0) _ hS3.out.2.2 Try.underlying54 rfl hNs.out ?_)
  | (go_at_call 40;refine (hCt.out w3 hb3.out).mono ?_;rintro e w4 ⟨⟨va,la,rfl,hRa,hPa⟩,hb4⟩))
 go_ret
 exact ⟨⟨_,la,rfl,hRa,hPa.mono hb3.out.size⟩,hb3.out.trans (hb4.mono hb3.out.size)⟩
theorem reach_any (hF : Bnd ns t F) : ∀ M,ReachOK B An nn cn At nt ct ns t g a F M:=by
 intro M
 induction M with
 | zero => intro w m p _ _ _ _ h;omega
 | succ M ih =>
  intro w m p h hm hp hst hx
  have hW : ReachOK B An nn cn At nt ct ns t g a F m:=fun w' m' p' h' hm' hp' hst' hy => ih w' m' p' h' hm' hp' hst' (by omega)
  have hkk:=(h.rt.2.2 (m : Int) (by omega) (by omega)).1
  have hk : (ndA ns (m : Int)).kind = 0 ∨ (ndA ns (m : Int)).kind = 1 ∨ (ndA ns (m : Int)).kind = 2 ∨ (ndA ns (m : Int)).kind = 3 ∨ (ndA ns (m : Int)).kind = 4 ∨ (ndA ns (m : Int)).kind = 5 ∨ (ndA ns (m : Int)).kind = 6 ∨ (ndA ns (m : Int)).kind = 7 ∨ (ndA ns (m : Int)).kind = 8:=by omega
  rcases hk with hk | hk | hk | hk | hk | hk | hk | hk | hk
  · exact reach_0 m h hm hp hk
  · by_cases hlt : p.i < t.length
    · cases hr : (ndA ns (m : Int)).set (t[p.i]'hlt).toNat with
      | true => exact reach_1y m h hm hp hk hlt hr
      | false => exact reach_1n m h hm hp hk hlt hr
    · exact reach_1e m h hm hp hk (by omega)
  · exact reach_2 m hW h hm hp hk hF hst
  · exact reach_3 m hW h hm hp hk hF hst
  · exact reach_4 m hW h hm hp hk hF hst
  · exact reach_5 m hW h hm hp hk hF hst
  · cases hb : backAt t (p.sp (ndA ns (m : Int)).grp.toNat) p.i with
    | some j => exact reach_6y m h hm hp hk j hb
    | none => exact reach_6n m h hm hp hk hb
  · by_cases hi : p.i = 0
    · exact reach_7y m h hm hp hk hi
    · exact reach_7n m h hm hp hk hi
  · by_cases hi : p.i = t.length
    · exact reach_8y m h hm hp hk hi
    · exact reach_8n m h hm hp hk hi
end
end Go.Proofs.Ytbdfhmefjfaofaa
