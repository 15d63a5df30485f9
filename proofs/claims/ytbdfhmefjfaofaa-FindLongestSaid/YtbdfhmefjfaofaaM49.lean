/- Contracts and plain facts: M49. -/
import Derived.Test.YtbdfhmefjfaofaaM48
set_option linter.unusedVariables false
set_option linter.unusedSimpArgs false
set_option maxRecDepth 100000
set_option maxHeartbeats 32000000
namespace Go.Proofs.Ytbdfhmefjfaofaa
open Go.RowKit
def STm (H H1 H2 : Nat) (RE CN CP : Array Value) (w' : World) : Prop:=Held w' H 24 RE ∧ Held w' H1 54 CN ∧ Held w' H2 71 CP
theorem STm.below {H H1 H2 : Nat} {RE CN CP : Array Value} {w1 w2 : World} (h : STm H H1 H2 RE CN CP w1) (hb : Below w1.heap.size w1 w2) : STm H H1 H2 RE CN CP w2:=⟨h.1.keep hb,h.2.1.keep hb,h.2.2.keep hb⟩
def ST2 (H H1 H2 : Nat) (RE CN CP : Array Value) (G o : Nat) (L : List Value) (w' : World) : Prop:=STm H H1 H2 RE CN CP w' ∧ w'.rangeAt G o L
theorem ST2.below {H H1 H2 : Nat} {RE CN CP : Array Value} {G o : Nat} {L : List Value} {w1 w2 : World} (h : ST2 H H1 H2 RE CN CP G o L w1) (hG : G < w1.heap.size) (hb : Below w1.heap.size w1 w2) : ST2 H H1 H2 RE CN CP G o L w2:=⟨h.1.below hb,range_below h.2 hb hG⟩
section
variable {w w' w1 : World} {B : Nat} {An : Option Addr} {nn cn : Nat} {At : Option Addr} {nt ct : Nat} {ns : List Nod} {t : List UInt8} {g : Int} {a : Nat} {D : Nat} {p : Pt} {F : Int → Pt → Prop}
theorem rtimes_any (m : Nat) (hW : ReachOK B An nn cn At nt ct ns t g a F m) (h : Thru w B An nn cn At nt ct ns t g) (hm : m < ns.length) (hp : POK ns t g a p) (hk : (ndA ns (m : Int)).kind = 4) (hF : Bnd ns t F) (hst : F (m : Int) p) :
    Calls Try.prog 40 #[.agg #[.slice An nn cn,.int .i64 g],.slice At nt ct,.agg (nodC (ndA ns (m : Int))),.agg (ptC p)] w (RchQ w ns t m p):=by
 obtain ⟨N0,N1,N2,N3,N4,N5⟩:=nod_at (ndA ns (m : Int))
 have hrt:=h.rt
 obtain ⟨ha0,ha1⟩:=(hrt.2.2 (m : Int) (by omega) (by omega)).2.2.1 (.inl hk)
 obtain ⟨⟨hl0,hl1⟩,hh0⟩:=(hrt.2.2 (m : Int) (by omega) (by omega)).2.2.2.1 hk
 obtain ⟨ka,hka⟩:=Int.eq_ofNat_of_zero_le ha0
 have hal : ka < ns.length:=by omega
 rw [hka] at N1
 have hkm : ka < m:=by omega
 have hPI : ∀ k q,It ns t (m : Int) p k q → POK ns t g a q:=fun k q hq => ⟨Nat.le_trans hp.lo (Nat.le_trans (Nat.le_add_right _ _) hq.le.1),hq.le.2 hp.hi,hq.lies hrt ⟨by omega,by omega⟩ hk (by have:=hp.lo;show (a : Int) ≤ (p.i : Int);exact Int.ofNat_le.2 this) hp.lies,fun _ hx => nomatch hx⟩
 have hnI:=lhi (fun k q (hq : It ns t (m : Int) p k q) => (hPI k q hq).nrm hrt)
 have hleI:=lhi (fun k q (hq : It ns t (m : Int) p k q) => show k ≤ t.length from by
  have h1:=hq.le.1
  have h2:=hq.le.2 hp.hi
  omega)
 have hCa:=lhi (fun (w' : World) (hb : Below w.heap.size w w') (k : Nat) (q : Pt) (hq : It ns t (m : Int) p k q) (hh : (ndA ns (m : Int)).hi = -1 ∨ (k : Int) < (ndA ns (m : Int)).hi) => show Calls Try.prog 26 #[.agg #[.slice An nn cn,.int .i64 g],.slice At nt ct,.int .i64 (ka : Int),.agg (ptL q).toArray] w' (RchQ w' ns t ka q) from by
  have h2:=hF.rep hk hst k q hq hh
  rw [hka] at h2
  exact hW w' ka q (h.below (hb.mono h.base)) hal (hPI k q hq) h2 (by omega))
 have hlm:=lhi (fun (k : Nat) (q : Pt) (hq : It ns t (m : Int) p k q) (hh : (ndA ns (m : Int)).hi = -1 ∨ (k : Int) < (ndA ns (m : Int)).hi) (l : List Pt) (hl : Rch ns t (ka : Int) q l) => show l.length ≤ 500000000000 from by
  have h2:=hF.rep hk hst k q hq hh
  rw [hka] at h2
  exact hF.rch h2 hl)
 have hE1:=lhi (fun (k : Nat) (q : Pt) (hq : It ns t (m : Int) p k q) (hh : (ndA ns (m : Int)).lo ≤ (k : Int)) => show Rel ns t (.node (m : Int)) p q from (rel_rep hk).2 (more_emit.2 ⟨k,q,hq,.inl ⟨hh,rfl⟩⟩))
 have hE2:=lhi (fun (k : Nat) (y q : Pt) (hq : It ns t (m : Int) p k y) (hh : (ndA ns (m : Int)).hi = -1 ∨ (k : Int) < (ndA ns (m : Int)).hi) (h1 : Rel ns t (.node (ka : Int)) y q) (h2 : q.i = y.i) (h3 : (k : Int) < (ndA ns (m : Int)).lo) => show Rel ns t (.node (m : Int)) p q from (rel_rep hk).2 (more_emit.2 ⟨k,y,hq,.inr ⟨hh,by rw [hka];exact h1,h2,h3⟩⟩))
 have hE3:=lhi (fun (k : Nat) (y q : Pt) (hq : It ns t (m : Int) p k y) (hh : (ndA ns (m : Int)).hi = -1 ∨ (k : Int) < (ndA ns (m : Int)).hi) (h1 : Rel ns t (.node (ka : Int)) y q) (h2 : q.i ≠ y.i) => show It ns t (m : Int) p (k + 1) q from .succ hq hh (by rw [hka];exact h1) h2)
 have hEo:=lhi (fun (k : Nat) (now out : List Pt) (hT : Tim ns t (m : Int) p k now out) (q : Pt) (hq : q ∈ out) => show Rel ns t (.node (m : Int)) p q from by
  obtain ⟨j,z,_,h1,h2⟩:=(hT.om q).1 hq
  exact (rel_rep hk).2 (more_emit.2 ⟨j,z,h1,h2⟩))
 have hDry:=lhi (fun (k : Nat) (out : List Pt) (hT : Tim ns t (m : Int) p k [] out) => show Rch ns t (m : Int) p out from ⟨hT.on,fun q => by rw [rel_rep hk];exact hT.dry q⟩)
 have hTop:=lhi (fun (k : Nat) (now out out' : List Pt) (hT : Tim ns t (m : Int) p k now out) (h1 : 0 ≤ (ndA ns (m : Int)).hi) (h2 : (ndA ns (m : Int)).hi ≤ (k : Int)) (hn : out'.Nodup) (ho : ∀ q,q ∈ out' ↔ q ∈ out ∨ ((ndA ns (m : Int)).lo ≤ (k : Int) ∧ q ∈ now)) => show Rch ns t (m : Int) p out' from ⟨hn,fun q => by rw [rel_rep hk];exact hT.top h1 h2 ho q⟩)
 have hTnx:=lhi (fun (k : Nat) (now out out' next : List Pt) (hT : Tim ns t (m : Int) p k now out) (hh : (ndA ns (m : Int)).hi = -1 ∨ (k : Int) < (ndA ns (m : Int)).hi) (hn : next.Nodup) (ho' : out'.Nodup)
  (hm : ∀ q,q ∈ next ↔ ∃ y ∈ now,Rel ns t (.node (ka : Int)) y q ∧ q.i ≠ y.i)
  (ho : ∀ q,q ∈ out' ↔ (q ∈ out ∨ ((ndA ns (m : Int)).lo ≤ (k : Int) ∧ q ∈ now)) ∨ ((k : Int) < (ndA ns (m : Int)).lo ∧ ∃ y ∈ now,Rel ns t (.node (ka : Int)) y q ∧ q.i = y.i)) => show Tim ns t (m : Int) p (k + 1) next out' from by
  rw [← hka] at hm ho
  exact hT.next hh hn ho' hm ho)
 have hlen:=lhi (fun (l : List Pt) (hn : l.Nodup) (hl : ∀ q ∈ l,Rel ns t (.node (m : Int)) p q) => show l.length ≤ 500000000000 from hF.few hst l hn hl)
 have hlenI:=lhi (fun (k : Nat) (l : List Pt) (hn : l.Nodup) (hl : ∀ q ∈ l,It ns t (m : Int) p k q) => show l.length ≤ 500000000000 from hF.fewI hk hst k l hn hl)
 have hnr:=lhi (fun q (hq : Rel ns t (.node (m : Int)) p q) => show Nrm q from POK.nrm hrt (hp.rel hrt (by omega) (by omega) hq))
 have hmt:=lhi (show t.length ≤ 1000000 by have:=h.nt_;have:=h.tl;omega)
 obtain ⟨ad,bb,oo,rfl,hpp,hbb,hrn⟩:=h.node' hm
 clear hW hst hrt ha0 ha1 hF hPI hp hm h hpp hbb hrn hka hal hkm hk
 have hb2:=lhi ((((Below.refl w.heap.size w).alloc (nlr _) (.cells #[.slice (some ad) nn cn,.int .i64 g] 24)).alloc (by simp) (.cells (nodC (ndA ns (m : Int))) 54)).alloc (by simp;omega) (.cells (ptC p) 71))
 have hT2:=lhi (show STm w.heap.size (w.heap.size + 1) (w.heap.size + 1 + 1) #[.slice (some ad) nn cn,.int .i64 g] (nodC (ndA ns (m : Int))) (ptC p) (((w.alloc (.cells #[.slice (some ad) nn cn,.int .i64 g] 24)).alloc (.cells (nodC (ndA ns (m : Int))) 54)).alloc (.cells (ptC p) 71)) from
  ⟨((held_new w _ _).alloc _).alloc _,(held_new2 w _ _ _).alloc _,by have:=held_new ((w.alloc (.cells #[.slice (some ad) nn cn,.int .i64 g] 24)).alloc (.cells (nodC (ndA ns (m : Int))) 54)) 71 (ptC p);simpa using this⟩)
 have hPs:=lhi (show (Try.prog.info? 71).map (·.size) = some (ptC p).size by rw [ptC_size];exact size_pt)
 generalize (ndA ns (m : Int)).lo = lo at *
 generalize (ndA ns (m : Int)).hi = hi at *
 generalize nodC (ndA ns (m : Int)) = CN at *
 generalize hcp : ptC p = CP at *
 replace hcp:=lhi hcp
 go_enter Try.func40,Try.ntmps40
 go_upto_region 1 with fail
 generalize ((w.alloc (.cells #[.slice (some ad) nn cn,.int .i64 g] 24)).alloc (.cells CN 54)).alloc (.cells CP 71) = w2 at *
 generalize w.heap.size + 1 + 1 = H2 at *
 generalize hH1 : w.heap.size + 1 = H1 at *
 clear hH1
 go_upto_region 3 with (first
  | (refine wpList_load_row rfl 71 (.tmp 7) rfl H2 rfl 71 _ (0,0) _ hT2.out.2.2 Try.underlying71 rfl hPs.out ?_)
  | (refine wpList_build_pt rfl (.tmp 17) rfl p CP hcp.out rfl ?_))
 have hB3:=lhi (hb2.out.alloc hb2.out.size (.cells CP 71))
 have hT3:=lhi (hT2.out.below ((Below.refl w2.heap.size w2).alloc (nlr _) (.cells CP 71)))
 have hP3:=lhi (show Pts (w2.alloc (.cells CP 71)) w.heap.size (.slice (some ⟨w2.heap.size,0,none⟩) 1 1) [p] from by
  have:=(Pts.one w2 p).mono (b':=w.heap.size) hb2.out.size
  rw [hcp.out] at this
  exact this)
 generalize w2.alloc (.cells CP 71) = w3 at *
 have N1h:=lhi N1
 have N3h:=lhi N3
 have N4h:=lhi N4
 clear N0 N1 N2 N3 N4 N5 hT2 hb2
 go_wp2
 go_loopw [9,10,11] (fun vo vn vk wr => ∃ (o u : Value) (k : Nat) (out now : List Pt),o = vo ∧ u = vn ∧ vk = .int .i64 (k : Int) ∧ Pts wr w.heap.size o out ∧ Pts wr w.heap.size u now ∧ Tim ns t (m : Int) p k now out ∧ STm w.heap.size H1 H2 #[.slice (some ad) nn cn,.int .i64 g] CN CP wr ∧ Below w.heap.size w wr ∧ k ≤ t.length + 1) (fun _ _ vk _ => t.length + 2 - (intOf vk).toNat)
 case atStart => exact ⟨_,_,0,[],[p],rfl,rfl,rfl,Pts.nil _ _,hP3.out,Tim.zero,hT3.out,hB3.out,Nat.zero_le _⟩
 case round =>
  obtain ⟨o,u,k,out,now,rfl,rfl,rfl,hPo,hPu,hTim,hT,hB,hk1⟩:=hrel
  obtain ⟨Wk,hRn⟩ : ∃ z,z = wr:=⟨_,rfl⟩;subst hRn
  obtain ⟨Au,cu,rfl,_⟩:=hPu.prow
  replace hPu:=lhi hPu
  replace hPo:=lhi hPo
  replace hTim:=lhi hTim
  replace hT:=lhi hT
  replace hB:=lhi hB
  have hlnow:=hlenI.out k now hTim.out.nn (fun q hq => (hTim.out.nm q).1 hq)
  generalize hnn : now.length = n at *
  replace hnn:=lhi hnn
  by_cases hn0 : n = 0
  · have hnil : now = []:=List.length_eq_zero_iff.1 (by rw [hnn.out];exact hn0)
    have hfin:=lhi (hDry.out k out (hnil ▸ hTim.out))
    clear hnil
    subst hn0
    go_wp2
    go_ret
    exact ⟨⟨_,out,rfl,hfin.out,hPo.out⟩,hB.out⟩
  · have hn1 : (0 : Int) < (n : Int):=by omega
    have hn2 : 0 < n:=by omega
    have hn3 : decide (0 < n) = true:=decide_eq_true hn2
    have hn4 : decide ((0 : Int) < (n : Int)) = true:=decide_eq_true hn1
    have hkt:=lhi (show k ≤ t.length from hleI.out k (now[0]'(by rw [hnn.out];omega)) ((hTim.out.nm _).1 (List.getElem_mem _)))
    have hw2k : IntKind.i64.wrap ((k : Int) + 1) = (k : Int) + 1:=IntWalk.i64_in _ (by have:=hkt.out;have:=hmt.out;omega)
    have k3 : Wk.cell? ⟨H1,3,none⟩ = some (.int .i64 lo):=hT.out.2.1.at_ N3h.out
    have ho0:=lhi (fun q (hq : q ∈ out) => hEo.out k now out hTim.out q hq)
    replace hk1:=lhi hk1
    by_cases hlk : lo ≤ (k : Int)
    · have dA : decide (lo ≤ (k : Int)) = true:=decide_eq_true hlk
      have hlkh:=lhi hlk
      have hn0R:=lhi (fun q (hq : q ∈ now) => hE1.out k q ((hTim.out.nm q).1 hq) hlkh.out)
      go_wp2
      go_loopw [9,12] (fun v i wr => ∃ (v0 : Value) (k : Nat) (l : List Pt),v0 = v ∧ k ≤ n ∧ i = .int .i64 (k : Int) ∧ Pts wr w.heap.size v l ∧ l.Nodup ∧ (∀ q,q ∈ l ↔ q ∈ out ∨ q ∈ now.take k) ∧ Below Wk.heap.size Wk wr) (fun _ i _ => n - (intOf i).toNat)
      case atStart => exact ⟨_,0,out,rfl,Nat.zero_le _,rfl,hPo.out,hTim.out.on,fun q => by simp,Below.refl _ _⟩
      case round =>
       obtain ⟨v,j,l,rfl,hj',rfl,hPl,hnd,hmem,hbr⟩:=hrel
       have hPlh:=lhi hPl
       have hndh:=lhi hnd
       have hmemh:=lhi hmem
       have hbrh:=lhi hbr
       clear hPl hnd hmem hbr
       by_cases hltj : j < n
       · have k3q : wr.cell? ⟨H1,3,none⟩ = some (.int .i64 lo):=(hT.out.below hbrh.out).2.1.at_ N3h.out
         have hkx : j < now.length:=by rw [hnn.out];exact hltj
         obtain ⟨G,c',e',_,hG,hrg⟩:=(hPu.out.keep hbrh.out).range hkx
         rw [hnn.out] at e'
         obtain ⟨rfl,rfl⟩ : Au = some ⟨G,0,none⟩ ∧ cu = c':=by injection e' with e1 _ e2;exact ⟨e1,e2⟩
         have hrgh:=lhi hrg
         have hB6:=lhi (hB.out.trans (hbrh.out.mono hB.out.size))
         have hlr : ∀ q ∈ l,Rel ns t (.node (m : Int)) p q:=fun q hq => by
          rcases (hmemh.out q).1 hq with h1 | h1
          · exact ho0.out q h1
          · exact hn0R.out q (List.mem_of_mem_take h1)
         have hqr : Rel ns t (.node (m : Int)) p (now[j]'hkx):=hn0R.out _ (List.getElem_mem hkx)
         have hCw:=lhi (show Calls Try.prog 39 #[v,.agg (ptL (now[j]'hkx)).toArray] wr fun e w' => (∃ v' l',e = .returned v' ∧ PutP l (now[j]'hkx) l' ∧ Pts w' w.heap.size v' l') ∧ Below wr.heap.size wr w' from
          rwith_any w.heap.size v l (now[j]'hkx) wr hB6.out.size hPlh.out (hnr.out _ hqr) (fun q hq => hnr.out q (hlr q hq)) (hlen.out l hndh.out hlr))
         have hLl:=lhi (ptL_len (now[j]'hkx))
         have hput:=lhi (fun l' (hp' : PutP l (now[j]'hkx) l') => putP_take hkx hmemh.out hp')
         have hjI : (j : Int) < (n : Int):=by omega
         have hw2j : IntKind.i64.wrap ((j : Int) + 1) = (j : Int) + 1:=IntWalk.i64_in _ (by omega)
         clear hrg e' hqr hlr
         generalize hq : now[j]'hkx = qk at *
         replace hq:=lhi hq
         go_wp2_with (first
          | (refine wpList_load_mid rfl 71 (.tmp 39) rfl G (j * 21) rfl (ptL qk) _ hrgh.out Try.underlying71 rfl (by rw [hLl.out];exact size_pt) ?_)
          | (go_at_call 39;refine hCw.out.mono ?_;rintro e w9 ⟨⟨v',l',rfl,hpu,hP9⟩,hb9⟩))
         go_roundw
         case rel => exact ⟨_,j + 1,l',rfl,by omega,rfl,hP9,hpu.nodup hndh.out,hput.out l' hpu,hbrh.out.trans (hb9.mono hbrh.out.size)⟩
         case measure => simp [intOf];omega
       · obtain rfl : n = j:=by omega
         obtain ⟨W1,hRn⟩ : ∃ z,z = wr:=⟨_,rfl⟩;subst hRn;obtain ⟨o1,hRn⟩ : ∃ z,z = v:=⟨_,rfl⟩;subst hRn;obtain ⟨out1,hRn⟩ : ∃ z,z = l:=⟨_,rfl⟩;subst hRn
         have hP1:=hPlh
         have hn1o:=hndh
         have hm1:=lhi (show ∀ q,q ∈ out1 ↔ q ∈ out ∨ (lo ≤ (k : Int) ∧ q ∈ now) from fun q => by
          rw [hmemh.out,← hnn.out,List.take_length]
          constructor
          · rintro (h1 | h1)
            · exact .inl h1
            · exact .inr ⟨hlkh.out,h1⟩
          · rintro (h1 | ⟨_,h1⟩)
            · exact .inl h1
            · exact .inr h1)
         have hB1:=lhi (hB.out.trans (hbrh.out.mono hB.out.size))
         have hT1:=lhi (hT.out.below hbrh.out)
         have ho1:=lhi (fun q (hq : q ∈ out1) => show Rel ns t (.node (m : Int)) p q from by
          rcases (hm1.out q).1 hq with h1 | ⟨_,h1⟩
          · exact ho0.out q h1
          · exact hn0R.out q h1)
         replace hPu:=lhi (hPu.out.keep hbrh.out)
         have k3q : W1.cell? ⟨H1,3,none⟩ = some (.int .i64 lo):=hT1.out.2.1.at_ N3h.out
         have k4q : W1.cell? ⟨H1,4,none⟩ = some (.int .i64 hi):=hT1.out.2.1.at_ N4h.out
         by_cases hhi : 0 ≤ hi ∧ hi ≤ (k : Int)
         · have d1 : decide (0 ≤ hi) = true:=decide_eq_true hhi.1
           have d2 : decide (hi ≤ (k : Int)) = true:=decide_eq_true hhi.2
           have d3 : 0 ≤ hi:=hhi.1
           have d4 : hi ≤ (k : Int):=hhi.2
           have hfin:=lhi (hTop.out k now out out1 hTim.out hhi.1 hhi.2 hn1o.out hm1.out)
           clear hhi
           go_wp2
           go_ret
           exact ⟨⟨_,out1,rfl,hfin.out,hP1.out⟩,hB1.out⟩
         · have hkh:=lhi (show hi = -1 ∨ (k : Int) < hi from by omega)
           have hkh2:=lhi (show hi < 0 ∨ (0 ≤ hi ∧ (k : Int) < hi) from by omega)
           clear hhi
           rcases hkh2.out with d1 | ⟨d1,d2⟩
           · have d3 : decide (0 ≤ hi) = false:=decide_eq_false (by omega)
             have d4 : ¬ 0 ≤ hi:=by omega
             go_wp2
             go_loopw [9,13,14] (fun vo vx vi wr => ∃ (o x : Value) (i' : Nat) (outi nxt : List Pt),o = vo ∧ x = vx ∧ i' ≤ n ∧ vi = .int .i64 (i' : Int) ∧ Pts wr w.heap.size o outi ∧ Pts wr w.heap.size x nxt ∧ outi.Nodup ∧ nxt.Nodup ∧ (∀ q,q ∈ outi ↔ q ∈ out1 ∨ ((k : Int) < lo ∧ ∃ y ∈ now.take i',Rel ns t (.node (ka : Int)) y q ∧ q.i = y.i)) ∧ (∀ q,q ∈ nxt ↔ ∃ y ∈ now.take i',Rel ns t (.node (ka : Int)) y q ∧ q.i ≠ y.i) ∧ Below W1.heap.size W1 wr) (fun _ _ vi _ => n - (intOf vi).toNat)
             case atStart => exact ⟨_,_,0,out1,[],rfl,rfl,Nat.zero_le _,rfl,hP1.out,Pts.nil _ _,hn1o.out,List.nodup_nil,fun q => by simp,fun q => by simp,Below.refl _ _⟩
             case round =>
              obtain ⟨o,x,i',outi,nxt,rfl,rfl,hi',rfl,hPo,hPx,hno,hnx,hmo,hmx,hbr⟩:=hrel
              have hPoB:=lhi hPo
              have hPxB:=lhi hPx
              have hnoB:=lhi hno
              have hnxB:=lhi hnx
              have hmoB:=lhi hmo
              have hmxB:=lhi hmx
              have hbrB:=lhi hbr
              clear hPo hPx hno hnx hmo hmx hbr
              have hoI:=lhi (fun q (hq : q ∈ outi) => show Rel ns t (.node (m : Int)) p q from by
               rcases (hmoB.out q).1 hq with h1 | ⟨h0,z,h1,h2,h3⟩
               · exact ho1.out q h1
               · exact hE2.out k z q ((hTim.out.nm z).1 (List.mem_of_mem_take h1)) hkh.out h2 h3 h0)
              have hxI:=lhi (fun q (hq : q ∈ nxt) => show It ns t (m : Int) p (k + 1) q from by
               obtain ⟨z,h1,h2,h3⟩:=(hmxB.out q).1 hq
               exact hE3.out k z q ((hTim.out.nm z).1 (List.mem_of_mem_take h1)) hkh.out h2 h3)
              by_cases hlti : i' < n
              · have hix : i' < now.length:=by rw [hnn.out];exact hlti
                obtain ⟨G,c1',e1',_,hG,hrg⟩:=(hPu.out.keep hbrB.out).range hix
                rw [hnn.out] at e1'
                obtain ⟨rfl,rfl⟩ : Au = some ⟨G,0,none⟩ ∧ cu = c1':=by injection e1' with e1 _ e2;exact ⟨e1,e2⟩
                have hBi:=lhi (hB1.out.trans (hbrB.out.mono hB1.out.size))
                have hBid:=lhi (show Below w.heap.size w wr.drew from below_drewN hBi.out 1)
                have hyI:=hTim.out.nm _ |>.1 (List.getElem_mem hix)
                have hC:=lhi (hCa.out wr.drew hBid.out k _ hyI hkh.out)
                have hLm:=lhi (hlm.out k _ hyI hkh.out)
                have hyE:=lhi (fun q (h1 : Rel ns t (.node (ka : Int)) (now[i']'hix) q) (h2 : q.i = (now[i']'hix).i) (h3 : (k : Int) < lo) => hE2.out k _ q hyI hkh.out h1 h2 h3)
                have hyN:=lhi (fun q (h1 : Rel ns t (.node (ka : Int)) (now[i']'hix) q) (h2 : q.i ≠ (now[i']'hix).i) => hE3.out k _ q hyI hkh.out h1 h2)
                have hSd:=lhi (show ST2 w.heap.size H1 H2 #[.slice (some ad) nn cn,.int .i64 g] CN CP G (i' * 21) (ptL (now[i']'hix)) wr.drew from ⟨(hT1.out.below hbrB.out).below (below_drewN (Below.refl _ _) 1),hrg⟩)
                have htk : now.take (i' + 1) = now.take i' ++ [now[i']'hix]:=by rw [List.take_add_one,List.getElem?_eq_getElem hix];rfl
                replace htk:=lhi htk
                have hLl:=lhi (ptL_len (now[i']'hix))
                have hGd:=lhi (show G < wr.drew.heap.size from hG)
                have hyc:=lhi (show wr.cell? ⟨G,i' * 21,none⟩ = some (.int .i64 ((now[i']'hix).i : Int)) from hrg 0 _ rfl)
                have hiI : (i' : Int) < (n : Int):=by omega
                have hw2i : IntKind.i64.wrap ((i' : Int) + 1) = (i' : Int) + 1:=IntWalk.i64_in _ (by omega)
                clear hrg e1' hyI
                generalize hyq : now[i']'hix = y at *
                replace hyq:=lhi hyq
                go_wp2
                refine wp_region_held_drew (S:=ST2 w.heap.size H1 H2 #[.slice (some ad) nn cn,.int .i64 g] CN CP G (i' * 21) (ptL y)) (by kernel_rfl) hSd.out (fun hS => ?_)
                refine wpAnyH_take (i:=0) (v:=?_) rfl (by kernel_rfl) (by kernel_rfl) (by kernel_rfl) (fun _ _ _ h => h) (Or.inl ⟨by rfl,?_⟩) hS ?_
                rotate_left
                · (intro w' hS';have ha : w'.cell? ⟨w.heap.size,0,none⟩ = some (.slice (some ad) nn cn):=hS'.1.1.at_ rfl;have hb : w'.cell? ⟨w.heap.size,1,none⟩ = some (.int .i64 g):=hS'.1.1.at_ rfl;go_simp;try with_reducible rfl)
                (try simp only [Act.put,List.getElem_toArray,List.getElem_cons_zero,List.getElem_cons_succ,List.setIfInBounds_toArray,List.set_cons_zero,List.set_cons_succ])
                refine wpAnyH_take (i:=1) (v:=?_) rfl (by kernel_rfl) (by kernel_rfl) (by kernel_rfl) (fun _ _ _ h => h) (Or.inl ⟨by rfl,?_⟩) hS ?_
                rotate_left
                · (intro w' hS';go_simp;try with_reducible rfl)
                (try simp only [Act.put,List.getElem_toArray,List.getElem_cons_zero,List.getElem_cons_succ,List.setIfInBounds_toArray,List.set_cons_zero,List.set_cons_succ])
                refine wpAnyH_take (i:=2) (v:=?_) rfl (by kernel_rfl) (by kernel_rfl) (by kernel_rfl) (fun _ _ _ h => h) (Or.inl ⟨by rfl,?_⟩) hS ?_
                rotate_left
                · (intro w' hS';go_simp;try with_reducible rfl)
                (try simp only [Act.put,List.getElem_toArray,List.getElem_cons_zero,List.getElem_cons_succ,List.setIfInBounds_toArray,List.set_cons_zero,List.set_cons_succ])
                refine wpAnyH_take (i:=3) (v:=?_) rfl (by kernel_rfl) (by kernel_rfl) (by kernel_rfl) (fun _ _ _ h => h) (Or.inl ⟨by rfl,?_⟩) hS ?_
                rotate_left
                · (intro w' hS';have ha : w'.cell? ⟨H1,1,none⟩ = some (.int .i64 (ka : Int)):=hS'.1.2.1.at_ N1h.out;go_simp;try with_reducible rfl)
                (try simp only [Act.put,List.getElem_toArray,List.getElem_cons_zero,List.getElem_cons_succ,List.setIfInBounds_toArray,List.set_cons_zero,List.set_cons_succ])
                refine wpAnyH_take (i:=4) (v:=?_) rfl (by kernel_rfl) (by kernel_rfl) (by kernel_rfl) (fun _ _ _ h => h) (Or.inl ⟨by rfl,?_⟩) hS ?_
                rotate_left
                · (intro w' hS';go_simp;try with_reducible rfl)
                (try simp only [Act.put,List.getElem_toArray,List.getElem_cons_zero,List.getElem_cons_succ,List.setIfInBounds_toArray,List.set_cons_zero,List.set_cons_succ])
                refine wpAnyH_take (i:=5) (v:=?_) rfl (by kernel_rfl) (by kernel_rfl) (by kernel_rfl) (fun _ _ _ h => h) (Or.inl ⟨by rfl,?_⟩) hS ?_
                rotate_left
                · (intro w' hS';go_simp;try with_reducible rfl)
                (try simp only [Act.put,List.getElem_toArray,List.getElem_cons_zero,List.getElem_cons_succ,List.setIfInBounds_toArray,List.set_cons_zero,List.set_cons_succ])
                refine wpAnyH_take (i:=6) (v:=?_) rfl (by kernel_rfl) (by kernel_rfl) (by kernel_rfl) (fun _ _ _ h => h) (Or.inl ⟨by rfl,?_⟩) hS ?_
                rotate_left
                · (intro w' hS';go_simp;try with_reducible rfl)
                (try simp only [Act.put,List.getElem_toArray,List.getElem_cons_zero,List.getElem_cons_succ,List.setIfInBounds_toArray,List.set_cons_zero,List.set_cons_succ])
                refine wpAnyH_take (i:=7) (v:=_) rfl (by kernel_rfl) (by kernel_rfl) (by kernel_rfl) (fun _ _ _ h => h) (yieldsIf_load_mid (by rfl) _ _ rfl (G) (i' * 21) rfl ((ptL y)) _ (fun _ hS' => hS'.2) Try.underlying71 rfl (by rw [hLl.out];exact size_pt)) hS ?_
                (try simp only [Act.put,List.getElem_toArray,List.getElem_cons_zero,List.getElem_cons_succ,List.setIfInBounds_toArray,List.set_cons_zero,List.set_cons_succ])
                refine wpAnyH_ready (rs:=[8]) (by kernel_rfl) (by simp) ?_
                refine AllReadyH.cons rfl (fun K hK => ?_) AllReadyH.nil
                go_simp
                refine hC.out.mono ?_
                rintro e w6 ⟨⟨vb,lb,rfl,hRb,hPb⟩,hb6'⟩
                go_simp
                refine hK.out _ _ (hS.below hGd.out hb6') (fun _ => ?_)
                clear hK K
                replace hS:=hS.below hGd.out hb6'
                (try simp only [Act.put,List.getElem_toArray,List.getElem_cons_zero,List.getElem_cons_succ,List.setIfInBounds_toArray,List.set_cons_zero,List.set_cons_succ])
                refine wpAnyH_take (i:=9) (v:=?_) rfl (by kernel_rfl) (by kernel_rfl) (by kernel_rfl) (fun _ _ _ h => h) (Or.inl ⟨by rfl,?_⟩) hS ?_
                rotate_left
                · (intro w' hS';go_simp;try with_reducible rfl)
                (try simp only [Act.put,List.getElem_toArray,List.getElem_cons_zero,List.getElem_cons_succ,List.setIfInBounds_toArray,List.set_cons_zero,List.set_cons_succ])
                refine wpAnyH_done (by kernel_rfl) ?_ _
                have hb6:=lhi (show Below wr.heap.size wr w6 from (below_drewN (Below.refl wr.heap.size wr) 1).trans hb6')
                have hB7:=lhi (hBi.out.trans (hb6.out.mono hBi.out.size))
                replace hPb:=lhi (hPb.mono (b':=w.heap.size) hBid.out.size)
                have hPo6:=lhi (hPoB.out.keep hb6.out)
                have hPx6:=lhi (hPxB.out.keep hb6.out)
                have hyc6:=lhi ((hb6.out.cell (p:=⟨G,i' * 21,none⟩) (show G < wr.heap.size from hG)).trans hyc.out)
                have hG6:=lhi (show G < w6.heap.size from nll (show G < wr.heap.size from hG) hb6.out.size)
                have hnb4:=hLm.out lb hRb
                replace hRb:=lhi hRb
                obtain ⟨Ab,cb',rfl,_⟩:=hPb.out.prow
                generalize hnb : lb.length = nb at *
                replace hnb:=lhi hnb
                clear hb6' hSd hC hS
                obtain ⟨Wi,hRn⟩ : ∃ z,z = wr:=⟨_,rfl⟩;subst hRn
                go_wp2
                go_loopw [9,13,16] (fun vo vx vj wr => ∃ (o x : Value) (j : Nat) (oj xj : List Pt),o = vo ∧ x = vx ∧ j ≤ nb ∧ vj = .int .i64 (j : Int) ∧ Pts wr w.heap.size o oj ∧ Pts wr w.heap.size x xj ∧ oj.Nodup ∧ xj.Nodup ∧ (∀ q,q ∈ oj ↔ q ∈ outi ∨ ((k : Int) < lo ∧ q ∈ lb.take j ∧ q.i = y.i)) ∧ (∀ q,q ∈ xj ↔ q ∈ nxt ∨ (q ∈ lb.take j ∧ q.i ≠ y.i)) ∧ Below w6.heap.size w6 wr) (fun _ _ vj _ => nb - (intOf vj).toNat)
                case atStart => exact ⟨_,_,0,outi,nxt,rfl,rfl,Nat.zero_le _,rfl,hPo6.out,hPx6.out,hnoB.out,hnxB.out,fun q => by simp,fun q => by simp,Below.refl _ _⟩
                case round =>
                 obtain ⟨o,x,j,oj,xj,rfl,rfl,hj',rfl,hPo,hPx,hno,hnx,hmo,hmx,hbc⟩:=hrel
                 have hPoC:=lhi hPo
                 have hPxC:=lhi hPx
                 have hnoC:=lhi hno
                 have hnxC:=lhi hnx
                 have hmoC:=lhi hmo
                 have hmxC:=lhi hmx
                 have hbcC:=lhi hbc
                 clear hPo hPx hno hnx hmo hmx hbc
                 by_cases hltj : j < nb
                 · have hjx : j < lb.length:=by rw [hnb.out];exact hltj
                   obtain ⟨G2,c2',e2',_,hG2,hrg2⟩:=(hPb.out.keep hbcC.out).range hjx
                   rw [hnb.out] at e2'
                   obtain ⟨rfl,rfl⟩ : Ab = some ⟨G2,0,none⟩ ∧ cb' = c2':=by injection e2' with e1 _ e2;exact ⟨e1,e2⟩
                   have hBc:=lhi (hB7.out.trans (hbcC.out.mono hB7.out.size))
                   have hBcd:=lhi (show Below w.heap.size w wr.drew from below_drewN hBc.out 1)
                   have hqR : Rel ns t (.node (ka : Int)) y (lb[j]'hjx):=(hRb.out.2 _).1 (List.getElem_mem hjx)
                   have hoR : ∀ q ∈ oj,Rel ns t (.node (m : Int)) p q:=fun q hq => by
                    rcases (hmoC.out q).1 hq with h1 | ⟨h1,h2,h3⟩
                    · exact hoI.out q h1
                    · exact hyE.out q ((hRb.out.2 _).1 (List.mem_of_mem_take h2)) h3 h1
                   have hxR : ∀ q ∈ xj,It ns t (m : Int) p (k + 1) q:=fun q hq => by
                    rcases (hmxC.out q).1 hq with h1 | ⟨h2,h3⟩
                    · exact hxI.out q h1
                    · exact hyN.out q ((hRb.out.2 _).1 (List.mem_of_mem_take h2)) h3
                   have htj : lb.take (j + 1) = lb.take j ++ [lb[j]'hjx]:=by rw [List.take_add_one,List.getElem?_eq_getElem hjx];rfl
                   replace htj:=lhi htj
                   have hLj:=lhi (ptL_len (lb[j]'hjx))
                   have hrgd:=lhi (show wr.drew.rangeAt G2 (j * 21) (ptL (lb[j]'hjx)) from hrg2)
                   have hSd:=lhi (show (fun w' : World => w'.cell? ⟨G2,j * 21,none⟩ = some (.int .i64 ((lb[j]'hjx).i : Int)) ∧ w'.cell? ⟨G,i' * 21,none⟩ = some (.int .i64 (y.i : Int))) wr.drew from ⟨hrg2 0 _ rfl,(hbcC.out.cell (p:=⟨G,i' * 21,none⟩) hG6.out).trans hyc6.out⟩)
                   have hjI : (j : Int) < (nb : Int):=by omega
                   have hw2j : IntKind.i64.wrap ((j : Int) + 1) = (j : Int) + 1:=IntWalk.i64_in _ (by omega)
                   have hCo:=lhi (fun (hz : (lb[j]'hjx).i = y.i) (hk : (k : Int) < lo) => show Calls Try.prog 39 #[o,.agg (ptL (lb[j]'hjx)).toArray] wr.drew fun e w' => (∃ v' l',e = .returned v' ∧ PutP oj (lb[j]'hjx) l' ∧ Pts w' w.heap.size v' l') ∧ Below wr.drew.heap.size wr.drew w' from
                    rwith_any w.heap.size o oj (lb[j]'hjx) wr.drew hBcd.out.size (show Pts wr.drew w.heap.size o oj from hPoC.out) (hnr.out _ (hyE.out _ hqR hz hk)) (fun q hq => hnr.out q (hoR q hq)) (hlen.out oj hnoC.out hoR))
                   have hCx:=lhi (fun (hz : (lb[j]'hjx).i ≠ y.i) => show Calls Try.prog 39 #[x,.agg (ptL (lb[j]'hjx)).toArray] wr.drew fun e w' => (∃ v' l',e = .returned v' ∧ PutP xj (lb[j]'hjx) l' ∧ Pts w' w.heap.size v' l') ∧ Below wr.drew.heap.size wr.drew w' from
                    rwith_any w.heap.size x xj (lb[j]'hjx) wr.drew hBcd.out.size (show Pts wr.drew w.heap.size x xj from hPxC.out) (hnI.out (k + 1) _ (hyN.out _ hqR hz)) (fun q hq => hnI.out (k + 1) q (hxR q hq)) (hlenI.out (k + 1) xj hnxC.out hxR))
                   have hk3d:=lhi (show wr.drew.cell? ⟨H1,3,none⟩ = some (.int .i64 lo) from ((((hT1.out.below hbrB.out).below hb6.out).below hbcC.out).below (below_drewN (Below.refl _ _) 1)).2.1.at_ N3h.out)
                   have hbw:=lhi (show Below w6.heap.size w6 wr.drew from below_drewN hbcC.out 1)
                   have hPod:=lhi (show Pts wr.drew w.heap.size o oj from hPoC.out)
                   have hPxd:=lhi (show Pts wr.drew w.heap.size x xj from hPxC.out)
                   clear hrg2 e2' hqR hoR hxR
                   generalize hqq : lb[j]'hjx = qj at *
                   replace hqq:=lhi hqq
                   by_cases hz : qj.i = y.i
                   · have hzd : ((qj.i : Int) != (y.i : Int)) = false:=by rw [hz];simp
                     have hzh:=lhi hz
                     have hmx':=lhi (show ∀ q,q ∈ xj ↔ q ∈ nxt ∨ (q ∈ lb.take (j + 1) ∧ q.i ≠ y.i) from fun q => by
                      rw [hmxC.out,htj.out]
                      simp only [List.mem_append,List.mem_singleton]
                      constructor
                      · rintro (h1 | ⟨h1,h2⟩)
                        · exact .inl h1
                        · exact .inr ⟨.inl h1,h2⟩
                      · rintro (h1 | ⟨h1 | rfl,h2⟩)
                        · exact .inl h1
                        · exact .inr ⟨h1,h2⟩
                        · exact absurd hz h2)
                     clear hz
                     go_wp2
                     refine wp_region_held_drew (S:=fun w' : World => w'.cell? ⟨G2,j * 21,none⟩ = some (.int .i64 (qj.i : Int)) ∧ w'.cell? ⟨G,i' * 21,none⟩ = some (.int .i64 (y.i : Int))) (by kernel_rfl) hSd.out (fun hS => ?_)
                     refine wpAnyH_take (i:=0) (v:=?_) rfl (by kernel_rfl) (by kernel_rfl) (by kernel_rfl) (fun _ _ _ h => h) (Or.inl ⟨by rfl,?_⟩) hS ?_
                     rotate_left
                     · (intro w' hS';go_simp;try with_reducible rfl)
                     (try simp only [Act.put,List.getElem_toArray,List.getElem_cons_zero,List.getElem_cons_succ,List.setIfInBounds_toArray,List.set_cons_zero,List.set_cons_succ])
                     refine wpAnyH_take (i:=1) (v:=?_) rfl (by kernel_rfl) (by kernel_rfl) (by kernel_rfl) (fun _ _ _ h => h) (Or.inl ⟨by rfl,?_⟩) hS ?_
                     rotate_left
                     · (intro w' hS';go_simp;try with_reducible rfl)
                     (try simp only [Act.put,List.getElem_toArray,List.getElem_cons_zero,List.getElem_cons_succ,List.setIfInBounds_toArray,List.set_cons_zero,List.set_cons_succ])
                     refine wpAnyH_take (i:=2) (v:=?_) rfl (by kernel_rfl) (by kernel_rfl) (by kernel_rfl) (fun _ _ _ h => h) (Or.inl ⟨by rfl,?_⟩) hS ?_
                     rotate_left
                     · (intro w' hS';go_simp;try with_reducible rfl)
                     (try simp only [Act.put,List.getElem_toArray,List.getElem_cons_zero,List.getElem_cons_succ,List.setIfInBounds_toArray,List.set_cons_zero,List.set_cons_succ])
                     refine wpAnyH_take (i:=3) (v:=?_) rfl (by kernel_rfl) (by kernel_rfl) (by kernel_rfl) (fun _ _ _ h => h) (Or.inl ⟨by rfl,?_⟩) hS ?_
                     rotate_left
                     · (intro w' hS';go_simp;try with_reducible rfl)
                     (try simp only [Act.put,List.getElem_toArray,List.getElem_cons_zero,List.getElem_cons_succ,List.setIfInBounds_toArray,List.set_cons_zero,List.set_cons_succ])
                     refine wpAnyH_take (i:=4) (v:=?_) rfl (by kernel_rfl) (by kernel_rfl) (by kernel_rfl) (fun _ _ _ h => h) (Or.inl ⟨by rfl,?_⟩) hS ?_
                     rotate_left
                     · (intro w' hS';have ha:=hS'.1;go_simp;try with_reducible rfl)
                     (try simp only [Act.put,List.getElem_toArray,List.getElem_cons_zero,List.getElem_cons_succ,List.setIfInBounds_toArray,List.set_cons_zero,List.set_cons_succ])
                     refine wpAnyH_take (i:=5) (v:=?_) rfl (by kernel_rfl) (by kernel_rfl) (by kernel_rfl) (fun _ _ _ h => h) (Or.inl ⟨by rfl,?_⟩) hS ?_
                     rotate_left
                     · (intro w' hS';go_simp;try with_reducible rfl)
                     (try simp only [Act.put,List.getElem_toArray,List.getElem_cons_zero,List.getElem_cons_succ,List.setIfInBounds_toArray,List.set_cons_zero,List.set_cons_succ])
                     refine wpAnyH_take (i:=6) (v:=?_) rfl (by kernel_rfl) (by kernel_rfl) (by kernel_rfl) (fun _ _ _ h => h) (Or.inl ⟨by rfl,?_⟩) hS ?_
                     rotate_left
                     · (intro w' hS';go_simp;try with_reducible rfl)
                     (try simp only [Act.put,List.getElem_toArray,List.getElem_cons_zero,List.getElem_cons_succ,List.setIfInBounds_toArray,List.set_cons_zero,List.set_cons_succ])
                     refine wpAnyH_take (i:=7) (v:=?_) rfl (by kernel_rfl) (by kernel_rfl) (by kernel_rfl) (fun _ _ _ h => h) (Or.inl ⟨by rfl,?_⟩) hS ?_
                     rotate_left
                     · (intro w' hS';go_simp;try with_reducible rfl)
                     (try simp only [Act.put,List.getElem_toArray,List.getElem_cons_zero,List.getElem_cons_succ,List.setIfInBounds_toArray,List.set_cons_zero,List.set_cons_succ])
                     refine wpAnyH_take (i:=8) (v:=?_) rfl (by kernel_rfl) (by kernel_rfl) (by kernel_rfl) (fun _ _ _ h => h) (Or.inl ⟨by rfl,?_⟩) hS ?_
                     rotate_left
                     · (intro w' hS';go_simp;try with_reducible rfl)
                     (try simp only [Act.put,List.getElem_toArray,List.getElem_cons_zero,List.getElem_cons_succ,List.setIfInBounds_toArray,List.set_cons_zero,List.set_cons_succ])
                     refine wpAnyH_take (i:=9) (v:=?_) rfl (by kernel_rfl) (by kernel_rfl) (by kernel_rfl) (fun _ _ _ h => h) (Or.inl ⟨by rfl,?_⟩) hS ?_
                     rotate_left
                     · (intro w' hS';have hb:=hS'.2;go_simp;try with_reducible rfl)
                     (try simp only [Act.put,List.getElem_toArray,List.getElem_cons_zero,List.getElem_cons_succ,List.setIfInBounds_toArray,List.set_cons_zero,List.set_cons_succ])
                     refine wpAnyH_take (i:=10) (v:=?_) rfl (by kernel_rfl) (by kernel_rfl) (by kernel_rfl) (fun _ _ _ h => h) (Or.inl ⟨by rfl,?_⟩) hS ?_
                     rotate_left
                     · (intro w' hS';go_simp;try with_reducible rfl)
                     (try simp only [Act.put,List.getElem_toArray,List.getElem_cons_zero,List.getElem_cons_succ,List.setIfInBounds_toArray,List.set_cons_zero,List.set_cons_succ])
                     refine wpAnyH_done (by kernel_rfl) ?_ _
                     generalize wr.drew = wd at *
                     have k3d:=hk3d.out
                     by_cases hkl : (k : Int) < lo
                     · have hkd : decide ((k : Int) < lo) = true:=decide_eq_true hkl
                       have hklh:=lhi hkl
                       clear hkl
                       go_wp2_with (first
                        | (refine wpList_load_mid rfl 71 (.tmp 97) rfl G2 (j * 21) rfl (ptL qj) _ hrgd.out Try.underlying71 rfl (by rw [hLj.out];exact size_pt) ?_)
                        | (go_at_call 39;refine (hCo.out hzh.out hklh.out).mono ?_;rintro e w9 ⟨⟨v',l',rfl,hpu,hP9⟩,hb9⟩))
                       go_roundw
                       case rel => exact ⟨_,_,j + 1,l',xj,rfl,rfl,by omega,rfl,hP9,hPxd.out.keep hb9,hpu.nodup hnoC.out,hnxC.out,fun q => by
                           rw [hpu.mem,hmoC.out,htj.out]
                           simp only [List.mem_append,List.mem_singleton]
                           constructor
                           · rintro ((h1 | ⟨h0,h1,h2⟩) | rfl)
                             · exact .inl h1
                             · exact .inr ⟨h0,.inl h1,h2⟩
                             · exact .inr ⟨hklh.out,.inr rfl,hzh.out⟩
                           · rintro (h1 | ⟨h0,h1 | rfl,h2⟩)
                             · exact .inl (.inl h1)
                             · exact .inl (.inr ⟨h0,h1,h2⟩)
                             · exact .inr rfl,hmx'.out,hbw.out.trans (hb9.mono hbw.out.size)⟩
                       case measure => simp [intOf];omega
                     · have hkd : decide ((k : Int) < lo) = false:=decide_eq_false hkl
                       have hklh:=lhi hkl
                       first
                        | (exfalso;have:=hlkh.out;have:=hklh.out;omega)
                        | (go_wp2
                           go_roundw
                           case rel => exact ⟨_,_,j + 1,oj,xj,rfl,rfl,by omega,rfl,hPod.out,hPxd.out,hnoC.out,hnxC.out,fun q => by
                               rw [hmoC.out]
                               constructor
                               · rintro (h1 | ⟨h0,_⟩)
                                 · exact .inl h1
                                 · exact absurd h0 hklh.out
                               · rintro (h1 | ⟨h0,_⟩)
                                 · exact .inl h1
                                 · exact absurd h0 hklh.out,hmx'.out,hbw.out⟩
                           case measure => simp [intOf];omega)
                   · have hzd : ((qj.i : Int) != (y.i : Int)) = true:=by rw [bne_iff_ne];omega
                     have hzh:=lhi hz
                     clear hz
                     go_wp2
                     refine wp_region_held_drew (S:=fun w' : World => w'.cell? ⟨G2,j * 21,none⟩ = some (.int .i64 (qj.i : Int)) ∧ w'.cell? ⟨G,i' * 21,none⟩ = some (.int .i64 (y.i : Int))) (by kernel_rfl) hSd.out (fun hS => ?_)
                     refine wpAnyH_take (i:=0) (v:=?_) rfl (by kernel_rfl) (by kernel_rfl) (by kernel_rfl) (fun _ _ _ h => h) (Or.inl ⟨by rfl,?_⟩) hS ?_
                     rotate_left
                     · (intro w' hS';go_simp;try with_reducible rfl)
                     (try simp only [Act.put,List.getElem_toArray,List.getElem_cons_zero,List.getElem_cons_succ,List.setIfInBounds_toArray,List.set_cons_zero,List.set_cons_succ])
                     refine wpAnyH_take (i:=1) (v:=?_) rfl (by kernel_rfl) (by kernel_rfl) (by kernel_rfl) (fun _ _ _ h => h) (Or.inl ⟨by rfl,?_⟩) hS ?_
                     rotate_left
                     · (intro w' hS';go_simp;try with_reducible rfl)
                     (try simp only [Act.put,List.getElem_toArray,List.getElem_cons_zero,List.getElem_cons_succ,List.setIfInBounds_toArray,List.set_cons_zero,List.set_cons_succ])
                     refine wpAnyH_take (i:=2) (v:=?_) rfl (by kernel_rfl) (by kernel_rfl) (by kernel_rfl) (fun _ _ _ h => h) (Or.inl ⟨by rfl,?_⟩) hS ?_
                     rotate_left
                     · (intro w' hS';go_simp;try with_reducible rfl)
                     (try simp only [Act.put,List.getElem_toArray,List.getElem_cons_zero,List.getElem_cons_succ,List.setIfInBounds_toArray,List.set_cons_zero,List.set_cons_succ])
                     refine wpAnyH_take (i:=3) (v:=?_) rfl (by kernel_rfl) (by kernel_rfl) (by kernel_rfl) (fun _ _ _ h => h) (Or.inl ⟨by rfl,?_⟩) hS ?_
                     rotate_left
                     · (intro w' hS';go_simp;try with_reducible rfl)
                     (try simp only [Act.put,List.getElem_toArray,List.getElem_cons_zero,List.getElem_cons_succ,List.setIfInBounds_toArray,List.set_cons_zero,List.set_cons_succ])
                     refine wpAnyH_take (i:=4) (v:=?_) rfl (by kernel_rfl) (by kernel_rfl) (by kernel_rfl) (fun _ _ _ h => h) (Or.inl ⟨by rfl,?_⟩) hS ?_
                     rotate_left
                     · (intro w' hS';have ha:=hS'.1;go_simp;try with_reducible rfl)
                     (try simp only [Act.put,List.getElem_toArray,List.getElem_cons_zero,List.getElem_cons_succ,List.setIfInBounds_toArray,List.set_cons_zero,List.set_cons_succ])
                     refine wpAnyH_take (i:=5) (v:=?_) rfl (by kernel_rfl) (by kernel_rfl) (by kernel_rfl) (fun _ _ _ h => h) (Or.inl ⟨by rfl,?_⟩) hS ?_
                     rotate_left
                     · (intro w' hS';go_simp;try with_reducible rfl)
                     (try simp only [Act.put,List.getElem_toArray,List.getElem_cons_zero,List.getElem_cons_succ,List.setIfInBounds_toArray,List.set_cons_zero,List.set_cons_succ])
                     refine wpAnyH_take (i:=6) (v:=?_) rfl (by kernel_rfl) (by kernel_rfl) (by kernel_rfl) (fun _ _ _ h => h) (Or.inl ⟨by rfl,?_⟩) hS ?_
                     rotate_left
                     · (intro w' hS';go_simp;try with_reducible rfl)
                     (try simp only [Act.put,List.getElem_toArray,List.getElem_cons_zero,List.getElem_cons_succ,List.setIfInBounds_toArray,List.set_cons_zero,List.set_cons_succ])
                     refine wpAnyH_take (i:=7) (v:=?_) rfl (by kernel_rfl) (by kernel_rfl) (by kernel_rfl) (fun _ _ _ h => h) (Or.inl ⟨by rfl,?_⟩) hS ?_
                     rotate_left
                     · (intro w' hS';go_simp;try with_reducible rfl)
                     (try simp only [Act.put,List.getElem_toArray,List.getElem_cons_zero,List.getElem_cons_succ,List.setIfInBounds_toArray,List.set_cons_zero,List.set_cons_succ])
                     refine wpAnyH_take (i:=8) (v:=?_) rfl (by kernel_rfl) (by kernel_rfl) (by kernel_rfl) (fun _ _ _ h => h) (Or.inl ⟨by rfl,?_⟩) hS ?_
                     rotate_left
                     · (intro w' hS';go_simp;try with_reducible rfl)
                     (try simp only [Act.put,List.getElem_toArray,List.getElem_cons_zero,List.getElem_cons_succ,List.setIfInBounds_toArray,List.set_cons_zero,List.set_cons_succ])
                     refine wpAnyH_take (i:=9) (v:=?_) rfl (by kernel_rfl) (by kernel_rfl) (by kernel_rfl) (fun _ _ _ h => h) (Or.inl ⟨by rfl,?_⟩) hS ?_
                     rotate_left
                     · (intro w' hS';have hb:=hS'.2;go_simp;try with_reducible rfl)
                     (try simp only [Act.put,List.getElem_toArray,List.getElem_cons_zero,List.getElem_cons_succ,List.setIfInBounds_toArray,List.set_cons_zero,List.set_cons_succ])
                     refine wpAnyH_take (i:=10) (v:=?_) rfl (by kernel_rfl) (by kernel_rfl) (by kernel_rfl) (fun _ _ _ h => h) (Or.inl ⟨by rfl,?_⟩) hS ?_
                     rotate_left
                     · (intro w' hS';go_simp;try with_reducible rfl)
                     (try simp only [Act.put,List.getElem_toArray,List.getElem_cons_zero,List.getElem_cons_succ,List.setIfInBounds_toArray,List.set_cons_zero,List.set_cons_succ])
                     refine wpAnyH_done (by kernel_rfl) ?_ _
                     generalize wr.drew = wd at *
                     go_wp2_with (first
                      | (refine wpList_load_mid rfl 71 (.tmp 87) rfl G2 (j * 21) rfl (ptL qj) _ hrgd.out Try.underlying71 rfl (by rw [hLj.out];exact size_pt) ?_)
                      | (go_at_call 39;refine (hCx.out hzh.out).mono ?_;rintro e w9 ⟨⟨v',l',rfl,hpu,hP9⟩,hb9⟩))
                     go_roundw
                     case rel => exact ⟨_,_,j + 1,oj,l',rfl,rfl,by omega,rfl,hPod.out.keep hb9,hP9,hnoC.out,hpu.nodup hnxC.out,fun q => by
                           rw [hmoC.out,htj.out]
                           simp only [List.mem_append,List.mem_singleton]
                           constructor
                           · rintro (h1 | ⟨h0,h1,h2⟩)
                             · exact .inl h1
                             · exact .inr ⟨h0,.inl h1,h2⟩
                           · rintro (h1 | ⟨h0,h1 | rfl,h2⟩)
                             · exact .inl h1
                             · exact .inr ⟨h0,h1,h2⟩
                             · exact absurd h2 hzh.out,fun q => by
                           rw [hpu.mem,hmxC.out,htj.out]
                           simp only [List.mem_append,List.mem_singleton]
                           constructor
                           · rintro ((h1 | ⟨h1,h2⟩) | rfl)
                             · exact .inl h1
                             · exact .inr ⟨.inl h1,h2⟩
                             · exact .inr ⟨.inr rfl,hzh.out⟩
                           · rintro (h1 | ⟨h1 | rfl,h2⟩)
                             · exact .inl (.inl h1)
                             · exact .inl (.inr ⟨h1,h2⟩)
                             · exact .inr rfl,hbw.out.trans (hb9.mono hbw.out.size)⟩
                     case measure => simp [intOf];omega
                 · obtain rfl : j = nb:=by omega
                   go_wp2
                   go_roundw
                   case rel => exact ⟨_,_,i' + 1,oj,xj,rfl,rfl,by omega,rfl,hPoC.out,hPxC.out,hnoC.out,hnxC.out,fun q => by
                       rw [hmoC.out,hmoB.out,htk.out,← hnb.out,List.take_length,hRb.out.2]
                       simp only [List.mem_append,List.mem_singleton]
                       constructor
                       · rintro ((h1 | ⟨h0,z,h1,h2⟩) | ⟨h0,h1,h2⟩)
                         · exact .inl h1
                         · exact .inr ⟨h0,z,.inl h1,h2⟩
                         · exact .inr ⟨h0,y,.inr rfl,h1,h2⟩
                       · rintro (h1 | ⟨h0,z,h1 | rfl,h2⟩)
                         · exact .inl (.inl h1)
                         · exact .inl (.inr ⟨h0,z,h1,h2⟩)
                         · exact .inr ⟨h0,h2⟩,fun q => by
                       rw [hmxC.out,hmxB.out,htk.out,← hnb.out,List.take_length,hRb.out.2]
                       simp only [List.mem_append,List.mem_singleton]
                       constructor
                       · rintro (⟨z,h1,h2⟩ | h1)
                         · exact ⟨z,.inl h1,h2⟩
                         · exact ⟨y,.inr rfl,h1⟩
                       · rintro ⟨z,h1 | rfl,h2⟩
                         · exact .inl ⟨z,h1,h2⟩
                         · exact .inr h2,(hbrB.out.trans (hb6.out.mono hbrB.out.size)).trans (hbcC.out.mono (Nat.le_trans hbrB.out.size hb6.out.size))⟩
                   case measure => simp [intOf];omega
              · obtain rfl : i' = n:=by omega
                have hTn:=lhi (hTnx.out k now out outi nxt hTim.out hkh.out hnxB.out hnoB.out (fun q => by rw [hmxB.out,← hnn.out,List.take_length]) (fun q => by
                 have e1:=hmoB.out q
                 rw [← hnn.out,List.take_length] at e1
                 exact e1.trans (or_congr (hm1.out q) Iff.rfl)))
                have hT9:=lhi (hT1.out.below hbrB.out)
                have hB9:=lhi (hB1.out.trans (hbrB.out.mono hB1.out.size))
                go_wp2
                go_roundw
                case rel => exact ⟨_,_,k + 1,outi,nxt,rfl,rfl,rfl,hPoB.out,hPxB.out,hTn.out,hT9.out,hB9.out,by have:=hkt.out;omega⟩
                case measure => have:=hkt.out;simp [intOf];omega
           · have d3 : decide (0 ≤ hi) = true:=decide_eq_true d1
             have d4 : decide (hi ≤ (k : Int)) = false:=decide_eq_false (by omega)
             have d5 : ¬ hi ≤ (k : Int):=by omega
             go_wp2
             go_loopw [9,13,14] (fun vo vx vi wr => ∃ (o x : Value) (i' : Nat) (outi nxt : List Pt),o = vo ∧ x = vx ∧ i' ≤ n ∧ vi = .int .i64 (i' : Int) ∧ Pts wr w.heap.size o outi ∧ Pts wr w.heap.size x nxt ∧ outi.Nodup ∧ nxt.Nodup ∧ (∀ q,q ∈ outi ↔ q ∈ out1 ∨ ((k : Int) < lo ∧ ∃ y ∈ now.take i',Rel ns t (.node (ka : Int)) y q ∧ q.i = y.i)) ∧ (∀ q,q ∈ nxt ↔ ∃ y ∈ now.take i',Rel ns t (.node (ka : Int)) y q ∧ q.i ≠ y.i) ∧ Below W1.heap.size W1 wr) (fun _ _ vi _ => n - (intOf vi).toNat)
             case atStart => exact ⟨_,_,0,out1,[],rfl,rfl,Nat.zero_le _,rfl,hP1.out,Pts.nil _ _,hn1o.out,List.nodup_nil,fun q => by simp,fun q => by simp,Below.refl _ _⟩
             case round =>
              obtain ⟨o,x,i',outi,nxt,rfl,rfl,hi',rfl,hPo,hPx,hno,hnx,hmo,hmx,hbr⟩:=hrel
              have hPoB:=lhi hPo
              have hPxB:=lhi hPx
              have hnoB:=lhi hno
              have hnxB:=lhi hnx
              have hmoB:=lhi hmo
              have hmxB:=lhi hmx
              have hbrB:=lhi hbr
              clear hPo hPx hno hnx hmo hmx hbr
              have hoI:=lhi (fun q (hq : q ∈ outi) => show Rel ns t (.node (m : Int)) p q from by
               rcases (hmoB.out q).1 hq with h1 | ⟨h0,z,h1,h2,h3⟩
               · exact ho1.out q h1
               · exact hE2.out k z q ((hTim.out.nm z).1 (List.mem_of_mem_take h1)) hkh.out h2 h3 h0)
              have hxI:=lhi (fun q (hq : q ∈ nxt) => show It ns t (m : Int) p (k + 1) q from by
               obtain ⟨z,h1,h2,h3⟩:=(hmxB.out q).1 hq
               exact hE3.out k z q ((hTim.out.nm z).1 (List.mem_of_mem_take h1)) hkh.out h2 h3)
              by_cases hlti : i' < n
              · have hix : i' < now.length:=by rw [hnn.out];exact hlti
                obtain ⟨G,c1',e1',_,hG,hrg⟩:=(hPu.out.keep hbrB.out).range hix
                rw [hnn.out] at e1'
                obtain ⟨rfl,rfl⟩ : Au = some ⟨G,0,none⟩ ∧ cu = c1':=by injection e1' with e1 _ e2;exact ⟨e1,e2⟩
                have hBi:=lhi (hB1.out.trans (hbrB.out.mono hB1.out.size))
                have hBid:=lhi (show Below w.heap.size w wr.drew from below_drewN hBi.out 1)
                have hyI:=hTim.out.nm _ |>.1 (List.getElem_mem hix)
                have hC:=lhi (hCa.out wr.drew hBid.out k _ hyI hkh.out)
                have hLm:=lhi (hlm.out k _ hyI hkh.out)
                have hyE:=lhi (fun q (h1 : Rel ns t (.node (ka : Int)) (now[i']'hix) q) (h2 : q.i = (now[i']'hix).i) (h3 : (k : Int) < lo) => hE2.out k _ q hyI hkh.out h1 h2 h3)
                have hyN:=lhi (fun q (h1 : Rel ns t (.node (ka : Int)) (now[i']'hix) q) (h2 : q.i ≠ (now[i']'hix).i) => hE3.out k _ q hyI hkh.out h1 h2)
                have hSd:=lhi (show ST2 w.heap.size H1 H2 #[.slice (some ad) nn cn,.int .i64 g] CN CP G (i' * 21) (ptL (now[i']'hix)) wr.drew from ⟨(hT1.out.below hbrB.out).below (below_drewN (Below.refl _ _) 1),hrg⟩)
                have htk : now.take (i' + 1) = now.take i' ++ [now[i']'hix]:=by rw [List.take_add_one,List.getElem?_eq_getElem hix];rfl
                replace htk:=lhi htk
                have hLl:=lhi (ptL_len (now[i']'hix))
                have hGd:=lhi (show G < wr.drew.heap.size from hG)
                have hyc:=lhi (show wr.cell? ⟨G,i' * 21,none⟩ = some (.int .i64 ((now[i']'hix).i : Int)) from hrg 0 _ rfl)
                have hiI : (i' : Int) < (n : Int):=by omega
                have hw2i : IntKind.i64.wrap ((i' : Int) + 1) = (i' : Int) + 1:=IntWalk.i64_in _ (by omega)
                clear hrg e1' hyI
                generalize hyq : now[i']'hix = y at *
                replace hyq:=lhi hyq
                go_wp2
                refine wp_region_held_drew (S:=ST2 w.heap.size H1 H2 #[.slice (some ad) nn cn,.int .i64 g] CN CP G (i' * 21) (ptL y)) (by kernel_rfl) hSd.out (fun hS => ?_)
                refine wpAnyH_take (i:=0) (v:=?_) rfl (by kernel_rfl) (by kernel_rfl) (by kernel_rfl) (fun _ _ _ h => h) (Or.inl ⟨by rfl,?_⟩) hS ?_
                rotate_left
                · (intro w' hS';have ha : w'.cell? ⟨w.heap.size,0,none⟩ = some (.slice (some ad) nn cn):=hS'.1.1.at_ rfl;have hb : w'.cell? ⟨w.heap.size,1,none⟩ = some (.int .i64 g):=hS'.1.1.at_ rfl;go_simp;try with_reducible rfl)
                (try simp only [Act.put,List.getElem_toArray,List.getElem_cons_zero,List.getElem_cons_succ,List.setIfInBounds_toArray,List.set_cons_zero,List.set_cons_succ])
                refine wpAnyH_take (i:=1) (v:=?_) rfl (by kernel_rfl) (by kernel_rfl) (by kernel_rfl) (fun _ _ _ h => h) (Or.inl ⟨by rfl,?_⟩) hS ?_
                rotate_left
                · (intro w' hS';go_simp;try with_reducible rfl)
                (try simp only [Act.put,List.getElem_toArray,List.getElem_cons_zero,List.getElem_cons_succ,List.setIfInBounds_toArray,List.set_cons_zero,List.set_cons_succ])
                refine wpAnyH_take (i:=2) (v:=?_) rfl (by kernel_rfl) (by kernel_rfl) (by kernel_rfl) (fun _ _ _ h => h) (Or.inl ⟨by rfl,?_⟩) hS ?_
                rotate_left
                · (intro w' hS';go_simp;try with_reducible rfl)
                (try simp only [Act.put,List.getElem_toArray,List.getElem_cons_zero,List.getElem_cons_succ,List.setIfInBounds_toArray,List.set_cons_zero,List.set_cons_succ])
                refine wpAnyH_take (i:=3) (v:=?_) rfl (by kernel_rfl) (by kernel_rfl) (by kernel_rfl) (fun _ _ _ h => h) (Or.inl ⟨by rfl,?_⟩) hS ?_
                rotate_left
                · (intro w' hS';have ha : w'.cell? ⟨H1,1,none⟩ = some (.int .i64 (ka : Int)):=hS'.1.2.1.at_ N1h.out;go_simp;try with_reducible rfl)
                (try simp only [Act.put,List.getElem_toArray,List.getElem_cons_zero,List.getElem_cons_succ,List.setIfInBounds_toArray,List.set_cons_zero,List.set_cons_succ])
                refine wpAnyH_take (i:=4) (v:=?_) rfl (by kernel_rfl) (by kernel_rfl) (by kernel_rfl) (fun _ _ _ h => h) (Or.inl ⟨by rfl,?_⟩) hS ?_
                rotate_left
                · (intro w' hS';go_simp;try with_reducible rfl)
                (try simp only [Act.put,List.getElem_toArray,List.getElem_cons_zero,List.getElem_cons_succ,List.setIfInBounds_toArray,List.set_cons_zero,List.set_cons_succ])
                refine wpAnyH_take (i:=5) (v:=?_) rfl (by kernel_rfl) (by kernel_rfl) (by kernel_rfl) (fun _ _ _ h => h) (Or.inl ⟨by rfl,?_⟩) hS ?_
                rotate_left
                · (intro w' hS';go_simp;try with_reducible rfl)
                (try simp only [Act.put,List.getElem_toArray,List.getElem_cons_zero,List.getElem_cons_succ,List.setIfInBounds_toArray,List.set_cons_zero,List.set_cons_succ])
                refine wpAnyH_take (i:=6) (v:=?_) rfl (by kernel_rfl) (by kernel_rfl) (by kernel_rfl) (fun _ _ _ h => h) (Or.inl ⟨by rfl,?_⟩) hS ?_
                rotate_left
                · (intro w' hS';go_simp;try with_reducible rfl)
                (try simp only [Act.put,List.getElem_toArray,List.getElem_cons_zero,List.getElem_cons_succ,List.setIfInBounds_toArray,List.set_cons_zero,List.set_cons_succ])
                refine wpAnyH_take (i:=7) (v:=_) rfl (by kernel_rfl) (by kernel_rfl) (by kernel_rfl) (fun _ _ _ h => h) (yieldsIf_load_mid (by rfl) _ _ rfl (G) (i' * 21) rfl ((ptL y)) _ (fun _ hS' => hS'.2) Try.underlying71 rfl (by rw [hLl.out];exact size_pt)) hS ?_
                (try simp only [Act.put,List.getElem_toArray,List.getElem_cons_zero,List.getElem_cons_succ,List.setIfInBounds_toArray,List.set_cons_zero,List.set_cons_succ])
                refine wpAnyH_ready (rs:=[8]) (by kernel_rfl) (by simp) ?_
                refine AllReadyH.cons rfl (fun K hK => ?_) AllReadyH.nil
                go_simp
                refine hC.out.mono ?_
                rintro e w6 ⟨⟨vb,lb,rfl,hRb,hPb⟩,hb6'⟩
                go_simp
                refine hK.out _ _ (hS.below hGd.out hb6') (fun _ => ?_)
                clear hK K
                replace hS:=hS.below hGd.out hb6'
                (try simp only [Act.put,List.getElem_toArray,List.getElem_cons_zero,List.getElem_cons_succ,List.setIfInBounds_toArray,List.set_cons_zero,List.set_cons_succ])
                refine wpAnyH_take (i:=9) (v:=?_) rfl (by kernel_rfl) (by kernel_rfl) (by kernel_rfl) (fun _ _ _ h => h) (Or.inl ⟨by rfl,?_⟩) hS ?_
                rotate_left
                · (intro w' hS';go_simp;try with_reducible rfl)
                (try simp only [Act.put,List.getElem_toArray,List.getElem_cons_zero,List.getElem_cons_succ,List.setIfInBounds_toArray,List.set_cons_zero,List.set_cons_succ])
                refine wpAnyH_done (by kernel_rfl) ?_ _
                have hb6:=lhi (show Below wr.heap.size wr w6 from (below_drewN (Below.refl wr.heap.size wr) 1).trans hb6')
                have hB7:=lhi (hBi.out.trans (hb6.out.mono hBi.out.size))
                replace hPb:=lhi (hPb.mono (b':=w.heap.size) hBid.out.size)
                have hPo6:=lhi (hPoB.out.keep hb6.out)
                have hPx6:=lhi (hPxB.out.keep hb6.out)
                have hyc6:=lhi ((hb6.out.cell (p:=⟨G,i' * 21,none⟩) (show G < wr.heap.size from hG)).trans hyc.out)
                have hG6:=lhi (show G < w6.heap.size from nll (show G < wr.heap.size from hG) hb6.out.size)
                have hnb4:=hLm.out lb hRb
                replace hRb:=lhi hRb
                obtain ⟨Ab,cb',rfl,_⟩:=hPb.out.prow
                generalize hnb : lb.length = nb at *
                replace hnb:=lhi hnb
                clear hb6' hSd hC hS
                obtain ⟨Wi,hRn⟩ : ∃ z,z = wr:=⟨_,rfl⟩;subst hRn
                go_wp2
                go_loopw [9,13,16] (fun vo vx vj wr => ∃ (o x : Value) (j : Nat) (oj xj : List Pt),o = vo ∧ x = vx ∧ j ≤ nb ∧ vj = .int .i64 (j : Int) ∧ Pts wr w.heap.size o oj ∧ Pts wr w.heap.size x xj ∧ oj.Nodup ∧ xj.Nodup ∧ (∀ q,q ∈ oj ↔ q ∈ outi ∨ ((k : Int) < lo ∧ q ∈ lb.take j ∧ q.i = y.i)) ∧ (∀ q,q ∈ xj ↔ q ∈ nxt ∨ (q ∈ lb.take j ∧ q.i ≠ y.i)) ∧ Below w6.heap.size w6 wr) (fun _ _ vj _ => nb - (intOf vj).toNat)
                case atStart => exact ⟨_,_,0,outi,nxt,rfl,rfl,Nat.zero_le _,rfl,hPo6.out,hPx6.out,hnoB.out,hnxB.out,fun q => by simp,fun q => by simp,Below.refl _ _⟩
                case round =>
                 obtain ⟨o,x,j,oj,xj,rfl,rfl,hj',rfl,hPo,hPx,hno,hnx,hmo,hmx,hbc⟩:=hrel
                 have hPoC:=lhi hPo
                 have hPxC:=lhi hPx
                 have hnoC:=lhi hno
                 have hnxC:=lhi hnx
                 have hmoC:=lhi hmo
                 have hmxC:=lhi hmx
                 have hbcC:=lhi hbc
                 clear hPo hPx hno hnx hmo hmx hbc
                 by_cases hltj : j < nb
                 · have hjx : j < lb.length:=by rw [hnb.out];exact hltj
                   obtain ⟨G2,c2',e2',_,hG2,hrg2⟩:=(hPb.out.keep hbcC.out).range hjx
                   rw [hnb.out] at e2'
                   obtain ⟨rfl,rfl⟩ : Ab = some ⟨G2,0,none⟩ ∧ cb' = c2':=by injection e2' with e1 _ e2;exact ⟨e1,e2⟩
                   have hBc:=lhi (hB7.out.trans (hbcC.out.mono hB7.out.size))
                   have hBcd:=lhi (show Below w.heap.size w wr.drew from below_drewN hBc.out 1)
                   have hqR : Rel ns t (.node (ka : Int)) y (lb[j]'hjx):=(hRb.out.2 _).1 (List.getElem_mem hjx)
                   have hoR : ∀ q ∈ oj,Rel ns t (.node (m : Int)) p q:=fun q hq => by
                    rcases (hmoC.out q).1 hq with h1 | ⟨h1,h2,h3⟩
                    · exact hoI.out q h1
                    · exact hyE.out q ((hRb.out.2 _).1 (List.mem_of_mem_take h2)) h3 h1
                   have hxR : ∀ q ∈ xj,It ns t (m : Int) p (k + 1) q:=fun q hq => by
                    rcases (hmxC.out q).1 hq with h1 | ⟨h2,h3⟩
                    · exact hxI.out q h1
                    · exact hyN.out q ((hRb.out.2 _).1 (List.mem_of_mem_take h2)) h3
                   have htj : lb.take (j + 1) = lb.take j ++ [lb[j]'hjx]:=by rw [List.take_add_one,List.getElem?_eq_getElem hjx];rfl
                   replace htj:=lhi htj
                   have hLj:=lhi (ptL_len (lb[j]'hjx))
                   have hrgd:=lhi (show wr.drew.rangeAt G2 (j * 21) (ptL (lb[j]'hjx)) from hrg2)
                   have hSd:=lhi (show (fun w' : World => w'.cell? ⟨G2,j * 21,none⟩ = some (.int .i64 ((lb[j]'hjx).i : Int)) ∧ w'.cell? ⟨G,i' * 21,none⟩ = some (.int .i64 (y.i : Int))) wr.drew from ⟨hrg2 0 _ rfl,(hbcC.out.cell (p:=⟨G,i' * 21,none⟩) hG6.out).trans hyc6.out⟩)
                   have hjI : (j : Int) < (nb : Int):=by omega
                   have hw2j : IntKind.i64.wrap ((j : Int) + 1) = (j : Int) + 1:=IntWalk.i64_in _ (by omega)
                   have hCo:=lhi (fun (hz : (lb[j]'hjx).i = y.i) (hk : (k : Int) < lo) => show Calls Try.prog 39 #[o,.agg (ptL (lb[j]'hjx)).toArray] wr.drew fun e w' => (∃ v' l',e = .returned v' ∧ PutP oj (lb[j]'hjx) l' ∧ Pts w' w.heap.size v' l') ∧ Below wr.drew.heap.size wr.drew w' from
                    rwith_any w.heap.size o oj (lb[j]'hjx) wr.drew hBcd.out.size (show Pts wr.drew w.heap.size o oj from hPoC.out) (hnr.out _ (hyE.out _ hqR hz hk)) (fun q hq => hnr.out q (hoR q hq)) (hlen.out oj hnoC.out hoR))
                   have hCx:=lhi (fun (hz : (lb[j]'hjx).i ≠ y.i) => show Calls Try.prog 39 #[x,.agg (ptL (lb[j]'hjx)).toArray] wr.drew fun e w' => (∃ v' l',e = .returned v' ∧ PutP xj (lb[j]'hjx) l' ∧ Pts w' w.heap.size v' l') ∧ Below wr.drew.heap.size wr.drew w' from
                    rwith_any w.heap.size x xj (lb[j]'hjx) wr.drew hBcd.out.size (show Pts wr.drew w.heap.size x xj from hPxC.out) (hnI.out (k + 1) _ (hyN.out _ hqR hz)) (fun q hq => hnI.out (k + 1) q (hxR q hq)) (hlenI.out (k + 1) xj hnxC.out hxR))
                   have hk3d:=lhi (show wr.drew.cell? ⟨H1,3,none⟩ = some (.int .i64 lo) from ((((hT1.out.below hbrB.out).below hb6.out).below hbcC.out).below (below_drewN (Below.refl _ _) 1)).2.1.at_ N3h.out)
                   have hbw:=lhi (show Below w6.heap.size w6 wr.drew from below_drewN hbcC.out 1)
                   have hPod:=lhi (show Pts wr.drew w.heap.size o oj from hPoC.out)
                   have hPxd:=lhi (show Pts wr.drew w.heap.size x xj from hPxC.out)
                   clear hrg2 e2' hqR hoR hxR
                   generalize hqq : lb[j]'hjx = qj at *
                   replace hqq:=lhi hqq
                   by_cases hz : qj.i = y.i
                   · have hzd : ((qj.i : Int) != (y.i : Int)) = false:=by rw [hz];simp
                     have hzh:=lhi hz
                     have hmx':=lhi (show ∀ q,q ∈ xj ↔ q ∈ nxt ∨ (q ∈ lb.take (j + 1) ∧ q.i ≠ y.i) from fun q => by
                      rw [hmxC.out,htj.out]
                      simp only [List.mem_append,List.mem_singleton]
                      constructor
                      · rintro (h1 | ⟨h1,h2⟩)
                        · exact .inl h1
                        · exact .inr ⟨.inl h1,h2⟩
                      · rintro (h1 | ⟨h1 | rfl,h2⟩)
                        · exact .inl h1
                        · exact .inr ⟨h1,h2⟩
                        · exact absurd hz h2)
                     clear hz
                     go_wp2
                     refine wp_region_held_drew (S:=fun w' : World => w'.cell? ⟨G2,j * 21,none⟩ = some (.int .i64 (qj.i : Int)) ∧ w'.cell? ⟨G,i' * 21,none⟩ = some (.int .i64 (y.i : Int))) (by kernel_rfl) hSd.out (fun hS => ?_)
                     refine wpAnyH_take (i:=0) (v:=?_) rfl (by kernel_rfl) (by kernel_rfl) (by kernel_rfl) (fun _ _ _ h => h) (Or.inl ⟨by rfl,?_⟩) hS ?_
                     rotate_left
                     · (intro w' hS';go_simp;try with_reducible rfl)
                     (try simp only [Act.put,List.getElem_toArray,List.getElem_cons_zero,List.getElem_cons_succ,List.setIfInBounds_toArray,List.set_cons_zero,List.set_cons_succ])
                     refine wpAnyH_take (i:=1) (v:=?_) rfl (by kernel_rfl) (by kernel_rfl) (by kernel_rfl) (fun _ _ _ h => h) (Or.inl ⟨by rfl,?_⟩) hS ?_
                     rotate_left
                     · (intro w' hS';go_simp;try with_reducible rfl)
                     (try simp only [Act.put,List.getElem_toArray,List.getElem_cons_zero,List.getElem_cons_succ,List.setIfInBounds_toArray,List.set_cons_zero,List.set_cons_succ])
                     refine wpAnyH_take (i:=2) (v:=?_) rfl (by kernel_rfl) (by kernel_rfl) (by kernel_rfl) (fun _ _ _ h => h) (Or.inl ⟨by rfl,?_⟩) hS ?_
                     rotate_left
                     · (intro w' hS';go_simp;try with_reducible rfl)
                     (try simp only [Act.put,List.getElem_toArray,List.getElem_cons_zero,List.getElem_cons_succ,List.setIfInBounds_toArray,List.set_cons_zero,List.set_cons_succ])
                     refine wpAnyH_take (i:=3) (v:=?_) rfl (by kernel_rfl) (by kernel_rfl) (by kernel_rfl) (fun _ _ _ h => h) (Or.inl ⟨by rfl,?_⟩) hS ?_
                     rotate_left
                     · (intro w' hS';go_simp;try with_reducible rfl)
                     (try simp only [Act.put,List.getElem_toArray,List.getElem_cons_zero,List.getElem_cons_succ,List.setIfInBounds_toArray,List.set_cons_zero,List.set_cons_succ])
                     refine wpAnyH_take (i:=4) (v:=?_) rfl (by kernel_rfl) (by kernel_rfl) (by kernel_rfl) (fun _ _ _ h => h) (Or.inl ⟨by rfl,?_⟩) hS ?_
                     rotate_left
                     · (intro w' hS';have ha:=hS'.1;go_simp;try with_reducible rfl)
                     (try simp only [Act.put,List.getElem_toArray,List.getElem_cons_zero,List.getElem_cons_succ,List.setIfInBounds_toArray,List.set_cons_zero,List.set_cons_succ])
                     refine wpAnyH_take (i:=5) (v:=?_) rfl (by kernel_rfl) (by kernel_rfl) (by kernel_rfl) (fun _ _ _ h => h) (Or.inl ⟨by rfl,?_⟩) hS ?_
                     rotate_left
                     · (intro w' hS';go_simp;try with_reducible rfl)
                     (try simp only [Act.put,List.getElem_toArray,List.getElem_cons_zero,List.getElem_cons_succ,List.setIfInBounds_toArray,List.set_cons_zero,List.set_cons_succ])
                     refine wpAnyH_take (i:=6) (v:=?_) rfl (by kernel_rfl) (by kernel_rfl) (by kernel_rfl) (fun _ _ _ h => h) (Or.inl ⟨by rfl,?_⟩) hS ?_
                     rotate_left
                     · (intro w' hS';go_simp;try with_reducible rfl)
                     (try simp only [Act.put,List.getElem_toArray,List.getElem_cons_zero,List.getElem_cons_succ,List.setIfInBounds_toArray,List.set_cons_zero,List.set_cons_succ])
                     refine wpAnyH_take (i:=7) (v:=?_) rfl (by kernel_rfl) (by kernel_rfl) (by kernel_rfl) (fun _ _ _ h => h) (Or.inl ⟨by rfl,?_⟩) hS ?_
                     rotate_left
                     · (intro w' hS';go_simp;try with_reducible rfl)
                     (try simp only [Act.put,List.getElem_toArray,List.getElem_cons_zero,List.getElem_cons_succ,List.setIfInBounds_toArray,List.set_cons_zero,List.set_cons_succ])
                     refine wpAnyH_take (i:=8) (v:=?_) rfl (by kernel_rfl) (by kernel_rfl) (by kernel_rfl) (fun _ _ _ h => h) (Or.inl ⟨by rfl,?_⟩) hS ?_
                     rotate_left
                     · (intro w' hS';go_simp;try with_reducible rfl)
                     (try simp only [Act.put,List.getElem_toArray,List.getElem_cons_zero,List.getElem_cons_succ,List.setIfInBounds_toArray,List.set_cons_zero,List.set_cons_succ])
                     refine wpAnyH_take (i:=9) (v:=?_) rfl (by kernel_rfl) (by kernel_rfl) (by kernel_rfl) (fun _ _ _ h => h) (Or.inl ⟨by rfl,?_⟩) hS ?_
                     rotate_left
                     · (intro w' hS';have hb:=hS'.2;go_simp;try with_reducible rfl)
                     (try simp only [Act.put,List.getElem_toArray,List.getElem_cons_zero,List.getElem_cons_succ,List.setIfInBounds_toArray,List.set_cons_zero,List.set_cons_succ])
                     refine wpAnyH_take (i:=10) (v:=?_) rfl (by kernel_rfl) (by kernel_rfl) (by kernel_rfl) (fun _ _ _ h => h) (Or.inl ⟨by rfl,?_⟩) hS ?_
                     rotate_left
                     · (intro w' hS';go_simp;try with_reducible rfl)
                     (try simp only [Act.put,List.getElem_toArray,List.getElem_cons_zero,List.getElem_cons_succ,List.setIfInBounds_toArray,List.set_cons_zero,List.set_cons_succ])
                     refine wpAnyH_done (by kernel_rfl) ?_ _
                     generalize wr.drew = wd at *
                     have k3d:=hk3d.out
                     by_cases hkl : (k : Int) < lo
                     · have hkd : decide ((k : Int) < lo) = true:=decide_eq_true hkl
                       have hklh:=lhi hkl
                       clear hkl
                       go_wp2_with (first
                        | (refine wpList_load_mid rfl 71 (.tmp 97) rfl G2 (j * 21) rfl (ptL qj) _ hrgd.out Try.underlying71 rfl (by rw [hLj.out];exact size_pt) ?_)
                        | (go_at_call 39;refine (hCo.out hzh.out hklh.out).mono ?_;rintro e w9 ⟨⟨v',l',rfl,hpu,hP9⟩,hb9⟩))
                       go_roundw
                       case rel => exact ⟨_,_,j + 1,l',xj,rfl,rfl,by omega,rfl,hP9,hPxd.out.keep hb9,hpu.nodup hnoC.out,hnxC.out,fun q => by
                           rw [hpu.mem,hmoC.out,htj.out]
                           simp only [List.mem_append,List.mem_singleton]
                           constructor
                           · rintro ((h1 | ⟨h0,h1,h2⟩) | rfl)
                             · exact .inl h1
                             · exact .inr ⟨h0,.inl h1,h2⟩
                             · exact .inr ⟨hklh.out,.inr rfl,hzh.out⟩
                           · rintro (h1 | ⟨h0,h1 | rfl,h2⟩)
                             · exact .inl (.inl h1)
                             · exact .inl (.inr ⟨h0,h1,h2⟩)
                             · exact .inr rfl,hmx'.out,hbw.out.trans (hb9.mono hbw.out.size)⟩
                       case measure => simp [intOf];omega
                     · have hkd : decide ((k : Int) < lo) = false:=decide_eq_false hkl
                       have hklh:=lhi hkl
                       first
                        | (exfalso;have:=hlkh.out;have:=hklh.out;omega)
                        | (go_wp2
                           go_roundw
                           case rel => exact ⟨_,_,j + 1,oj,xj,rfl,rfl,by omega,rfl,hPod.out,hPxd.out,hnoC.out,hnxC.out,fun q => by
                               rw [hmoC.out]
                               constructor
                               · rintro (h1 | ⟨h0,_⟩)
                                 · exact .inl h1
                                 · exact absurd h0 hklh.out
                               · rintro (h1 | ⟨h0,_⟩)
                                 · exact .inl h1
                                 · exact absurd h0 hklh.out,hmx'.out,hbw.out⟩
                           case measure => simp [intOf];omega)
                   · have hzd : ((qj.i : Int) != (y.i : Int)) = true:=by rw [bne_iff_ne];omega
                     have hzh:=lhi hz
                     clear hz
                     go_wp2
                     refine wp_region_held_drew (S:=fun w' : World => w'.cell? ⟨G2,j * 21,none⟩ = some (.int .i64 (qj.i : Int)) ∧ w'.cell? ⟨G,i' * 21,none⟩ = some (.int .i64 (y.i : Int))) (by kernel_rfl) hSd.out (fun hS => ?_)
                     refine wpAnyH_take (i:=0) (v:=?_) rfl (by kernel_rfl) (by kernel_rfl) (by kernel_rfl) (fun _ _ _ h => h) (Or.inl ⟨by rfl,?_⟩) hS ?_
                     rotate_left
                     · (intro w' hS';go_simp;try with_reducible rfl)
                     (try simp only [Act.put,List.getElem_toArray,List.getElem_cons_zero,List.getElem_cons_succ,List.setIfInBounds_toArray,List.set_cons_zero,List.set_cons_succ])
                     refine wpAnyH_take (i:=1) (v:=?_) rfl (by kernel_rfl) (by kernel_rfl) (by kernel_rfl) (fun _ _ _ h => h) (Or.inl ⟨by rfl,?_⟩) hS ?_
                     rotate_left
                     · (intro w' hS';go_simp;try with_reducible rfl)
                     (try simp only [Act.put,List.getElem_toArray,List.getElem_cons_zero,List.getElem_cons_succ,List.setIfInBounds_toArray,List.set_cons_zero,List.set_cons_succ])
                     refine wpAnyH_take (i:=2) (v:=?_) rfl (by kernel_rfl) (by kernel_rfl) (by kernel_rfl) (fun _ _ _ h => h) (Or.inl ⟨by rfl,?_⟩) hS ?_
                     rotate_left
                     · (intro w' hS';go_simp;try with_reducible rfl)
                     (try simp only [Act.put,List.getElem_toArray,List.getElem_cons_zero,List.getElem_cons_succ,List.setIfInBounds_toArray,List.set_cons_zero,List.set_cons_succ])
                     refine wpAnyH_take (i:=3) (v:=?_) rfl (by kernel_rfl) (by kernel_rfl) (by kernel_rfl) (fun _ _ _ h => h) (Or.inl ⟨by rfl,?_⟩) hS ?_
                     rotate_left
                     · (intro w' hS';go_simp;try with_reducible rfl)
                     (try simp only [Act.put,List.getElem_toArray,List.getElem_cons_zero,List.getElem_cons_succ,List.setIfInBounds_toArray,List.set_cons_zero,List.set_cons_succ])
                     refine wpAnyH_take (i:=4) (v:=?_) rfl (by kernel_rfl) (by kernel_rfl) (by kernel_rfl) (fun _ _ _ h => h) (Or.inl ⟨by rfl,?_⟩) hS ?_
                     rotate_left
                     · (intro w' hS';have ha:=hS'.1;go_simp;try with_reducible rfl)
                     (try simp only [Act.put,List.getElem_toArray,List.getElem_cons_zero,List.getElem_cons_succ,List.setIfInBounds_toArray,List.set_cons_zero,List.set_cons_succ])
                     refine wpAnyH_take (i:=5) (v:=?_) rfl (by kernel_rfl) (by kernel_rfl) (by kernel_rfl) (fun _ _ _ h => h) (Or.inl ⟨by rfl,?_⟩) hS ?_
                     rotate_left
                     · (intro w' hS';go_simp;try with_reducible rfl)
                     (try simp only [Act.put,List.getElem_toArray,List.getElem_cons_zero,List.getElem_cons_succ,List.setIfInBounds_toArray,List.set_cons_zero,List.set_cons_succ])
                     refine wpAnyH_take (i:=6) (v:=?_) rfl (by kernel_rfl) (by kernel_rfl) (by kernel_rfl) (fun _ _ _ h => h) (Or.inl ⟨by rfl,?_⟩) hS ?_
                     rotate_left
                     · (intro w' hS';go_simp;try with_reducible rfl)
                     (try simp only [Act.put,List.getElem_toArray,List.getElem_cons_zero,List.getElem_cons_succ,List.setIfInBounds_toArray,List.set_cons_zero,List.set_cons_succ])
                     refine wpAnyH_take (i:=7) (v:=?_) rfl (by kernel_rfl) (by kernel_rfl) (by kernel_rfl) (fun _ _ _ h => h) (Or.inl ⟨by rfl,?_⟩) hS ?_
                     rotate_left
                     · (intro w' hS';go_simp;try with_reducible rfl)
                     (try simp only [Act.put,List.getElem_toArray,List.getElem_cons_zero,List.getElem_cons_succ,List.setIfInBounds_toArray,List.set_cons_zero,List.set_cons_succ])
                     refine wpAnyH_take (i:=8) (v:=?_) rfl (by kernel_rfl) (by kernel_rfl) (by kernel_rfl) (fun _ _ _ h => h) (Or.inl ⟨by rfl,?_⟩) hS ?_
                     rotate_left
                     · (intro w' hS';go_simp;try with_reducible rfl)
                     (try simp only [Act.put,List.getElem_toArray,List.getElem_cons_zero,List.getElem_cons_succ,List.setIfInBounds_toArray,List.set_cons_zero,List.set_cons_succ])
                     refine wpAnyH_take (i:=9) (v:=?_) rfl (by kernel_rfl) (by kernel_rfl) (by kernel_rfl) (fun _ _ _ h => h) (Or.inl ⟨by rfl,?_⟩) hS ?_
                     rotate_left
                     · (intro w' hS';have hb:=hS'.2;go_simp;try with_reducible rfl)
                     (try simp only [Act.put,List.getElem_toArray,List.getElem_cons_zero,List.getElem_cons_succ,List.setIfInBounds_toArray,List.set_cons_zero,List.set_cons_succ])
                     refine wpAnyH_take (i:=10) (v:=?_) rfl (by kernel_rfl) (by kernel_rfl) (by kernel_rfl) (fun _ _ _ h => h) (Or.inl ⟨by rfl,?_⟩) hS ?_
                     rotate_left
                     · (intro w' hS';go_simp;try with_reducible rfl)
                     (try simp only [Act.put,List.getElem_toArray,List.getElem_cons_zero,List.getElem_cons_succ,List.setIfInBounds_toArray,List.set_cons_zero,List.set_cons_succ])
                     refine wpAnyH_done (by kernel_rfl) ?_ _
                     generalize wr.drew = wd at *
                     go_wp2_with (first
                      | (refine wpList_load_mid rfl 71 (.tmp 87) rfl G2 (j * 21) rfl (ptL qj) _ hrgd.out Try.underlying71 rfl (by rw [hLj.out];exact size_pt) ?_)
                      | (go_at_call 39;refine (hCx.out hzh.out).mono ?_;rintro e w9 ⟨⟨v',l',rfl,hpu,hP9⟩,hb9⟩))
                     go_roundw
                     case rel => exact ⟨_,_,j + 1,oj,l',rfl,rfl,by omega,rfl,hPod.out.keep hb9,hP9,hnoC.out,hpu.nodup hnxC.out,fun q => by
                           rw [hmoC.out,htj.out]
                           simp only [List.mem_append,List.mem_singleton]
                           constructor
                           · rintro (h1 | ⟨h0,h1,h2⟩)
                             · exact .inl h1
                             · exact .inr ⟨h0,.inl h1,h2⟩
                           · rintro (h1 | ⟨h0,h1 | rfl,h2⟩)
                             · exact .inl h1
                             · exact .inr ⟨h0,h1,h2⟩
                             · exact absurd h2 hzh.out,fun q => by
                           rw [hpu.mem,hmxC.out,htj.out]
                           simp only [List.mem_append,List.mem_singleton]
                           constructor
                           · rintro ((h1 | ⟨h1,h2⟩) | rfl)
                             · exact .inl h1
                             · exact .inr ⟨.inl h1,h2⟩
                             · exact .inr ⟨.inr rfl,hzh.out⟩
                           · rintro (h1 | ⟨h1 | rfl,h2⟩)
                             · exact .inl (.inl h1)
                             · exact .inl (.inr ⟨h1,h2⟩)
                             · exact .inr rfl,hbw.out.trans (hb9.mono hbw.out.size)⟩
                     case measure => simp [intOf];omega
                 · obtain rfl : j = nb:=by omega
                   go_wp2
                   go_roundw
                   case rel => exact ⟨_,_,i' + 1,oj,xj,rfl,rfl,by omega,rfl,hPoC.out,hPxC.out,hnoC.out,hnxC.out,fun q => by
                       rw [hmoC.out,hmoB.out,htk.out,← hnb.out,List.take_length,hRb.out.2]
                       simp only [List.mem_append,List.mem_singleton]
                       constructor
                       · rintro ((h1 | ⟨h0,z,h1,h2⟩) | ⟨h0,h1,h2⟩)
                         · exact .inl h1
                         · exact .inr ⟨h0,z,.inl h1,h2⟩
                         · exact .inr ⟨h0,y,.inr rfl,h1,h2⟩
                       · rintro (h1 | ⟨h0,z,h1 | rfl,h2⟩)
                         · exact .inl (.inl h1)
                         · exact .inl (.inr ⟨h0,z,h1,h2⟩)
                         · exact .inr ⟨h0,h2⟩,fun q => by
                       rw [hmxC.out,hmxB.out,htk.out,← hnb.out,List.take_length,hRb.out.2]
                       simp only [List.mem_append,List.mem_singleton]
                       constructor
                       · rintro (⟨z,h1,h2⟩ | h1)
                         · exact ⟨z,.inl h1,h2⟩
                         · exact ⟨y,.inr rfl,h1⟩
                       · rintro ⟨z,h1 | rfl,h2⟩
                         · exact .inl ⟨z,h1,h2⟩
                         · exact .inr h2,(hbrB.out.trans (hb6.out.mono hbrB.out.size)).trans (hbcC.out.mono (Nat.le_trans hbrB.out.size hb6.out.size))⟩
                   case measure => simp [intOf];omega
              · obtain rfl : i' = n:=by omega
                have hTn:=lhi (hTnx.out k now out outi nxt hTim.out hkh.out hnxB.out hnoB.out (fun q => by rw [hmxB.out,← hnn.out,List.take_length]) (fun q => by
                 have e1:=hmoB.out q
                 rw [← hnn.out,List.take_length] at e1
                 exact e1.trans (or_congr (hm1.out q) Iff.rfl)))
                have hT9:=lhi (hT1.out.below hbrB.out)
                have hB9:=lhi (hB1.out.trans (hbrB.out.mono hB1.out.size))
                go_wp2
                go_roundw
                case rel => exact ⟨_,_,k + 1,outi,nxt,rfl,rfl,rfl,hPoB.out,hPxB.out,hTn.out,hT9.out,hB9.out,by have:=hkt.out;omega⟩
                case measure => have:=hkt.out;simp [intOf];omega
    · have dA : decide (lo ≤ (k : Int)) = false:=decide_eq_false hlk
      have hlkh:=lhi hlk
      have dA2 : ¬ lo ≤ (k : Int):=hlk
      go_wp2
      go_loopw [9,12] (fun v i wr => ∃ v0,v0 = v ∧ i = .int .i64 0 ∧ v0 = o ∧ wr = Wk) (fun _ _ _ => 0)
      case atStart => exact ⟨_,rfl,rfl,rfl,rfl⟩
      case round =>
       obtain ⟨v0,rfl,rfl,rfl,rfl⟩:=hrel
       obtain ⟨W1,hRn⟩ : ∃ z,z = wr:=⟨_,rfl⟩;subst hRn;obtain ⟨o1,hRn⟩ : ∃ z,z = v0:=⟨_,rfl⟩;subst hRn
       have hP1:=hPo
       have hn1o:=lhi hTim.out.on
       have hm1:=lhi (show ∀ q,q ∈ out ↔ q ∈ out ∨ (lo ≤ (k : Int) ∧ q ∈ now) from fun q => by
        constructor
        · exact .inl
        · rintro (h1 | ⟨h0,_⟩)
          · exact h1
          · exact absurd h0 (by have:=hlkh.out;omega))
       have hB1:=hB
       have hT1:=hT
       have ho1:=ho0
       have k4q : W1.cell? ⟨H1,4,none⟩ = some (.int .i64 hi):=hT1.out.2.1.at_ N4h.out
       have hkh:=lhi (show hi = -1 ∨ (k : Int) < hi from by omega)
       have hkh2:=lhi (show hi < 0 ∨ (0 ≤ hi ∧ (k : Int) < hi) from by omega)
       rcases hkh2.out with d1 | ⟨d1,d2⟩
       · have d3 : decide (0 ≤ hi) = false:=decide_eq_false (by omega)
         have d4 : ¬ 0 ≤ hi:=by omega
         go_wp2
         go_loopw [9,13,14] (fun vo vx vi wr => ∃ (o x : Value) (i' : Nat) (outi nxt : List Pt),o = vo ∧ x = vx ∧ i' ≤ n ∧ vi = .int .i64 (i' : Int) ∧ Pts wr w.heap.size o outi ∧ Pts wr w.heap.size x nxt ∧ outi.Nodup ∧ nxt.Nodup ∧ (∀ q,q ∈ outi ↔ q ∈ out ∨ ((k : Int) < lo ∧ ∃ y ∈ now.take i',Rel ns t (.node (ka : Int)) y q ∧ q.i = y.i)) ∧ (∀ q,q ∈ nxt ↔ ∃ y ∈ now.take i',Rel ns t (.node (ka : Int)) y q ∧ q.i ≠ y.i) ∧ Below W1.heap.size W1 wr) (fun _ _ vi _ => n - (intOf vi).toNat)
         case atStart => exact ⟨_,_,0,out,[],rfl,rfl,Nat.zero_le _,rfl,hP1.out,Pts.nil _ _,hn1o.out,List.nodup_nil,fun q => by simp,fun q => by simp,Below.refl _ _⟩
         case round =>
          obtain ⟨o,x,i',outi,nxt,rfl,rfl,hi',rfl,hPo,hPx,hno,hnx,hmo,hmx,hbr⟩:=hrel
          have hPoB:=lhi hPo
          have hPxB:=lhi hPx
          have hnoB:=lhi hno
          have hnxB:=lhi hnx
          have hmoB:=lhi hmo
          have hmxB:=lhi hmx
          have hbrB:=lhi hbr
          clear hPo hPx hno hnx hmo hmx hbr
          have hoI:=lhi (fun q (hq : q ∈ outi) => show Rel ns t (.node (m : Int)) p q from by
           rcases (hmoB.out q).1 hq with h1 | ⟨h0,z,h1,h2,h3⟩
           · exact ho1.out q h1
           · exact hE2.out k z q ((hTim.out.nm z).1 (List.mem_of_mem_take h1)) hkh.out h2 h3 h0)
          have hxI:=lhi (fun q (hq : q ∈ nxt) => show It ns t (m : Int) p (k + 1) q from by
           obtain ⟨z,h1,h2,h3⟩:=(hmxB.out q).1 hq
           exact hE3.out k z q ((hTim.out.nm z).1 (List.mem_of_mem_take h1)) hkh.out h2 h3)
          by_cases hlti : i' < n
          · have hix : i' < now.length:=by rw [hnn.out];exact hlti
            obtain ⟨G,c1',e1',_,hG,hrg⟩:=(hPu.out.keep hbrB.out).range hix
            rw [hnn.out] at e1'
            obtain ⟨rfl,rfl⟩ : Au = some ⟨G,0,none⟩ ∧ cu = c1':=by injection e1' with e1 _ e2;exact ⟨e1,e2⟩
            have hBi:=lhi (hB1.out.trans (hbrB.out.mono hB1.out.size))
            have hBid:=lhi (show Below w.heap.size w wr.drew from below_drewN hBi.out 1)
            have hyI:=hTim.out.nm _ |>.1 (List.getElem_mem hix)
            have hC:=lhi (hCa.out wr.drew hBid.out k _ hyI hkh.out)
            have hLm:=lhi (hlm.out k _ hyI hkh.out)
            have hyE:=lhi (fun q (h1 : Rel ns t (.node (ka : Int)) (now[i']'hix) q) (h2 : q.i = (now[i']'hix).i) (h3 : (k : Int) < lo) => hE2.out k _ q hyI hkh.out h1 h2 h3)
            have hyN:=lhi (fun q (h1 : Rel ns t (.node (ka : Int)) (now[i']'hix) q) (h2 : q.i ≠ (now[i']'hix).i) => hE3.out k _ q hyI hkh.out h1 h2)
            have hSd:=lhi (show ST2 w.heap.size H1 H2 #[.slice (some ad) nn cn,.int .i64 g] CN CP G (i' * 21) (ptL (now[i']'hix)) wr.drew from ⟨(hT1.out.below hbrB.out).below (below_drewN (Below.refl _ _) 1),hrg⟩)
            have htk : now.take (i' + 1) = now.take i' ++ [now[i']'hix]:=by rw [List.take_add_one,List.getElem?_eq_getElem hix];rfl
            replace htk:=lhi htk
            have hLl:=lhi (ptL_len (now[i']'hix))
            have hGd:=lhi (show G < wr.drew.heap.size from hG)
            have hyc:=lhi (show wr.cell? ⟨G,i' * 21,none⟩ = some (.int .i64 ((now[i']'hix).i : Int)) from hrg 0 _ rfl)
            have hiI : (i' : Int) < (n : Int):=by omega
            have hw2i : IntKind.i64.wrap ((i' : Int) + 1) = (i' : Int) + 1:=IntWalk.i64_in _ (by omega)
            clear hrg e1' hyI
            generalize hyq : now[i']'hix = y at *
            replace hyq:=lhi hyq
            go_wp2
            refine wp_region_held_drew (S:=ST2 w.heap.size H1 H2 #[.slice (some ad) nn cn,.int .i64 g] CN CP G (i' * 21) (ptL y)) (by kernel_rfl) hSd.out (fun hS => ?_)
            refine wpAnyH_take (i:=0) (v:=?_) rfl (by kernel_rfl) (by kernel_rfl) (by kernel_rfl) (fun _ _ _ h => h) (Or.inl ⟨by rfl,?_⟩) hS ?_
            rotate_left
            · (intro w' hS';have ha : w'.cell? ⟨w.heap.size,0,none⟩ = some (.slice (some ad) nn cn):=hS'.1.1.at_ rfl;have hb : w'.cell? ⟨w.heap.size,1,none⟩ = some (.int .i64 g):=hS'.1.1.at_ rfl;go_simp;try with_reducible rfl)
            (try simp only [Act.put,List.getElem_toArray,List.getElem_cons_zero,List.getElem_cons_succ,List.setIfInBounds_toArray,List.set_cons_zero,List.set_cons_succ])
            refine wpAnyH_take (i:=1) (v:=?_) rfl (by kernel_rfl) (by kernel_rfl) (by kernel_rfl) (fun _ _ _ h => h) (Or.inl ⟨by rfl,?_⟩) hS ?_
            rotate_left
            · (intro w' hS';go_simp;try with_reducible rfl)
            (try simp only [Act.put,List.getElem_toArray,List.getElem_cons_zero,List.getElem_cons_succ,List.setIfInBounds_toArray,List.set_cons_zero,List.set_cons_succ])
            refine wpAnyH_take (i:=2) (v:=?_) rfl (by kernel_rfl) (by kernel_rfl) (by kernel_rfl) (fun _ _ _ h => h) (Or.inl ⟨by rfl,?_⟩) hS ?_
            rotate_left
            · (intro w' hS';go_simp;try with_reducible rfl)
            (try simp only [Act.put,List.getElem_toArray,List.getElem_cons_zero,List.getElem_cons_succ,List.setIfInBounds_toArray,List.set_cons_zero,List.set_cons_succ])
            refine wpAnyH_take (i:=3) (v:=?_) rfl (by kernel_rfl) (by kernel_rfl) (by kernel_rfl) (fun _ _ _ h => h) (Or.inl ⟨by rfl,?_⟩) hS ?_
            rotate_left
            · (intro w' hS';have ha : w'.cell? ⟨H1,1,none⟩ = some (.int .i64 (ka : Int)):=hS'.1.2.1.at_ N1h.out;go_simp;try with_reducible rfl)
            (try simp only [Act.put,List.getElem_toArray,List.getElem_cons_zero,List.getElem_cons_succ,List.setIfInBounds_toArray,List.set_cons_zero,List.set_cons_succ])
            refine wpAnyH_take (i:=4) (v:=?_) rfl (by kernel_rfl) (by kernel_rfl) (by kernel_rfl) (fun _ _ _ h => h) (Or.inl ⟨by rfl,?_⟩) hS ?_
            rotate_left
            · (intro w' hS';go_simp;try with_reducible rfl)
            (try simp only [Act.put,List.getElem_toArray,List.getElem_cons_zero,List.getElem_cons_succ,List.setIfInBounds_toArray,List.set_cons_zero,List.set_cons_succ])
            refine wpAnyH_take (i:=5) (v:=?_) rfl (by kernel_rfl) (by kernel_rfl) (by kernel_rfl) (fun _ _ _ h => h) (Or.inl ⟨by rfl,?_⟩) hS ?_
            rotate_left
            · (intro w' hS';go_simp;try with_reducible rfl)
            (try simp only [Act.put,List.getElem_toArray,List.getElem_cons_zero,List.getElem_cons_succ,List.setIfInBounds_toArray,List.set_cons_zero,List.set_cons_succ])
            refine wpAnyH_take (i:=6) (v:=?_) rfl (by kernel_rfl) (by kernel_rfl) (by kernel_rfl) (fun _ _ _ h => h) (Or.inl ⟨by rfl,?_⟩) hS ?_
            rotate_left
            · (intro w' hS';go_simp;try with_reducible rfl)
            (try simp only [Act.put,List.getElem_toArray,List.getElem_cons_zero,List.getElem_cons_succ,List.setIfInBounds_toArray,List.set_cons_zero,List.set_cons_succ])
            refine wpAnyH_take (i:=7) (v:=_) rfl (by kernel_rfl) (by kernel_rfl) (by kernel_rfl) (fun _ _ _ h => h) (yieldsIf_load_mid (by rfl) _ _ rfl (G) (i' * 21) rfl ((ptL y)) _ (fun _ hS' => hS'.2) Try.underlying71 rfl (by rw [hLl.out];exact size_pt)) hS ?_
            (try simp only [Act.put,List.getElem_toArray,List.getElem_cons_zero,List.getElem_cons_succ,List.setIfInBounds_toArray,List.set_cons_zero,List.set_cons_succ])
            refine wpAnyH_ready (rs:=[8]) (by kernel_rfl) (by simp) ?_
            refine AllReadyH.cons rfl (fun K hK => ?_) AllReadyH.nil
            go_simp
            refine hC.out.mono ?_
            rintro e w6 ⟨⟨vb,lb,rfl,hRb,hPb⟩,hb6'⟩
            go_simp
            refine hK.out _ _ (hS.below hGd.out hb6') (fun _ => ?_)
            clear hK K
            replace hS:=hS.below hGd.out hb6'
            (try simp only [Act.put,List.getElem_toArray,List.getElem_cons_zero,List.getElem_cons_succ,List.setIfInBounds_toArray,List.set_cons_zero,List.set_cons_succ])
            refine wpAnyH_take (i:=9) (v:=?_) rfl (by kernel_rfl) (by kernel_rfl) (by kernel_rfl) (fun _ _ _ h => h) (Or.inl ⟨by rfl,?_⟩) hS ?_
            rotate_left
            · (intro w' hS';go_simp;try with_reducible rfl)
            (try simp only [Act.put,List.getElem_toArray,List.getElem_cons_zero,List.getElem_cons_succ,List.setIfInBounds_toArray,List.set_cons_zero,List.set_cons_succ])
            refine wpAnyH_done (by kernel_rfl) ?_ _
            have hb6:=lhi (show Below wr.heap.size wr w6 from (below_drewN (Below.refl wr.heap.size wr) 1).trans hb6')
            have hB7:=lhi (hBi.out.trans (hb6.out.mono hBi.out.size))
            replace hPb:=lhi (hPb.mono (b':=w.heap.size) hBid.out.size)
            have hPo6:=lhi (hPoB.out.keep hb6.out)
            have hPx6:=lhi (hPxB.out.keep hb6.out)
            have hyc6:=lhi ((hb6.out.cell (p:=⟨G,i' * 21,none⟩) (show G < wr.heap.size from hG)).trans hyc.out)
            have hG6:=lhi (show G < w6.heap.size from nll (show G < wr.heap.size from hG) hb6.out.size)
            have hnb4:=hLm.out lb hRb
            replace hRb:=lhi hRb
            obtain ⟨Ab,cb',rfl,_⟩:=hPb.out.prow
            generalize hnb : lb.length = nb at *
            replace hnb:=lhi hnb
            clear hb6' hSd hC hS
            obtain ⟨Wi,hRn⟩ : ∃ z,z = wr:=⟨_,rfl⟩;subst hRn
            go_wp2
            go_loopw [9,13,16] (fun vo vx vj wr => ∃ (o x : Value) (j : Nat) (oj xj : List Pt),o = vo ∧ x = vx ∧ j ≤ nb ∧ vj = .int .i64 (j : Int) ∧ Pts wr w.heap.size o oj ∧ Pts wr w.heap.size x xj ∧ oj.Nodup ∧ xj.Nodup ∧ (∀ q,q ∈ oj ↔ q ∈ outi ∨ ((k : Int) < lo ∧ q ∈ lb.take j ∧ q.i = y.i)) ∧ (∀ q,q ∈ xj ↔ q ∈ nxt ∨ (q ∈ lb.take j ∧ q.i ≠ y.i)) ∧ Below w6.heap.size w6 wr) (fun _ _ vj _ => nb - (intOf vj).toNat)
            case atStart => exact ⟨_,_,0,outi,nxt,rfl,rfl,Nat.zero_le _,rfl,hPo6.out,hPx6.out,hnoB.out,hnxB.out,fun q => by simp,fun q => by simp,Below.refl _ _⟩
            case round =>
             obtain ⟨o,x,j,oj,xj,rfl,rfl,hj',rfl,hPo,hPx,hno,hnx,hmo,hmx,hbc⟩:=hrel
             have hPoC:=lhi hPo
             have hPxC:=lhi hPx
             have hnoC:=lhi hno
             have hnxC:=lhi hnx
             have hmoC:=lhi hmo
             have hmxC:=lhi hmx
             have hbcC:=lhi hbc
             clear hPo hPx hno hnx hmo hmx hbc
             by_cases hltj : j < nb
             · have hjx : j < lb.length:=by rw [hnb.out];exact hltj
               obtain ⟨G2,c2',e2',_,hG2,hrg2⟩:=(hPb.out.keep hbcC.out).range hjx
               rw [hnb.out] at e2'
               obtain ⟨rfl,rfl⟩ : Ab = some ⟨G2,0,none⟩ ∧ cb' = c2':=by injection e2' with e1 _ e2;exact ⟨e1,e2⟩
               have hBc:=lhi (hB7.out.trans (hbcC.out.mono hB7.out.size))
               have hBcd:=lhi (show Below w.heap.size w wr.drew from below_drewN hBc.out 1)
               have hqR : Rel ns t (.node (ka : Int)) y (lb[j]'hjx):=(hRb.out.2 _).1 (List.getElem_mem hjx)
               have hoR : ∀ q ∈ oj,Rel ns t (.node (m : Int)) p q:=fun q hq => by
                rcases (hmoC.out q).1 hq with h1 | ⟨h1,h2,h3⟩
                · exact hoI.out q h1
                · exact hyE.out q ((hRb.out.2 _).1 (List.mem_of_mem_take h2)) h3 h1
               have hxR : ∀ q ∈ xj,It ns t (m : Int) p (k + 1) q:=fun q hq => by
                rcases (hmxC.out q).1 hq with h1 | ⟨h2,h3⟩
                · exact hxI.out q h1
                · exact hyN.out q ((hRb.out.2 _).1 (List.mem_of_mem_take h2)) h3
               have htj : lb.take (j + 1) = lb.take j ++ [lb[j]'hjx]:=by rw [List.take_add_one,List.getElem?_eq_getElem hjx];rfl
               replace htj:=lhi htj
               have hLj:=lhi (ptL_len (lb[j]'hjx))
               have hrgd:=lhi (show wr.drew.rangeAt G2 (j * 21) (ptL (lb[j]'hjx)) from hrg2)
               have hSd:=lhi (show (fun w' : World => w'.cell? ⟨G2,j * 21,none⟩ = some (.int .i64 ((lb[j]'hjx).i : Int)) ∧ w'.cell? ⟨G,i' * 21,none⟩ = some (.int .i64 (y.i : Int))) wr.drew from ⟨hrg2 0 _ rfl,(hbcC.out.cell (p:=⟨G,i' * 21,none⟩) hG6.out).trans hyc6.out⟩)
               have hjI : (j : Int) < (nb : Int):=by omega
               have hw2j : IntKind.i64.wrap ((j : Int) + 1) = (j : Int) + 1:=IntWalk.i64_in _ (by omega)
               have hCo:=lhi (fun (hz : (lb[j]'hjx).i = y.i) (hk : (k : Int) < lo) => show Calls Try.prog 39 #[o,.agg (ptL (lb[j]'hjx)).toArray] wr.drew fun e w' => (∃ v' l',e = .returned v' ∧ PutP oj (lb[j]'hjx) l' ∧ Pts w' w.heap.size v' l') ∧ Below wr.drew.heap.size wr.drew w' from
                rwith_any w.heap.size o oj (lb[j]'hjx) wr.drew hBcd.out.size (show Pts wr.drew w.heap.size o oj from hPoC.out) (hnr.out _ (hyE.out _ hqR hz hk)) (fun q hq => hnr.out q (hoR q hq)) (hlen.out oj hnoC.out hoR))
               have hCx:=lhi (fun (hz : (lb[j]'hjx).i ≠ y.i) => show Calls Try.prog 39 #[x,.agg (ptL (lb[j]'hjx)).toArray] wr.drew fun e w' => (∃ v' l',e = .returned v' ∧ PutP xj (lb[j]'hjx) l' ∧ Pts w' w.heap.size v' l') ∧ Below wr.drew.heap.size wr.drew w' from
                rwith_any w.heap.size x xj (lb[j]'hjx) wr.drew hBcd.out.size (show Pts wr.drew w.heap.size x xj from hPxC.out) (hnI.out (k + 1) _ (hyN.out _ hqR hz)) (fun q hq => hnI.out (k + 1) q (hxR q hq)) (hlenI.out (k + 1) xj hnxC.out hxR))
               have hk3d:=lhi (show wr.drew.cell? ⟨H1,3,none⟩ = some (.int .i64 lo) from ((((hT1.out.below hbrB.out).below hb6.out).below hbcC.out).below (below_drewN (Below.refl _ _) 1)).2.1.at_ N3h.out)
               have hbw:=lhi (show Below w6.heap.size w6 wr.drew from below_drewN hbcC.out 1)
               have hPod:=lhi (show Pts wr.drew w.heap.size o oj from hPoC.out)
               have hPxd:=lhi (show Pts wr.drew w.heap.size x xj from hPxC.out)
               clear hrg2 e2' hqR hoR hxR
               generalize hqq : lb[j]'hjx = qj at *
               replace hqq:=lhi hqq
               by_cases hz : qj.i = y.i
               · have hzd : ((qj.i : Int) != (y.i : Int)) = false:=by rw [hz];simp
                 have hzh:=lhi hz
                 have hmx':=lhi (show ∀ q,q ∈ xj ↔ q ∈ nxt ∨ (q ∈ lb.take (j + 1) ∧ q.i ≠ y.i) from fun q => by
                  rw [hmxC.out,htj.out]
                  simp only [List.mem_append,List.mem_singleton]
                  constructor
                  · rintro (h1 | ⟨h1,h2⟩)
                    · exact .inl h1
                    · exact .inr ⟨.inl h1,h2⟩
                  · rintro (h1 | ⟨h1 | rfl,h2⟩)
                    · exact .inl h1
                    · exact .inr ⟨h1,h2⟩
                    · exact absurd hz h2)
                 clear hz
                 go_wp2
                 refine wp_region_held_drew (S:=fun w' : World => w'.cell? ⟨G2,j * 21,none⟩ = some (.int .i64 (qj.i : Int)) ∧ w'.cell? ⟨G,i' * 21,none⟩ = some (.int .i64 (y.i : Int))) (by kernel_rfl) hSd.out (fun hS => ?_)
                 refine wpAnyH_take (i:=0) (v:=?_) rfl (by kernel_rfl) (by kernel_rfl) (by kernel_rfl) (fun _ _ _ h => h) (Or.inl ⟨by rfl,?_⟩) hS ?_
                 rotate_left
                 · (intro w' hS';go_simp;try with_reducible rfl)
                 (try simp only [Act.put,List.getElem_toArray,List.getElem_cons_zero,List.getElem_cons_succ,List.setIfInBounds_toArray,List.set_cons_zero,List.set_cons_succ])
                 refine wpAnyH_take (i:=1) (v:=?_) rfl (by kernel_rfl) (by kernel_rfl) (by kernel_rfl) (fun _ _ _ h => h) (Or.inl ⟨by rfl,?_⟩) hS ?_
                 rotate_left
                 · (intro w' hS';go_simp;try with_reducible rfl)
                 (try simp only [Act.put,List.getElem_toArray,List.getElem_cons_zero,List.getElem_cons_succ,List.setIfInBounds_toArray,List.set_cons_zero,List.set_cons_succ])
                 refine wpAnyH_take (i:=2) (v:=?_) rfl (by kernel_rfl) (by kernel_rfl) (by kernel_rfl) (fun _ _ _ h => h) (Or.inl ⟨by rfl,?_⟩) hS ?_
                 rotate_left
                 · (intro w' hS';go_simp;try with_reducible rfl)
                 (try simp only [Act.put,List.getElem_toArray,List.getElem_cons_zero,List.getElem_cons_succ,List.setIfInBounds_toArray,List.set_cons_zero,List.set_cons_succ])
                 refine wpAnyH_take (i:=3) (v:=?_) rfl (by kernel_rfl) (by kernel_rfl) (by kernel_rfl) (fun _ _ _ h => h) (Or.inl ⟨by rfl,?_⟩) hS ?_
                 rotate_left
                 · (intro w' hS';go_simp;try with_reducible rfl)
                 (try simp only [Act.put,List.getElem_toArray,List.getElem_cons_zero,List.getElem_cons_succ,List.setIfInBounds_toArray,List.set_cons_zero,List.set_cons_succ])
                 refine wpAnyH_take (i:=4) (v:=?_) rfl (by kernel_rfl) (by kernel_rfl) (by kernel_rfl) (fun _ _ _ h => h) (Or.inl ⟨by rfl,?_⟩) hS ?_
                 rotate_left
                 · (intro w' hS';have ha:=hS'.1;go_simp;try with_reducible rfl)
                 (try simp only [Act.put,List.getElem_toArray,List.getElem_cons_zero,List.getElem_cons_succ,List.setIfInBounds_toArray,List.set_cons_zero,List.set_cons_succ])
                 refine wpAnyH_take (i:=5) (v:=?_) rfl (by kernel_rfl) (by kernel_rfl) (by kernel_rfl) (fun _ _ _ h => h) (Or.inl ⟨by rfl,?_⟩) hS ?_
                 rotate_left
                 · (intro w' hS';go_simp;try with_reducible rfl)
                 (try simp only [Act.put,List.getElem_toArray,List.getElem_cons_zero,List.getElem_cons_succ,List.setIfInBounds_toArray,List.set_cons_zero,List.set_cons_succ])
                 refine wpAnyH_take (i:=6) (v:=?_) rfl (by kernel_rfl) (by kernel_rfl) (by kernel_rfl) (fun _ _ _ h => h) (Or.inl ⟨by rfl,?_⟩) hS ?_
                 rotate_left
                 · (intro w' hS';go_simp;try with_reducible rfl)
                 (try simp only [Act.put,List.getElem_toArray,List.getElem_cons_zero,List.getElem_cons_succ,List.setIfInBounds_toArray,List.set_cons_zero,List.set_cons_succ])
                 refine wpAnyH_take (i:=7) (v:=?_) rfl (by kernel_rfl) (by kernel_rfl) (by kernel_rfl) (fun _ _ _ h => h) (Or.inl ⟨by rfl,?_⟩) hS ?_
                 rotate_left
                 · (intro w' hS';go_simp;try with_reducible rfl)
                 (try simp only [Act.put,List.getElem_toArray,List.getElem_cons_zero,List.getElem_cons_succ,List.setIfInBounds_toArray,List.set_cons_zero,List.set_cons_succ])
                 refine wpAnyH_take (i:=8) (v:=?_) rfl (by kernel_rfl) (by kernel_rfl) (by kernel_rfl) (fun _ _ _ h => h) (Or.inl ⟨by rfl,?_⟩) hS ?_
                 rotate_left
                 · (intro w' hS';go_simp;try with_reducible rfl)
                 (try simp only [Act.put,List.getElem_toArray,List.getElem_cons_zero,List.getElem_cons_succ,List.setIfInBounds_toArray,List.set_cons_zero,List.set_cons_succ])
                 refine wpAnyH_take (i:=9) (v:=?_) rfl (by kernel_rfl) (by kernel_rfl) (by kernel_rfl) (fun _ _ _ h => h) (Or.inl ⟨by rfl,?_⟩) hS ?_
                 rotate_left
                 · (intro w' hS';have hb:=hS'.2;go_simp;try with_reducible rfl)
                 (try simp only [Act.put,List.getElem_toArray,List.getElem_cons_zero,List.getElem_cons_succ,List.setIfInBounds_toArray,List.set_cons_zero,List.set_cons_succ])
                 refine wpAnyH_take (i:=10) (v:=?_) rfl (by kernel_rfl) (by kernel_rfl) (by kernel_rfl) (fun _ _ _ h => h) (Or.inl ⟨by rfl,?_⟩) hS ?_
                 rotate_left
                 · (intro w' hS';go_simp;try with_reducible rfl)
                 (try simp only [Act.put,List.getElem_toArray,List.getElem_cons_zero,List.getElem_cons_succ,List.setIfInBounds_toArray,List.set_cons_zero,List.set_cons_succ])
                 refine wpAnyH_done (by kernel_rfl) ?_ _
                 generalize wr.drew = wd at *
                 have k3d:=hk3d.out
                 by_cases hkl : (k : Int) < lo
                 · have hkd : decide ((k : Int) < lo) = true:=decide_eq_true hkl
                   have hklh:=lhi hkl
                   clear hkl
                   go_wp2_with (first
                    | (refine wpList_load_mid rfl 71 (.tmp 97) rfl G2 (j * 21) rfl (ptL qj) _ hrgd.out Try.underlying71 rfl (by rw [hLj.out];exact size_pt) ?_)
                    | (go_at_call 39;refine (hCo.out hzh.out hklh.out).mono ?_;rintro e w9 ⟨⟨v',l',rfl,hpu,hP9⟩,hb9⟩))
                   go_roundw
                   case rel => exact ⟨_,_,j + 1,l',xj,rfl,rfl,by omega,rfl,hP9,hPxd.out.keep hb9,hpu.nodup hnoC.out,hnxC.out,fun q => by
                       rw [hpu.mem,hmoC.out,htj.out]
                       simp only [List.mem_append,List.mem_singleton]
                       constructor
                       · rintro ((h1 | ⟨h0,h1,h2⟩) | rfl)
                         · exact .inl h1
                         · exact .inr ⟨h0,.inl h1,h2⟩
                         · exact .inr ⟨hklh.out,.inr rfl,hzh.out⟩
                       · rintro (h1 | ⟨h0,h1 | rfl,h2⟩)
                         · exact .inl (.inl h1)
                         · exact .inl (.inr ⟨h0,h1,h2⟩)
                         · exact .inr rfl,hmx'.out,hbw.out.trans (hb9.mono hbw.out.size)⟩
                   case measure => simp [intOf];omega
                 · have hkd : decide ((k : Int) < lo) = false:=decide_eq_false hkl
                   have hklh:=lhi hkl
                   first
                    | (exfalso;have:=hlkh.out;have:=hklh.out;omega)
                    | (go_wp2
                       go_roundw
                       case rel => exact ⟨_,_,j + 1,oj,xj,rfl,rfl,by omega,rfl,hPod.out,hPxd.out,hnoC.out,hnxC.out,fun q => by
                           rw [hmoC.out]
                           constructor
                           · rintro (h1 | ⟨h0,_⟩)
                             · exact .inl h1
                             · exact absurd h0 hklh.out
                           · rintro (h1 | ⟨h0,_⟩)
                             · exact .inl h1
                             · exact absurd h0 hklh.out,hmx'.out,hbw.out⟩
                       case measure => simp [intOf];omega)
               · have hzd : ((qj.i : Int) != (y.i : Int)) = true:=by rw [bne_iff_ne];omega
                 have hzh:=lhi hz
                 clear hz
                 go_wp2
                 refine wp_region_held_drew (S:=fun w' : World => w'.cell? ⟨G2,j * 21,none⟩ = some (.int .i64 (qj.i : Int)) ∧ w'.cell? ⟨G,i' * 21,none⟩ = some (.int .i64 (y.i : Int))) (by kernel_rfl) hSd.out (fun hS => ?_)
                 refine wpAnyH_take (i:=0) (v:=?_) rfl (by kernel_rfl) (by kernel_rfl) (by kernel_rfl) (fun _ _ _ h => h) (Or.inl ⟨by rfl,?_⟩) hS ?_
                 rotate_left
                 · (intro w' hS';go_simp;try with_reducible rfl)
                 (try simp only [Act.put,List.getElem_toArray,List.getElem_cons_zero,List.getElem_cons_succ,List.setIfInBounds_toArray,List.set_cons_zero,List.set_cons_succ])
                 refine wpAnyH_take (i:=1) (v:=?_) rfl (by kernel_rfl) (by kernel_rfl) (by kernel_rfl) (fun _ _ _ h => h) (Or.inl ⟨by rfl,?_⟩) hS ?_
                 rotate_left
                 · (intro w' hS';go_simp;try with_reducible rfl)
                 (try simp only [Act.put,List.getElem_toArray,List.getElem_cons_zero,List.getElem_cons_succ,List.setIfInBounds_toArray,List.set_cons_zero,List.set_cons_succ])
                 refine wpAnyH_take (i:=2) (v:=?_) rfl (by kernel_rfl) (by kernel_rfl) (by kernel_rfl) (fun _ _ _ h => h) (Or.inl ⟨by rfl,?_⟩) hS ?_
                 rotate_left
                 · (intro w' hS';go_simp;try with_reducible rfl)
                 (try simp only [Act.put,List.getElem_toArray,List.getElem_cons_zero,List.getElem_cons_succ,List.setIfInBounds_toArray,List.set_cons_zero,List.set_cons_succ])
                 refine wpAnyH_take (i:=3) (v:=?_) rfl (by kernel_rfl) (by kernel_rfl) (by kernel_rfl) (fun _ _ _ h => h) (Or.inl ⟨by rfl,?_⟩) hS ?_
                 rotate_left
                 · (intro w' hS';go_simp;try with_reducible rfl)
                 (try simp only [Act.put,List.getElem_toArray,List.getElem_cons_zero,List.getElem_cons_succ,List.setIfInBounds_toArray,List.set_cons_zero,List.set_cons_succ])
                 refine wpAnyH_take (i:=4) (v:=?_) rfl (by kernel_rfl) (by kernel_rfl) (by kernel_rfl) (fun _ _ _ h => h) (Or.inl ⟨by rfl,?_⟩) hS ?_
                 rotate_left
                 · (intro w' hS';have ha:=hS'.1;go_simp;try with_reducible rfl)
                 (try simp only [Act.put,List.getElem_toArray,List.getElem_cons_zero,List.getElem_cons_succ,List.setIfInBounds_toArray,List.set_cons_zero,List.set_cons_succ])
                 refine wpAnyH_take (i:=5) (v:=?_) rfl (by kernel_rfl) (by kernel_rfl) (by kernel_rfl) (fun _ _ _ h => h) (Or.inl ⟨by rfl,?_⟩) hS ?_
                 rotate_left
                 · (intro w' hS';go_simp;try with_reducible rfl)
                 (try simp only [Act.put,List.getElem_toArray,List.getElem_cons_zero,List.getElem_cons_succ,List.setIfInBounds_toArray,List.set_cons_zero,List.set_cons_succ])
                 refine wpAnyH_take (i:=6) (v:=?_) rfl (by kernel_rfl) (by kernel_rfl) (by kernel_rfl) (fun _ _ _ h => h) (Or.inl ⟨by rfl,?_⟩) hS ?_
                 rotate_left
                 · (intro w' hS';go_simp;try with_reducible rfl)
                 (try simp only [Act.put,List.getElem_toArray,List.getElem_cons_zero,List.getElem_cons_succ,List.setIfInBounds_toArray,List.set_cons_zero,List.set_cons_succ])
                 refine wpAnyH_take (i:=7) (v:=?_) rfl (by kernel_rfl) (by kernel_rfl) (by kernel_rfl) (fun _ _ _ h => h) (Or.inl ⟨by rfl,?_⟩) hS ?_
                 rotate_left
                 · (intro w' hS';go_simp;try with_reducible rfl)
                 (try simp only [Act.put,List.getElem_toArray,List.getElem_cons_zero,List.getElem_cons_succ,List.setIfInBounds_toArray,List.set_cons_zero,List.set_cons_succ])
                 refine wpAnyH_take (i:=8) (v:=?_) rfl (by kernel_rfl) (by kernel_rfl) (by kernel_rfl) (fun _ _ _ h => h) (Or.inl ⟨by rfl,?_⟩) hS ?_
                 rotate_left
                 · (intro w' hS';go_simp;try with_reducible rfl)
                 (try simp only [Act.put,List.getElem_toArray,List.getElem_cons_zero,List.getElem_cons_succ,List.setIfInBounds_toArray,List.set_cons_zero,List.set_cons_succ])
                 refine wpAnyH_take (i:=9) (v:=?_) rfl (by kernel_rfl) (by kernel_rfl) (by kernel_rfl) (fun _ _ _ h => h) (Or.inl ⟨by rfl,?_⟩) hS ?_
                 rotate_left
                 · (intro w' hS';have hb:=hS'.2;go_simp;try with_reducible rfl)
                 (try simp only [Act.put,List.getElem_toArray,List.getElem_cons_zero,List.getElem_cons_succ,List.setIfInBounds_toArray,List.set_cons_zero,List.set_cons_succ])
                 refine wpAnyH_take (i:=10) (v:=?_) rfl (by kernel_rfl) (by kernel_rfl) (by kernel_rfl) (fun _ _ _ h => h) (Or.inl ⟨by rfl,?_⟩) hS ?_
                 rotate_left
                 · (intro w' hS';go_simp;try with_reducible rfl)
                 (try simp only [Act.put,List.getElem_toArray,List.getElem_cons_zero,List.getElem_cons_succ,List.setIfInBounds_toArray,List.set_cons_zero,List.set_cons_succ])
                 refine wpAnyH_done (by kernel_rfl) ?_ _
                 generalize wr.drew = wd at *
                 go_wp2_with (first
                  | (refine wpList_load_mid rfl 71 (.tmp 87) rfl G2 (j * 21) rfl (ptL qj) _ hrgd.out Try.underlying71 rfl (by rw [hLj.out];exact size_pt) ?_)
                  | (go_at_call 39;refine (hCx.out hzh.out).mono ?_;rintro e w9 ⟨⟨v',l',rfl,hpu,hP9⟩,hb9⟩))
                 go_roundw
                 case rel => exact ⟨_,_,j + 1,oj,l',rfl,rfl,by omega,rfl,hPod.out.keep hb9,hP9,hnoC.out,hpu.nodup hnxC.out,fun q => by
                       rw [hmoC.out,htj.out]
                       simp only [List.mem_append,List.mem_singleton]
                       constructor
                       · rintro (h1 | ⟨h0,h1,h2⟩)
                         · exact .inl h1
                         · exact .inr ⟨h0,.inl h1,h2⟩
                       · rintro (h1 | ⟨h0,h1 | rfl,h2⟩)
                         · exact .inl h1
                         · exact .inr ⟨h0,h1,h2⟩
                         · exact absurd h2 hzh.out,fun q => by
                       rw [hpu.mem,hmxC.out,htj.out]
                       simp only [List.mem_append,List.mem_singleton]
                       constructor
                       · rintro ((h1 | ⟨h1,h2⟩) | rfl)
                         · exact .inl h1
                         · exact .inr ⟨.inl h1,h2⟩
                         · exact .inr ⟨.inr rfl,hzh.out⟩
                       · rintro (h1 | ⟨h1 | rfl,h2⟩)
                         · exact .inl (.inl h1)
                         · exact .inl (.inr ⟨h1,h2⟩)
                         · exact .inr rfl,hbw.out.trans (hb9.mono hbw.out.size)⟩
                 case measure => simp [intOf];omega
             · obtain rfl : j = nb:=by omega
               go_wp2
               go_roundw
               case rel => exact ⟨_,_,i' + 1,oj,xj,rfl,rfl,by omega,rfl,hPoC.out,hPxC.out,hnoC.out,hnxC.out,fun q => by
                   rw [hmoC.out,hmoB.out,htk.out,← hnb.out,List.take_length,hRb.out.2]
                   simp only [List.mem_append,List.mem_singleton]
                   constructor
                   · rintro ((h1 | ⟨h0,z,h1,h2⟩) | ⟨h0,h1,h2⟩)
                     · exact .inl h1
                     · exact .inr ⟨h0,z,.inl h1,h2⟩
                     · exact .inr ⟨h0,y,.inr rfl,h1,h2⟩
                   · rintro (h1 | ⟨h0,z,h1 | rfl,h2⟩)
                     · exact .inl (.inl h1)
                     · exact .inl (.inr ⟨h0,z,h1,h2⟩)
                     · exact .inr ⟨h0,h2⟩,fun q => by
                   rw [hmxC.out,hmxB.out,htk.out,← hnb.out,List.take_length,hRb.out.2]
                   simp only [List.mem_append,List.mem_singleton]
                   constructor
                   · rintro (⟨z,h1,h2⟩ | h1)
                     · exact ⟨z,.inl h1,h2⟩
                     · exact ⟨y,.inr rfl,h1⟩
                   · rintro ⟨z,h1 | rfl,h2⟩
                     · exact .inl ⟨z,h1,h2⟩
                     · exact .inr h2,(hbrB.out.trans (hb6.out.mono hbrB.out.size)).trans (hbcC.out.mono (Nat.le_trans hbrB.out.size hb6.out.size))⟩
               case measure => simp [intOf];omega
          · obtain rfl : i' = n:=by omega
            have hTn:=lhi (hTnx.out k now out outi nxt hTim.out hkh.out hnxB.out hnoB.out (fun q => by rw [hmxB.out,← hnn.out,List.take_length]) (fun q => by
             have e1:=hmoB.out q
             rw [← hnn.out,List.take_length] at e1
             exact e1.trans (or_congr (hm1.out q) Iff.rfl)))
            have hT9:=lhi (hT1.out.below hbrB.out)
            have hB9:=lhi (hB1.out.trans (hbrB.out.mono hB1.out.size))
            go_wp2
            go_roundw
            case rel => exact ⟨_,_,k + 1,outi,nxt,rfl,rfl,rfl,hPoB.out,hPxB.out,hTn.out,hT9.out,hB9.out,by have:=hkt.out;omega⟩
            case measure => have:=hkt.out;simp [intOf];omega
       · have d3 : decide (0 ≤ hi) = true:=decide_eq_true d1
         have d4 : decide (hi ≤ (k : Int)) = false:=decide_eq_false (by omega)
         have d5 : ¬ hi ≤ (k : Int):=by omega
         go_wp2
         go_loopw [9,13,14] (fun vo vx vi wr => ∃ (o x : Value) (i' : Nat) (outi nxt : List Pt),o = vo ∧ x = vx ∧ i' ≤ n ∧ vi = .int .i64 (i' : Int) ∧ Pts wr w.heap.size o outi ∧ Pts wr w.heap.size x nxt ∧ outi.Nodup ∧ nxt.Nodup ∧ (∀ q,q ∈ outi ↔ q ∈ out ∨ ((k : Int) < lo ∧ ∃ y ∈ now.take i',Rel ns t (.node (ka : Int)) y q ∧ q.i = y.i)) ∧ (∀ q,q ∈ nxt ↔ ∃ y ∈ now.take i',Rel ns t (.node (ka : Int)) y q ∧ q.i ≠ y.i) ∧ Below W1.heap.size W1 wr) (fun _ _ vi _ => n - (intOf vi).toNat)
         case atStart => exact ⟨_,_,0,out,[],rfl,rfl,Nat.zero_le _,rfl,hP1.out,Pts.nil _ _,hn1o.out,List.nodup_nil,fun q => by simp,fun q => by simp,Below.refl _ _⟩
         case round =>
          obtain ⟨o,x,i',outi,nxt,rfl,rfl,hi',rfl,hPo,hPx,hno,hnx,hmo,hmx,hbr⟩:=hrel
          have hPoB:=lhi hPo
          have hPxB:=lhi hPx
          have hnoB:=lhi hno
          have hnxB:=lhi hnx
          have hmoB:=lhi hmo
          have hmxB:=lhi hmx
          have hbrB:=lhi hbr
          clear hPo hPx hno hnx hmo hmx hbr
          have hoI:=lhi (fun q (hq : q ∈ outi) => show Rel ns t (.node (m : Int)) p q from by
           rcases (hmoB.out q).1 hq with h1 | ⟨h0,z,h1,h2,h3⟩
           · exact ho1.out q h1
           · exact hE2.out k z q ((hTim.out.nm z).1 (List.mem_of_mem_take h1)) hkh.out h2 h3 h0)
          have hxI:=lhi (fun q (hq : q ∈ nxt) => show It ns t (m : Int) p (k + 1) q from by
           obtain ⟨z,h1,h2,h3⟩:=(hmxB.out q).1 hq
           exact hE3.out k z q ((hTim.out.nm z).1 (List.mem_of_mem_take h1)) hkh.out h2 h3)
          by_cases hlti : i' < n
          · have hix : i' < now.length:=by rw [hnn.out];exact hlti
            obtain ⟨G,c1',e1',_,hG,hrg⟩:=(hPu.out.keep hbrB.out).range hix
            rw [hnn.out] at e1'
            obtain ⟨rfl,rfl⟩ : Au = some ⟨G,0,none⟩ ∧ cu = c1':=by injection e1' with e1 _ e2;exact ⟨e1,e2⟩
            have hBi:=lhi (hB1.out.trans (hbrB.out.mono hB1.out.size))
            have hBid:=lhi (show Below w.heap.size w wr.drew from below_drewN hBi.out 1)
            have hyI:=hTim.out.nm _ |>.1 (List.getElem_mem hix)
            have hC:=lhi (hCa.out wr.drew hBid.out k _ hyI hkh.out)
            have hLm:=lhi (hlm.out k _ hyI hkh.out)
            have hyE:=lhi (fun q (h1 : Rel ns t (.node (ka : Int)) (now[i']'hix) q) (h2 : q.i = (now[i']'hix).i) (h3 : (k : Int) < lo) => hE2.out k _ q hyI hkh.out h1 h2 h3)
            have hyN:=lhi (fun q (h1 : Rel ns t (.node (ka : Int)) (now[i']'hix) q) (h2 : q.i ≠ (now[i']'hix).i) => hE3.out k _ q hyI hkh.out h1 h2)
            have hSd:=lhi (show ST2 w.heap.size H1 H2 #[.slice (some ad) nn cn,.int .i64 g] CN CP G (i' * 21) (ptL (now[i']'hix)) wr.drew from ⟨(hT1.out.below hbrB.out).below (below_drewN (Below.refl _ _) 1),hrg⟩)
            have htk : now.take (i' + 1) = now.take i' ++ [now[i']'hix]:=by rw [List.take_add_one,List.getElem?_eq_getElem hix];rfl
            replace htk:=lhi htk
            have hLl:=lhi (ptL_len (now[i']'hix))
            have hGd:=lhi (show G < wr.drew.heap.size from hG)
            have hyc:=lhi (show wr.cell? ⟨G,i' * 21,none⟩ = some (.int .i64 ((now[i']'hix).i : Int)) from hrg 0 _ rfl)
            have hiI : (i' : Int) < (n : Int):=by omega
            have hw2i : IntKind.i64.wrap ((i' : Int) + 1) = (i' : Int) + 1:=IntWalk.i64_in _ (by omega)
            clear hrg e1' hyI
            generalize hyq : now[i']'hix = y at *
            replace hyq:=lhi hyq
            go_wp2
            refine wp_region_held_drew (S:=ST2 w.heap.size H1 H2 #[.slice (some ad) nn cn,.int .i64 g] CN CP G (i' * 21) (ptL y)) (by kernel_rfl) hSd.out (fun hS => ?_)
            refine wpAnyH_take (i:=0) (v:=?_) rfl (by kernel_rfl) (by kernel_rfl) (by kernel_rfl) (fun _ _ _ h => h) (Or.inl ⟨by rfl,?_⟩) hS ?_
            rotate_left
            · (intro w' hS';have ha : w'.cell? ⟨w.heap.size,0,none⟩ = some (.slice (some ad) nn cn):=hS'.1.1.at_ rfl;have hb : w'.cell? ⟨w.heap.size,1,none⟩ = some (.int .i64 g):=hS'.1.1.at_ rfl;go_simp;try with_reducible rfl)
            (try simp only [Act.put,List.getElem_toArray,List.getElem_cons_zero,List.getElem_cons_succ,List.setIfInBounds_toArray,List.set_cons_zero,List.set_cons_succ])
            refine wpAnyH_take (i:=1) (v:=?_) rfl (by kernel_rfl) (by kernel_rfl) (by kernel_rfl) (fun _ _ _ h => h) (Or.inl ⟨by rfl,?_⟩) hS ?_
            rotate_left
            · (intro w' hS';go_simp;try with_reducible rfl)
            (try simp only [Act.put,List.getElem_toArray,List.getElem_cons_zero,List.getElem_cons_succ,List.setIfInBounds_toArray,List.set_cons_zero,List.set_cons_succ])
            refine wpAnyH_take (i:=2) (v:=?_) rfl (by kernel_rfl) (by kernel_rfl) (by kernel_rfl) (fun _ _ _ h => h) (Or.inl ⟨by rfl,?_⟩) hS ?_
            rotate_left
            · (intro w' hS';go_simp;try with_reducible rfl)
            (try simp only [Act.put,List.getElem_toArray,List.getElem_cons_zero,List.getElem_cons_succ,List.setIfInBounds_toArray,List.set_cons_zero,List.set_cons_succ])
            refine wpAnyH_take (i:=3) (v:=?_) rfl (by kernel_rfl) (by kernel_rfl) (by kernel_rfl) (fun _ _ _ h => h) (Or.inl ⟨by rfl,?_⟩) hS ?_
            rotate_left
            · (intro w' hS';have ha : w'.cell? ⟨H1,1,none⟩ = some (.int .i64 (ka : Int)):=hS'.1.2.1.at_ N1h.out;go_simp;try with_reducible rfl)
            (try simp only [Act.put,List.getElem_toArray,List.getElem_cons_zero,List.getElem_cons_succ,List.setIfInBounds_toArray,List.set_cons_zero,List.set_cons_succ])
            refine wpAnyH_take (i:=4) (v:=?_) rfl (by kernel_rfl) (by kernel_rfl) (by kernel_rfl) (fun _ _ _ h => h) (Or.inl ⟨by rfl,?_⟩) hS ?_
            rotate_left
            · (intro w' hS';go_simp;try with_reducible rfl)
            (try simp only [Act.put,List.getElem_toArray,List.getElem_cons_zero,List.getElem_cons_succ,List.setIfInBounds_toArray,List.set_cons_zero,List.set_cons_succ])
            refine wpAnyH_take (i:=5) (v:=?_) rfl (by kernel_rfl) (by kernel_rfl) (by kernel_rfl) (fun _ _ _ h => h) (Or.inl ⟨by rfl,?_⟩) hS ?_
            rotate_left
            · (intro w' hS';go_simp;try with_reducible rfl)
            (try simp only [Act.put,List.getElem_toArray,List.getElem_cons_zero,List.getElem_cons_succ,List.setIfInBounds_toArray,List.set_cons_zero,List.set_cons_succ])
            refine wpAnyH_take (i:=6) (v:=?_) rfl (by kernel_rfl) (by kernel_rfl) (by kernel_rfl) (fun _ _ _ h => h) (Or.inl ⟨by rfl,?_⟩) hS ?_
            rotate_left
            · (intro w' hS';go_simp;try with_reducible rfl)
            (try simp only [Act.put,List.getElem_toArray,List.getElem_cons_zero,List.getElem_cons_succ,List.setIfInBounds_toArray,List.set_cons_zero,List.set_cons_succ])
            refine wpAnyH_take (i:=7) (v:=_) rfl (by kernel_rfl) (by kernel_rfl) (by kernel_rfl) (fun _ _ _ h => h) (yieldsIf_load_mid (by rfl) _ _ rfl (G) (i' * 21) rfl ((ptL y)) _ (fun _ hS' => hS'.2) Try.underlying71 rfl (by rw [hLl.out];exact size_pt)) hS ?_
            (try simp only [Act.put,List.getElem_toArray,List.getElem_cons_zero,List.getElem_cons_succ,List.setIfInBounds_toArray,List.set_cons_zero,List.set_cons_succ])
            refine wpAnyH_ready (rs:=[8]) (by kernel_rfl) (by simp) ?_
            refine AllReadyH.cons rfl (fun K hK => ?_) AllReadyH.nil
            go_simp
            refine hC.out.mono ?_
            rintro e w6 ⟨⟨vb,lb,rfl,hRb,hPb⟩,hb6'⟩
            go_simp
            refine hK.out _ _ (hS.below hGd.out hb6') (fun _ => ?_)
            clear hK K
            replace hS:=hS.below hGd.out hb6'
            (try simp only [Act.put,List.getElem_toArray,List.getElem_cons_zero,List.getElem_cons_succ,List.setIfInBounds_toArray,List.set_cons_zero,List.set_cons_succ])
            refine wpAnyH_take (i:=9) (v:=?_) rfl (by kernel_rfl) (by kernel_rfl) (by kernel_rfl) (fun _ _ _ h => h) (Or.inl ⟨by rfl,?_⟩) hS ?_
            rotate_left
            · (intro w' hS';go_simp;try with_reducible rfl)
            (try simp only [Act.put,List.getElem_toArray,List.getElem_cons_zero,List.getElem_cons_succ,List.setIfInBounds_toArray,List.set_cons_zero,List.set_cons_succ])
            refine wpAnyH_done (by kernel_rfl) ?_ _
            have hb6:=lhi (show Below wr.heap.size wr w6 from (below_drewN (Below.refl wr.heap.size wr) 1).trans hb6')
            have hB7:=lhi (hBi.out.trans (hb6.out.mono hBi.out.size))
            replace hPb:=lhi (hPb.mono (b':=w.heap.size) hBid.out.size)
            have hPo6:=lhi (hPoB.out.keep hb6.out)
            have hPx6:=lhi (hPxB.out.keep hb6.out)
            have hyc6:=lhi ((hb6.out.cell (p:=⟨G,i' * 21,none⟩) (show G < wr.heap.size from hG)).trans hyc.out)
            have hG6:=lhi (show G < w6.heap.size from nll (show G < wr.heap.size from hG) hb6.out.size)
            have hnb4:=hLm.out lb hRb
            replace hRb:=lhi hRb
            obtain ⟨Ab,cb',rfl,_⟩:=hPb.out.prow
            generalize hnb : lb.length = nb at *
            replace hnb:=lhi hnb
            clear hb6' hSd hC hS
            obtain ⟨Wi,hRn⟩ : ∃ z,z = wr:=⟨_,rfl⟩;subst hRn
            go_wp2
            go_loopw [9,13,16] (fun vo vx vj wr => ∃ (o x : Value) (j : Nat) (oj xj : List Pt),o = vo ∧ x = vx ∧ j ≤ nb ∧ vj = .int .i64 (j : Int) ∧ Pts wr w.heap.size o oj ∧ Pts wr w.heap.size x xj ∧ oj.Nodup ∧ xj.Nodup ∧ (∀ q,q ∈ oj ↔ q ∈ outi ∨ ((k : Int) < lo ∧ q ∈ lb.take j ∧ q.i = y.i)) ∧ (∀ q,q ∈ xj ↔ q ∈ nxt ∨ (q ∈ lb.take j ∧ q.i ≠ y.i)) ∧ Below w6.heap.size w6 wr) (fun _ _ vj _ => nb - (intOf vj).toNat)
            case atStart => exact ⟨_,_,0,outi,nxt,rfl,rfl,Nat.zero_le _,rfl,hPo6.out,hPx6.out,hnoB.out,hnxB.out,fun q => by simp,fun q => by simp,Below.refl _ _⟩
            case round =>
             obtain ⟨o,x,j,oj,xj,rfl,rfl,hj',rfl,hPo,hPx,hno,hnx,hmo,hmx,hbc⟩:=hrel
             have hPoC:=lhi hPo
             have hPxC:=lhi hPx
             have hnoC:=lhi hno
             have hnxC:=lhi hnx
             have hmoC:=lhi hmo
             have hmxC:=lhi hmx
             have hbcC:=lhi hbc
             clear hPo hPx hno hnx hmo hmx hbc
             by_cases hltj : j < nb
             · have hjx : j < lb.length:=by rw [hnb.out];exact hltj
               obtain ⟨G2,c2',e2',_,hG2,hrg2⟩:=(hPb.out.keep hbcC.out).range hjx
               rw [hnb.out] at e2'
               obtain ⟨rfl,rfl⟩ : Ab = some ⟨G2,0,none⟩ ∧ cb' = c2':=by injection e2' with e1 _ e2;exact ⟨e1,e2⟩
               have hBc:=lhi (hB7.out.trans (hbcC.out.mono hB7.out.size))
               have hBcd:=lhi (show Below w.heap.size w wr.drew from below_drewN hBc.out 1)
               have hqR : Rel ns t (.node (ka : Int)) y (lb[j]'hjx):=(hRb.out.2 _).1 (List.getElem_mem hjx)
               have hoR : ∀ q ∈ oj,Rel ns t (.node (m : Int)) p q:=fun q hq => by
                rcases (hmoC.out q).1 hq with h1 | ⟨h1,h2,h3⟩
                · exact hoI.out q h1
                · exact hyE.out q ((hRb.out.2 _).1 (List.mem_of_mem_take h2)) h3 h1
               have hxR : ∀ q ∈ xj,It ns t (m : Int) p (k + 1) q:=fun q hq => by
                rcases (hmxC.out q).1 hq with h1 | ⟨h2,h3⟩
                · exact hxI.out q h1
                · exact hyN.out q ((hRb.out.2 _).1 (List.mem_of_mem_take h2)) h3
               have htj : lb.take (j + 1) = lb.take j ++ [lb[j]'hjx]:=by rw [List.take_add_one,List.getElem?_eq_getElem hjx];rfl
               replace htj:=lhi htj
               have hLj:=lhi (ptL_len (lb[j]'hjx))
               have hrgd:=lhi (show wr.drew.rangeAt G2 (j * 21) (ptL (lb[j]'hjx)) from hrg2)
               have hSd:=lhi (show (fun w' : World => w'.cell? ⟨G2,j * 21,none⟩ = some (.int .i64 ((lb[j]'hjx).i : Int)) ∧ w'.cell? ⟨G,i' * 21,none⟩ = some (.int .i64 (y.i : Int))) wr.drew from ⟨hrg2 0 _ rfl,(hbcC.out.cell (p:=⟨G,i' * 21,none⟩) hG6.out).trans hyc6.out⟩)
               have hjI : (j : Int) < (nb : Int):=by omega
               have hw2j : IntKind.i64.wrap ((j : Int) + 1) = (j : Int) + 1:=IntWalk.i64_in _ (by omega)
               have hCo:=lhi (fun (hz : (lb[j]'hjx).i = y.i) (hk : (k : Int) < lo) => show Calls Try.prog 39 #[o,.agg (ptL (lb[j]'hjx)).toArray] wr.drew fun e w' => (∃ v' l',e = .returned v' ∧ PutP oj (lb[j]'hjx) l' ∧ Pts w' w.heap.size v' l') ∧ Below wr.drew.heap.size wr.drew w' from
                rwith_any w.heap.size o oj (lb[j]'hjx) wr.drew hBcd.out.size (show Pts wr.drew w.heap.size o oj from hPoC.out) (hnr.out _ (hyE.out _ hqR hz hk)) (fun q hq => hnr.out q (hoR q hq)) (hlen.out oj hnoC.out hoR))
               have hCx:=lhi (fun (hz : (lb[j]'hjx).i ≠ y.i) => show Calls Try.prog 39 #[x,.agg (ptL (lb[j]'hjx)).toArray] wr.drew fun e w' => (∃ v' l',e = .returned v' ∧ PutP xj (lb[j]'hjx) l' ∧ Pts w' w.heap.size v' l') ∧ Below wr.drew.heap.size wr.drew w' from
                rwith_any w.heap.size x xj (lb[j]'hjx) wr.drew hBcd.out.size (show Pts wr.drew w.heap.size x xj from hPxC.out) (hnI.out (k + 1) _ (hyN.out _ hqR hz)) (fun q hq => hnI.out (k + 1) q (hxR q hq)) (hlenI.out (k + 1) xj hnxC.out hxR))
               have hk3d:=lhi (show wr.drew.cell? ⟨H1,3,none⟩ = some (.int .i64 lo) from ((((hT1.out.below hbrB.out).below hb6.out).below hbcC.out).below (below_drewN (Below.refl _ _) 1)).2.1.at_ N3h.out)
               have hbw:=lhi (show Below w6.heap.size w6 wr.drew from below_drewN hbcC.out 1)
               have hPod:=lhi (show Pts wr.drew w.heap.size o oj from hPoC.out)
               have hPxd:=lhi (show Pts wr.drew w.heap.size x xj from hPxC.out)
               clear hrg2 e2' hqR hoR hxR
               generalize hqq : lb[j]'hjx = qj at *
               replace hqq:=lhi hqq
               by_cases hz : qj.i = y.i
               · have hzd : ((qj.i : Int) != (y.i : Int)) = false:=by rw [hz];simp
                 have hzh:=lhi hz
                 have hmx':=lhi (show ∀ q,q ∈ xj ↔ q ∈ nxt ∨ (q ∈ lb.take (j + 1) ∧ q.i ≠ y.i) from fun q => by
                  rw [hmxC.out,htj.out]
                  simp only [List.mem_append,List.mem_singleton]
                  constructor
                  · rintro (h1 | ⟨h1,h2⟩)
                    · exact .inl h1
                    · exact .inr ⟨.inl h1,h2⟩
                  · rintro (h1 | ⟨h1 | rfl,h2⟩)
                    · exact .inl h1
                    · exact .inr ⟨h1,h2⟩
                    · exact absurd hz h2)
                 clear hz
                 go_wp2
                 refine wp_region_held_drew (S:=fun w' : World => w'.cell? ⟨G2,j * 21,none⟩ = some (.int .i64 (qj.i : Int)) ∧ w'.cell? ⟨G,i' * 21,none⟩ = some (.int .i64 (y.i : Int))) (by kernel_rfl) hSd.out (fun hS => ?_)
                 refine wpAnyH_take (i:=0) (v:=?_) rfl (by kernel_rfl) (by kernel_rfl) (by kernel_rfl) (fun _ _ _ h => h) (Or.inl ⟨by rfl,?_⟩) hS ?_
                 rotate_left
                 · (intro w' hS';go_simp;try with_reducible rfl)
                 (try simp only [Act.put,List.getElem_toArray,List.getElem_cons_zero,List.getElem_cons_succ,List.setIfInBounds_toArray,List.set_cons_zero,List.set_cons_succ])
                 refine wpAnyH_take (i:=1) (v:=?_) rfl (by kernel_rfl) (by kernel_rfl) (by kernel_rfl) (fun _ _ _ h => h) (Or.inl ⟨by rfl,?_⟩) hS ?_
                 rotate_left
                 · (intro w' hS';go_simp;try with_reducible rfl)
                 (try simp only [Act.put,List.getElem_toArray,List.getElem_cons_zero,List.getElem_cons_succ,List.setIfInBounds_toArray,List.set_cons_zero,List.set_cons_succ])
                 refine wpAnyH_take (i:=2) (v:=?_) rfl (by kernel_rfl) (by kernel_rfl) (by kernel_rfl) (fun _ _ _ h => h) (Or.inl ⟨by rfl,?_⟩) hS ?_
                 rotate_left
                 · (intro w' hS';go_simp;try with_reducible rfl)
                 (try simp only [Act.put,List.getElem_toArray,List.getElem_cons_zero,List.getElem_cons_succ,List.setIfInBounds_toArray,List.set_cons_zero,List.set_cons_succ])
                 refine wpAnyH_take (i:=3) (v:=?_) rfl (by kernel_rfl) (by kernel_rfl) (by kernel_rfl) (fun _ _ _ h => h) (Or.inl ⟨by rfl,?_⟩) hS ?_
                 rotate_left
                 · (intro w' hS';go_simp;try with_reducible rfl)
                 (try simp only [Act.put,List.getElem_toArray,List.getElem_cons_zero,List.getElem_cons_succ,List.setIfInBounds_toArray,List.set_cons_zero,List.set_cons_succ])
                 refine wpAnyH_take (i:=4) (v:=?_) rfl (by kernel_rfl) (by kernel_rfl) (by kernel_rfl) (fun _ _ _ h => h) (Or.inl ⟨by rfl,?_⟩) hS ?_
                 rotate_left
                 · (intro w' hS';have ha:=hS'.1;go_simp;try with_reducible rfl)
                 (try simp only [Act.put,List.getElem_toArray,List.getElem_cons_zero,List.getElem_cons_succ,List.setIfInBounds_toArray,List.set_cons_zero,List.set_cons_succ])
                 refine wpAnyH_take (i:=5) (v:=?_) rfl (by kernel_rfl) (by kernel_rfl) (by kernel_rfl) (fun _ _ _ h => h) (Or.inl ⟨by rfl,?_⟩) hS ?_
                 rotate_left
                 · (intro w' hS';go_simp;try with_reducible rfl)
                 (try simp only [Act.put,List.getElem_toArray,List.getElem_cons_zero,List.getElem_cons_succ,List.setIfInBounds_toArray,List.set_cons_zero,List.set_cons_succ])
                 refine wpAnyH_take (i:=6) (v:=?_) rfl (by kernel_rfl) (by kernel_rfl) (by kernel_rfl) (fun _ _ _ h => h) (Or.inl ⟨by rfl,?_⟩) hS ?_
                 rotate_left
                 · (intro w' hS';go_simp;try with_reducible rfl)
                 (try simp only [Act.put,List.getElem_toArray,List.getElem_cons_zero,List.getElem_cons_succ,List.setIfInBounds_toArray,List.set_cons_zero,List.set_cons_succ])
                 refine wpAnyH_take (i:=7) (v:=?_) rfl (by kernel_rfl) (by kernel_rfl) (by kernel_rfl) (fun _ _ _ h => h) (Or.inl ⟨by rfl,?_⟩) hS ?_
                 rotate_left
                 · (intro w' hS';go_simp;try with_reducible rfl)
                 (try simp only [Act.put,List.getElem_toArray,List.getElem_cons_zero,List.getElem_cons_succ,List.setIfInBounds_toArray,List.set_cons_zero,List.set_cons_succ])
                 refine wpAnyH_take (i:=8) (v:=?_) rfl (by kernel_rfl) (by kernel_rfl) (by kernel_rfl) (fun _ _ _ h => h) (Or.inl ⟨by rfl,?_⟩) hS ?_
                 rotate_left
                 · (intro w' hS';go_simp;try with_reducible rfl)
                 (try simp only [Act.put,List.getElem_toArray,List.getElem_cons_zero,List.getElem_cons_succ,List.setIfInBounds_toArray,List.set_cons_zero,List.set_cons_succ])
                 refine wpAnyH_take (i:=9) (v:=?_) rfl (by kernel_rfl) (by kernel_rfl) (by kernel_rfl) (fun _ _ _ h => h) (Or.inl ⟨by rfl,?_⟩) hS ?_
                 rotate_left
                 · (intro w' hS';have hb:=hS'.2;go_simp;try with_reducible rfl)
                 (try simp only [Act.put,List.getElem_toArray,List.getElem_cons_zero,List.getElem_cons_succ,List.setIfInBounds_toArray,List.set_cons_zero,List.set_cons_succ])
                 refine wpAnyH_take (i:=10) (v:=?_) rfl (by kernel_rfl) (by kernel_rfl) (by kernel_rfl) (fun _ _ _ h => h) (Or.inl ⟨by rfl,?_⟩) hS ?_
                 rotate_left
                 · (intro w' hS';go_simp;try with_reducible rfl)
                 (try simp only [Act.put,List.getElem_toArray,List.getElem_cons_zero,List.getElem_cons_succ,List.setIfInBounds_toArray,List.set_cons_zero,List.set_cons_succ])
                 refine wpAnyH_done (by kernel_rfl) ?_ _
                 generalize wr.drew = wd at *
                 have k3d:=hk3d.out
                 by_cases hkl : (k : Int) < lo
                 · have hkd : decide ((k : Int) < lo) = true:=decide_eq_true hkl
                   have hklh:=lhi hkl
                   clear hkl
                   go_wp2_with (first
                    | (refine wpList_load_mid rfl 71 (.tmp 97) rfl G2 (j * 21) rfl (ptL qj) _ hrgd.out Try.underlying71 rfl (by rw [hLj.out];exact size_pt) ?_)
                    | (go_at_call 39;refine (hCo.out hzh.out hklh.out).mono ?_;rintro e w9 ⟨⟨v',l',rfl,hpu,hP9⟩,hb9⟩))
                   go_roundw
                   case rel => exact ⟨_,_,j + 1,l',xj,rfl,rfl,by omega,rfl,hP9,hPxd.out.keep hb9,hpu.nodup hnoC.out,hnxC.out,fun q => by
                       rw [hpu.mem,hmoC.out,htj.out]
                       simp only [List.mem_append,List.mem_singleton]
                       constructor
                       · rintro ((h1 | ⟨h0,h1,h2⟩) | rfl)
                         · exact .inl h1
                         · exact .inr ⟨h0,.inl h1,h2⟩
                         · exact .inr ⟨hklh.out,.inr rfl,hzh.out⟩
                       · rintro (h1 | ⟨h0,h1 | rfl,h2⟩)
                         · exact .inl (.inl h1)
                         · exact .inl (.inr ⟨h0,h1,h2⟩)
                         · exact .inr rfl,hmx'.out,hbw.out.trans (hb9.mono hbw.out.size)⟩
                   case measure => simp [intOf];omega
                 · have hkd : decide ((k : Int) < lo) = false:=decide_eq_false hkl
                   have hklh:=lhi hkl
                   first
                    | (exfalso;have:=hlkh.out;have:=hklh.out;omega)
                    | (go_wp2
                       go_roundw
                       case rel => exact ⟨_,_,j + 1,oj,xj,rfl,rfl,by omega,rfl,hPod.out,hPxd.out,hnoC.out,hnxC.out,fun q => by
                           rw [hmoC.out]
                           constructor
                           · rintro (h1 | ⟨h0,_⟩)
                             · exact .inl h1
                             · exact absurd h0 hklh.out
                           · rintro (h1 | ⟨h0,_⟩)
                             · exact .inl h1
                             · exact absurd h0 hklh.out,hmx'.out,hbw.out⟩
                       case measure => simp [intOf];omega)
               · have hzd : ((qj.i : Int) != (y.i : Int)) = true:=by rw [bne_iff_ne];omega
                 have hzh:=lhi hz
                 clear hz
                 go_wp2
                 refine wp_region_held_drew (S:=fun w' : World => w'.cell? ⟨G2,j * 21,none⟩ = some (.int .i64 (qj.i : Int)) ∧ w'.cell? ⟨G,i' * 21,none⟩ = some (.int .i64 (y.i : Int))) (by kernel_rfl) hSd.out (fun hS => ?_)
                 refine wpAnyH_take (i:=0) (v:=?_) rfl (by kernel_rfl) (by kernel_rfl) (by kernel_rfl) (fun _ _ _ h => h) (Or.inl ⟨by rfl,?_⟩) hS ?_
                 rotate_left
                 · (intro w' hS';go_simp;try with_reducible rfl)
                 (try simp only [Act.put,List.getElem_toArray,List.getElem_cons_zero,List.getElem_cons_succ,List.setIfInBounds_toArray,List.set_cons_zero,List.set_cons_succ])
                 refine wpAnyH_take (i:=1) (v:=?_) rfl (by kernel_rfl) (by kernel_rfl) (by kernel_rfl) (fun _ _ _ h => h) (Or.inl ⟨by rfl,?_⟩) hS ?_
                 rotate_left
                 · (intro w' hS';go_simp;try with_reducible rfl)
                 (try simp only [Act.put,List.getElem_toArray,List.getElem_cons_zero,List.getElem_cons_succ,List.setIfInBounds_toArray,List.set_cons_zero,List.set_cons_succ])
                 refine wpAnyH_take (i:=2) (v:=?_) rfl (by kernel_rfl) (by kernel_rfl) (by kernel_rfl) (fun _ _ _ h => h) (Or.inl ⟨by rfl,?_⟩) hS ?_
                 rotate_left
                 · (intro w' hS';go_simp;try with_reducible rfl)
                 (try simp only [Act.put,List.getElem_toArray,List.getElem_cons_zero,List.getElem_cons_succ,List.setIfInBounds_toArray,List.set_cons_zero,List.set_cons_succ])
                 refine wpAnyH_take (i:=3) (v:=?_) rfl (by kernel_rfl) (by kernel_rfl) (by kernel_rfl) (fun _ _ _ h => h) (Or.inl ⟨by rfl,?_⟩) hS ?_
                 rotate_left
                 · (intro w' hS';go_simp;try with_reducible rfl)
                 (try simp only [Act.put,List.getElem_toArray,List.getElem_cons_zero,List.getElem_cons_succ,List.setIfInBounds_toArray,List.set_cons_zero,List.set_cons_succ])
                 refine wpAnyH_take (i:=4) (v:=?_) rfl (by kernel_rfl) (by kernel_rfl) (by kernel_rfl) (fun _ _ _ h => h) (Or.inl ⟨by rfl,?_⟩) hS ?_
                 rotate_left
                 · (intro w' hS';have ha:=hS'.1;go_simp;try with_reducible rfl)
                 (try simp only [Act.put,List.getElem_toArray,List.getElem_cons_zero,List.getElem_cons_succ,List.setIfInBounds_toArray,List.set_cons_zero,List.set_cons_succ])
                 refine wpAnyH_take (i:=5) (v:=?_) rfl (by kernel_rfl) (by kernel_rfl) (by kernel_rfl) (fun _ _ _ h => h) (Or.inl ⟨by rfl,?_⟩) hS ?_
                 rotate_left
                 · (intro w' hS';go_simp;try with_reducible rfl)
                 (try simp only [Act.put,List.getElem_toArray,List.getElem_cons_zero,List.getElem_cons_succ,List.setIfInBounds_toArray,List.set_cons_zero,List.set_cons_succ])
                 refine wpAnyH_take (i:=6) (v:=?_) rfl (by kernel_rfl) (by kernel_rfl) (by kernel_rfl) (fun _ _ _ h => h) (Or.inl ⟨by rfl,?_⟩) hS ?_
                 rotate_left
                 · (intro w' hS';go_simp;try with_reducible rfl)
                 (try simp only [Act.put,List.getElem_toArray,List.getElem_cons_zero,List.getElem_cons_succ,List.setIfInBounds_toArray,List.set_cons_zero,List.set_cons_succ])
                 refine wpAnyH_take (i:=7) (v:=?_) rfl (by kernel_rfl) (by kernel_rfl) (by kernel_rfl) (fun _ _ _ h => h) (Or.inl ⟨by rfl,?_⟩) hS ?_
                 rotate_left
                 · (intro w' hS';go_simp;try with_reducible rfl)
                 (try simp only [Act.put,List.getElem_toArray,List.getElem_cons_zero,List.getElem_cons_succ,List.setIfInBounds_toArray,List.set_cons_zero,List.set_cons_succ])
                 refine wpAnyH_take (i:=8) (v:=?_) rfl (by kernel_rfl) (by kernel_rfl) (by kernel_rfl) (fun _ _ _ h => h) (Or.inl ⟨by rfl,?_⟩) hS ?_
                 rotate_left
                 · (intro w' hS';go_simp;try with_reducible rfl)
                 (try simp only [Act.put,List.getElem_toArray,List.getElem_cons_zero,List.getElem_cons_succ,List.setIfInBounds_toArray,List.set_cons_zero,List.set_cons_succ])
                 refine wpAnyH_take (i:=9) (v:=?_) rfl (by kernel_rfl) (by kernel_rfl) (by kernel_rfl) (fun _ _ _ h => h) (Or.inl ⟨by rfl,?_⟩) hS ?_
                 rotate_left
                 · (intro w' hS';have hb:=hS'.2;go_simp;try with_reducible rfl)
                 (try simp only [Act.put,List.getElem_toArray,List.getElem_cons_zero,List.getElem_cons_succ,List.setIfInBounds_toArray,List.set_cons_zero,List.set_cons_succ])
                 refine wpAnyH_take (i:=10) (v:=?_) rfl (by kernel_rfl) (by kernel_rfl) (by kernel_rfl) (fun _ _ _ h => h) (Or.inl ⟨by rfl,?_⟩) hS ?_
                 rotate_left
                 · (intro w' hS';go_simp;try with_reducible rfl)
                 (try simp only [Act.put,List.getElem_toArray,List.getElem_cons_zero,List.getElem_cons_succ,List.setIfInBounds_toArray,List.set_cons_zero,List.set_cons_succ])
                 refine wpAnyH_done (by kernel_rfl) ?_ _
                 generalize wr.drew = wd at *
                 go_wp2_with (first
                  | (refine wpList_load_mid rfl 71 (.tmp 87) rfl G2 (j * 21) rfl (ptL qj) _ hrgd.out Try.underlying71 rfl (by rw [hLj.out];exact size_pt) ?_)
                  | (go_at_call 39;refine (hCx.out hzh.out).mono ?_;rintro e w9 ⟨⟨v',l',rfl,hpu,hP9⟩,hb9⟩))
                 go_roundw
                 case rel => exact ⟨_,_,j + 1,oj,l',rfl,rfl,by omega,rfl,hPod.out.keep hb9,hP9,hnoC.out,hpu.nodup hnxC.out,fun q => by
                       rw [hmoC.out,htj.out]
                       simp only [List.mem_append,List.mem_singleton]
                       constructor
                       · rintro (h1 | ⟨h0,h1,h2⟩)
                         · exact .inl h1
                         · exact .inr ⟨h0,.inl h1,h2⟩
                       · rintro (h1 | ⟨h0,h1 | rfl,h2⟩)
                         · exact .inl h1
                         · exact .inr ⟨h0,h1,h2⟩
                         · exact absurd h2 hzh.out,fun q => by
                       rw [hpu.mem,hmxC.out,htj.out]
                       simp only [List.mem_append,List.mem_singleton]
                       constructor
                       · rintro ((h1 | ⟨h1,h2⟩) | rfl)
                         · exact .inl h1
                         · exact .inr ⟨.inl h1,h2⟩
                         · exact .inr ⟨.inr rfl,hzh.out⟩
                       · rintro (h1 | ⟨h1 | rfl,h2⟩)
                         · exact .inl (.inl h1)
                         · exact .inl (.inr ⟨h1,h2⟩)
                         · exact .inr rfl,hbw.out.trans (hb9.mono hbw.out.size)⟩
                 case measure => simp [intOf];omega
             · obtain rfl : j = nb:=by omega
               go_wp2
               go_roundw
               case rel => exact ⟨_,_,i' + 1,oj,xj,rfl,rfl,by omega,rfl,hPoC.out,hPxC.out,hnoC.out,hnxC.out,fun q => by
                   rw [hmoC.out,hmoB.out,htk.out,← hnb.out,List.take_length,hRb.out.2]
                   simp only [List.mem_append,List.mem_singleton]
                   constructor
                   · rintro ((h1 | ⟨h0,z,h1,h2⟩) | ⟨h0,h1,h2⟩)
                     · exact .inl h1
                     · exact .inr ⟨h0,z,.inl h1,h2⟩
                     · exact .inr ⟨h0,y,.inr rfl,h1,h2⟩
                   · rintro (h1 | ⟨h0,z,h1 | rfl,h2⟩)
                     · exact .inl (.inl h1)
                     · exact .inl (.inr ⟨h0,z,h1,h2⟩)
                     · exact .inr ⟨h0,h2⟩,fun q => by
                   rw [hmxC.out,hmxB.out,htk.out,← hnb.out,List.take_length,hRb.out.2]
                   simp only [List.mem_append,List.mem_singleton]
                   constructor
                   · rintro (⟨z,h1,h2⟩ | h1)
                     · exact ⟨z,.inl h1,h2⟩
                     · exact ⟨y,.inr rfl,h1⟩
                   · rintro ⟨z,h1 | rfl,h2⟩
                     · exact .inl ⟨z,h1,h2⟩
                     · exact .inr h2,(hbrB.out.trans (hb6.out.mono hbrB.out.size)).trans (hbcC.out.mono (Nat.le_trans hbrB.out.size hb6.out.size))⟩
               case measure => simp [intOf];omega
          · obtain rfl : i' = n:=by omega
            have hTn:=lhi (hTnx.out k now out outi nxt hTim.out hkh.out hnxB.out hnoB.out (fun q => by rw [hmxB.out,← hnn.out,List.take_length]) (fun q => by
             have e1:=hmoB.out q
             rw [← hnn.out,List.take_length] at e1
             exact e1.trans (or_congr (hm1.out q) Iff.rfl)))
            have hT9:=lhi (hT1.out.below hbrB.out)
            have hB9:=lhi (hB1.out.trans (hbrB.out.mono hB1.out.size))
            go_wp2
            go_roundw
            case rel => exact ⟨_,_,k + 1,outi,nxt,rfl,rfl,rfl,hPoB.out,hPxB.out,hTn.out,hT9.out,hB9.out,by have:=hkt.out;omega⟩
            case measure => have:=hkt.out;simp [intOf];omega
end
end Go.Proofs.Ytbdfhmefjfaofaa
