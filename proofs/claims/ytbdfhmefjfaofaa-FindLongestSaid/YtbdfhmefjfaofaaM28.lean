/- Contracts and plain facts: M28. -/
import Derived.Test.YtbdfhmefjfaofaaM27
set_option linter.unusedVariables false
set_option linter.unusedSimpArgs false
set_option maxRecDepth 100000
set_option maxHeartbeats 32000000
namespace Go.Proofs.Ytbdfhmefjfaofaa
open Go.RowKit
inductive EndP (w : World) (B S W : Nat) (An : Option Addr) (nn cn : Nat) (At : Option Addr) (nt ct : Nat) (ns : List Nod) (t : List UInt8) (g : Int) (a left : Nat) (v : Value) (xs : List Wt) (b : Option Spn) (x : Wy) : Ending → World → Prop
 | dry {w' : World} {v' : Value} (h : Over ns t (x :: xs.map wyW) left) (hc : Chm w w' S W v v') : EndP w B S W An nn cn At nt ct ns t g a left v xs b x (.returned (.bool false)) w'
 | done {w' : World} {v' : Value} {xs' : List Wt} {left' c : Nat} {hs : List Pt} (h : Srch w' B S An nn cn At nt ct ns t g a left' v' xs' (bestF b (hs.map (hitS a)))) (hc : Chm w w' S W v v') (he : Eqv ns t (x :: xs.map wyW) (xs'.map wyW) c hs) (hl : left' + c = left) (hk : ∀ y ∈ xs',WOK ns t g a (wyW y)) (hf : xs'.length + left' ≤ xs.length + left) : EndP w B S W An nn cn At nt ct ns t g a left v xs b x (.returned (.bool true)) w'
structure RelE (w : World) (B S W : Nat) (An : Option Addr) (nn cn : Nat) (At : Option Addr) (nt ct : Nat) (ns : List Nod) (t : List UInt8) (g : Int) (a left : Nat) (v : Value) (xs : List Wt) (b : Option Spn) (x : Wy) (v1 : Value) (xs1 : List Wt) (left1 : Nat) (pv1 : Value) (p1 : Pt) (l1 : List Tsk) (c : Nat) (wr : World) : Prop where
 st : Sta wr B S W An nn cn At nt ct ns t g a left1 v1 xs1 b pv1 p1 l1
 ch : Chm w wr S W v v1
 eq : Eqv ns t (x :: xs.map wyW) ((l1,p1) :: xs1.map wyW) c []
 le : left1 + c = left
 ok : WOK ns t g a (l1,p1)
 oks : ∀ y ∈ xs1,WOK ns t g a (wyW y)
 few : xs1.length + left1 ≤ xs.length + left
def leftM (S : Nat) (w : World) : Nat:=match w.cell? ⟨S,3,none⟩ with | some (.int _ z) => z.toNat | _ => 0
section
variable {w w1 w' : World} {B S W : Nat} {An : Option Addr} {nn cn : Nat} {At : Option Addr} {nt ct : Nat} {ns : List Nod} {t : List UInt8} {g : Int} {a left : Nat} {v v' : Value} {xs : List Wt} {b : Option Spn} {pv : Value} {p : Pt} {l r : List Tsk} {tk : Tsk} {x : Wy} {v1 : Value} {xs1 : List Wt} {left1 c : Nat} {pv1 : Value} {p1 : Pt} {wr : World}
theorem leftM_at (h : Sta w B S W An nn cn At nt ct ns t g a left v xs b pv p l) : leftM S w = left:=by unfold leftM;rw [h.c3];rfl
theorem RelE.gone (h : RelE w B S W An nn cn At nt ct ns t g a left v xs b x v1 xs1 (left1 + 1) pv1 p1 (tk :: r) c wr) {w2 w3 : World} (hc2 : Chm wr w2 S W v1 v1) (hg : GoP w2 B S W An nn cn At nt ct ns t g a left1 v1 xs1 b ((nexts ns t tk p1).map (ahead r)) (.returned (.bool false)) w3) : EndP w B S W An nn cn At nt ct ns t g a left v xs b x (.returned (.bool true)) w3:=by
 cases hg with
 | gone hL hs hw hc =>
  have he:=Eqv.trans h.eq (Eqv.step (ns:=ns) (t:=t) (tk:=tk) (r:=r) (p:=p1) (s:=xs1.map wyW))
  rw [hL] at he
  have hle:=h.le
  have hfw:=h.few
  have e0 : bestF b [] = b:=by cases b <;> rfl
  exact .done (hs:=[]) (by rw [List.map_nil,e0];exact hs) ((h.ch.trans hc2).trans hc) he (by omega) h.oks (by omega)
theorem RelE.goes (h : RelE w B S W An nn cn At nt ct ns t g a left v xs b x v1 xs1 (left1 + 1) pv1 p1 (tk :: r) c wr) (hr : Rt ns g) {w2 w3 : World} (hc2 : Chm wr w2 S W v1 v1) (hg : GoP w2 B S W An nn cn At nt ct ns t g a left1 v1 xs1 b ((nexts ns t tk p1).map (ahead r)) (.returned (.bool true)) w3) : ∃ v2 xs2 pv2 p2 l2 c2,RelE w B S W An nn cn At nt ct ns t g a left v xs b x v2 xs2 left1 pv2 p2 l2 c2 w3:=by
 cases hg with
 | @goes _ v2 pv2 p2 l2 ys hs hc hy hp =>
  have hok:=h.ok.next hr
  have hle:=h.le
  have hfw:=h.few
  have hm : ∀ y ∈ (l2,p2) :: ys.map wyW,WOK ns t g a y:=fun y hy' => hok y (hp.mem_iff.1 hy')
  have he:=Eqv.trans h.eq (Eqv.step (ns:=ns) (t:=t) (tk:=tk) (r:=r) (p:=p1) (s:=xs1.map wyW))
  have hperm : ((nexts ns t tk p1).map (ahead r) ++ xs1.map wyW).Perm ((l2,p2) :: (xs1 ++ ys).map wyW):=by
   rw [List.map_append]
   have h1:=(hp.symm.append_right (xs1.map wyW))
   refine h1.trans ?_
   rw [List.cons_append]
   exact List.Perm.cons _ List.perm_append_comm
  have he2:=he.trans (Eqv.perm hperm)
  refine ⟨v2,xs1 ++ ys,pv2,p2,l2,c + 1 + 0,hs,(h.ch.trans hc2).trans hc,he2,by omega,hm _ List.mem_cons_self,fun y hy' => ?_,by rw [lla];omega⟩
  rcases List.mem_append.1 hy' with hy' | hy'
  · exact h.oks y hy'
  · exact hm _ (List.mem_cons_of_mem _ (List.mem_map.2 ⟨y,hy',rfl⟩))
theorem RelE.dry (h : RelE w B S W An nn cn At nt ct ns t g a left v xs b x v1 xs1 0 pv1 p1 (tk :: r) c wr) : EndP w B S W An nn cn At nt ct ns t g a left v xs b x (.returned (.bool false)) wr:=by
 have hle:=h.le
 exact .dry (h.eq.over (Over.zero (by omega))) h.ch
theorem RelE.hit (h : RelE w B S W An nn cn At nt ct ns t g a left v xs b x v1 xs1 left1 pv1 p1 [] c wr) {w3 : World} (hs : Srch w3 B S An nn cn At nt ct ns t g a left1 v1 xs1 (bestF b [hitS a p1])) (hc : Chm wr w3 S W v1 v1) : EndP w B S W An nn cn At nt ct ns t g a left v xs b x (.returned (.bool true)) w3:=by
 have he:=Eqv.trans h.eq (Eqv.hit (ns:=ns) (t:=t) (p:=p1) (s:=xs1.map wyW))
 have hle:=h.le
 exact .done (hs:=[p1]) hs (h.ch.trans hc) he (by omega) h.oks h.few
theorem toItsEnd_any (h : Sta w B S W An nn cn At nt ct ns t g a left v xs b pv p l) (hwk : WOK ns t g a (l,p)) (hoks : ∀ y ∈ xs,WOK ns t g a (wyW y)) (hf : xs.length + left ≤ 1000000) :
    Calls Try.prog 35 #[.pointer (some ⟨S,0,none⟩),.pointer (some ⟨W,0,none⟩)] w (EndP w B S W An nn cn At nt ct ns t g a left v xs b (l,p)):=by
 have hr:=h.s.thru.rt
 have h0:=lhi (show RelE w B S W An nn cn At nt ct ns t g a left v xs b (l,p) v xs left pv p l 0 w from ⟨h,Chm.of_below (Below.refl _ _),Eqv.refl _,by omega,hwk,hoks,nlr _⟩)
 clear h hwk hoks
 go_enter Try.func35,Try.ntmps35
 go_wp2
 go_loopw [] (fun wr => ∃ v1 xs1 left1 pv1 p1 l1 c,Hid (RelE w B S W An nn cn At nt ct ns t g a left v xs b (l,p) v1 xs1 left1 pv1 p1 l1 c wr)) (fun wr => leftM S wr)
 case atStart => exact ⟨v,xs,left,pv,p,l,0,h0⟩
 case round =>
  obtain ⟨v1,xs1,left1,pv1,p1,l1,c,hR⟩:=hrel
  clear h0
  have hrow:=hR.out.st.row
  have p21:=hR.out.st.p21
  have c3:=hR.out.st.c3
  have t3:=hR.out.st.s.held.thawed 3
  have hm:=lhi (leftM_at hR.out.st)
  have hfw:=hR.out.few
  have hlw:=hR.out.le
  cases l1 with
  | nil =>
   cases hrow
   have hM:=lhi (matched_any hR.out.st)
   have hE:=lhi (fun w3 hs hc => hR.out.hit (w3:=w3) hs hc)
   clear hR hfw hlw
   go_wp2_with (go_at_call 51;refine (hM.out).mono ?_;rintro e w3 ⟨rfl,hs,hc⟩;replace hE:=lhi (hE.out w3 hs hc);clear hs hc)
   go_ret
   exact hE.out
  | cons tk r =>
   obtain ⟨cb,k0,n0,u0,q0,pv',rfl,-,-,-⟩:=hrow.head
   cases left1 with
   | zero =>
    have hE:=lhi hR.out.dry
    clear hR hfw hlw hrow
    go_wp2
    go_ret
    exact hE.out
   | succ left1 =>
    have hne : (((left1 + 1 : Nat) : Int) == 0) = false:=by rw [bef];omega
    have hne2 : (((left1 : Int) + 1) == 0) = false:=by rw [bef];omega
    have hw1 : IntKind.i64.wrap (((left1 + 1 : Nat) : Int) - 1) = (left1 : Int):=by rw [IntWalk.i64_in _ (by omega)];omega
    have hsp:=lhi (hR.out.st.spent (z:=(left1 : Int)) rfl)
    have hG:=lhi (goesOn_any hsp.out.1 hR.out.ok (by omega))
    have hE:=lhi (fun w3 hg => hR.out.gone hsp.out.2 (w3:=w3) hg)
    have hN:=lhi (fun w3 hg => hR.out.goes hr hsp.out.2 (w3:=w3) hg)
    have hm2:=lhi (show leftM S wr = left1 + 1 from hm.out)
    clear hR hfw hlw hrow hm
    generalize hL1 : (((left1 + 1 : Nat)) : Int) = L1 at *
    replace hL1:=lhi hL1
    go_wp2_with (go_at_call 50;refine (hG.out).mono ?_;intro e w3 hg;obtain ⟨rb,rfl⟩:=hg.ret;cases rb <;> replace hg:=lhi hg)
    · go_ret
      exact hE.out _ hg.out
    · obtain ⟨v2,xs2,pv2,p2,l2,c2,hq⟩:=hN.out _ hg.out
      go_roundw
      case rel => exact ⟨v2,xs2,left1,pv2,p2,l2,c2,lhi hq⟩
      case measure => rw [leftM_at hq.st,hm2.out];omega
end
structure AllP (w : World) (S : Nat) (An : Option Addr) (nn cn : Nat) (At : Option Addr) (nt ct : Nat) (ns : List Nod) (t : List UInt8) (a M : Nat) (e : Ending) (w' : World) : Prop where
 gr : Below S w w'
 told : (e = .returned (.bool false) ∧ Told11 ns t ((ns.length : Int) - 1) a M none) ∨ (∃ (b : Option Spn) (left : Nat) (v : Value),e = .returned (.bool true) ∧ Held w' S 57 (srchC An nn cn At nt ct a left v b) ∧ Told11 ns t ((ns.length : Int) - 1) a M (some (b,(left : Int))))
def wtM (S : Nat) (w : World) : Nat:=match w.cell? ⟨S,3,none⟩,w.cell? ⟨S,4,none⟩ with | some (.int _ z),some (.slice _ n _) => 2 * z.toNat + n | _,_ => 0
structure RelA (w : World) (B S : Nat) (An : Option Addr) (nn cn : Nat) (At : Option Addr) (nt ct : Nat) (ns : List Nod) (t : List UInt8) (g : Int) (a M : Nat) (v : Value) (xs : List Wt) (left c : Nat) (hs : List Pt) (wr : World) : Prop where
 s : Srch wr B S An nn cn At nt ct ns t g a left v xs (bestF none (hs.map (hitS a)))
 gr : Below B w wr
 eq : Eqv ns t [([.node ((ns.length : Int) - 1)],pt0 a)] (xs.map wyW) c hs
 le : left + c = M
 oks : ∀ y ∈ xs,WOK ns t g a (wyW y)
 few : xs.length + left ≤ 1000000
theorem build_way0 (a : Int) (w : World) : (Instr.build 86 #[(0,.int .i64 a),(1,.agg (hitC spNo))]).run Try.prog w = .ok (.agg #[.int .i64 a,.int .i64 (-1),.int .i64 (-1),.int .i64 (-1),.int .i64 (-1),.int .i64 (-1),.int .i64 (-1),.int .i64 (-1),.int .i64 (-1),.int .i64 (-1),.int .i64 (-1),.int .i64 (-1),.int .i64 (-1),.int .i64 (-1),.int .i64 (-1),.int .i64 (-1),.int .i64 (-1),.int .i64 (-1),.int .i64 (-1),.int .i64 (-1),.int .i64 (-1),.pointer none]) w:=run_build w _ _ _ (by kernel_rfl)
theorem yields_way0 {ops : Array Oper} {S : World → Prop} {o : Oper} {ac : Act} (a : Nat) (x y : Operand) (hgd : o.guard = none) (ho : o.op = .build 86 #[(0,x),(1,y)]) (hx : ac.eval x = .int .i64 (a : Int)) (hy : ac.eval y = .agg (hitC spNo)) : YieldsIf Try.prog ops S o (.agg (wayC (pt0 a) (.pointer none))) ac :=
 Or.inl ⟨by simp [Region.wanted,hgd],fun w _ => by
  unfold execOp
  simp only [ho,Sem.run_bind,List.map_toArray,List.map_cons,List.map_nil,hx,hy,build_way0,Result.andThen_ok]
  rfl⟩
theorem step_store_way {ops : Array Oper} {o : Oper} {a : Act} {w : World} {K : Act → World → Prop} {Q : Exit → Act → World → Prop} {E : Prop} (x y : Operand) (hgd : o.guard = none) (ho : o.op = .store 86 x y) (O : Nat) (hx : a.eval x = .pointer (some ⟨O,0,none⟩)) (C : Array Value) (hy : a.eval y = .agg C) (old : Array Value) (hh : Held w O 86 old) (hs : C.size = 22) (ho2 : old.size = 22) (h1 : C.all (·.oneCell') = true)
    (h : K (a.put o.dst undef) (w.setRow O C)) : if Region.wanted o (yielded ops a.tmps) = true then Oper.wp Try.prog o a w K Q else E:=by
 have hw : Region.wanted o (yielded ops a.tmps) = true:=by simp [Region.wanted,hgd]
 rw [if_pos hw]
 exact wp_store_row 86 x y ho O C hx hy 86 old hh (by rw [hs];exact way_size22) (by rw [hs,ho2]) h1 h
def SA1 (S : Nat) (a : Nat) (w w' : World) : Prop:=Below w.heap.size w w' ∧ w'.cell? ⟨S,2,none⟩ = some (.int .i64 (a : Int))
theorem SA1.below {S a : Nat} {w w1 w2 : World} (h : SA1 S a w w1) (hS : S < w.heap.size) (hb : Below w.heap.size w1 w2) : SA1 S a w w2:=⟨h.1.trans hb,(hb.cell (p:=⟨S,2,none⟩) hS).trans h.2⟩
section
variable {w w1 w' : World} {B S W : Nat} {An : Option Addr} {nn cn : Nat} {At : Option Addr} {nt ct : Nat} {ns : List Nod} {t : List UInt8} {g : Int} {a M left c : Nat} {v v' : Value} {xs : List Wt} {hs : List Pt} {wr : World} {b : Option Spn} {pv : Value} {p : Pt} {l : List Tsk}
theorem own_sliceY {w : World} {B n : Nat} {v : Value} {xs : List Value} (h : w.ownsRow B 86 22 v n xs) : ∃ A cap,v = .slice A n cap ∧ n ≤ cap ∧ cap ≤ maxLen ∧ ∀ j u,xs[j]? = some u → ∃ ad,A = some ad ∧ w.cell? (ad.add j) = some u:=by
 have hl:=h.1
 obtain ⟨-,⟨rfl,rfl⟩ | ⟨gg,cap,cur,rfl,_,hh,hnc,hcm,hsz,htake⟩⟩:=id h
 · have : xs = []:=by cases xs with | nil => rfl | cons _ _ => simp at hl
   subst this
   exact ⟨none,0,rfl,nlr _,by simp [maxLen],fun j u hj => by simp at hj⟩
 · refine ⟨some ⟨gg,0,none⟩,cap,rfl,hnc,hcm,fun j u hj => ⟨_,rfl,?_⟩⟩
   rw [add_zero_off,h.cellAt j (by rw [← hl];exact (List.getElem?_eq_some_iff.1 hj).1),hj]
theorem wtM_at (h : Srch w B S An nn cn At nt ct ns t g a left v xs b) : wtM S w = 2 * left + xs.length:=by
 obtain ⟨A,cap,rfl,-⟩:=own_sliceY h.own
 unfold wtM
 rw [h.held.at_ (i:=3) (v:=.int .i64 (left : Int)) rfl,h.held.at_ (i:=4) (v:=.slice A xs.length cap) rfl]
 rfl
end
end Go.Proofs.Ytbdfhmefjfaofaa
