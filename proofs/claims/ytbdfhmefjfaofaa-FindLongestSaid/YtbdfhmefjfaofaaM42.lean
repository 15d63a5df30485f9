/- Contracts and plain facts: M42. -/
import Derived.Test.YtbdfhmefjfaofaaM41
set_option linter.unusedVariables false
set_option linter.unusedSimpArgs false
set_option maxRecDepth 100000
set_option maxHeartbeats 32000000
namespace Go.Proofs.Ytbdfhmefjfaofaa
open Go.RowKit
theorem rBetter_any (a b : Spn) (w : World) : Calls Try.prog 27 #[hitV a,hitV b] w fun e w' => e = .returned (.bool (bet a b)) ∧ Below w.heap.size w w':=by
 have hA:=lhi ((held_new w 31 (hitC a)).alloc (.cells (hitC b) 31))
 have hB:=lhi (held_new2 w (.cells (hitC a) 31) 31 (hitC b))
 have hb0:=lhi (((Below.refl w.heap.size w).alloc (nlr _) (.cells (hitC a) 31)).alloc (by simp) (.cells (hitC b) 31))
 have hsz : ((w.alloc (.cells (hitC a) 31)).alloc (.cells (hitC b) 31)).heap.size = w.heap.size + 2:=by simp
 have ⟨a00,a01⟩:=held_from hA.out (k:=0) (by decide)
 have ⟨b00,b01⟩:=held_from hB.out (k:=0) (by decide)
 show Calls Try.prog 27 #[.agg (hitC a),.agg (hitC b)] w _
 have hgen:=lhi (fun wr (hb : Below (w.heap.size + 2) ((w.alloc (.cells (hitC a) 31)).alloc (.cells (hitC b) 31)) wr) k (hk : k < 10) => And.intro (held_from (hA.out.below hb (by omega)) hk) (held_from (hB.out.below hb (by omega)) hk))
 have hE:=span_eql
 have hEG:=span_guard
 unfold spnV at hE hEG
 clear hA hB
 generalize hca : hitC a = ca at *
 generalize hcb : hitC b = cb at *
 have hb00:=lhi (Below.refl (w.heap.size + 2) ((w.alloc (.cells ca 31)).alloc (.cells cb 31)))
 by_cases e0 : (a 0).2 = (b 0).2
 · have d0 : ((a 0).2 != (b 0).2) = false:=by rw [bne_eq_false_iff_eq];exact e0
   have hbet : bet a b = betG a b 9 1:=by unfold bet;rw [if_neg (by simpa using e0)]
   rw [hbet]
   replace e0:=lhi e0
   clear hbet
   generalize hr : betG a b 9 1 = r
   replace hr:=lhi hr
   go_enter Try.func27,Try.ntmps27
   go_wp2
   generalize ((w.alloc (.cells ca 31)).alloc (.cells cb 31)) = w2 at *
   go_loopw [5] (fun i wr => ∃ k : Nat,1 ≤ k ∧ k ≤ 10 ∧ i = .int .i64 (k : Int) ∧ Hid (∀ j,1 ≤ j → j < k → a j = b j) ∧ Hid (Below (w.heap.size + 2) w2 wr)) (fun i _ => 10 - (intOf i).toNat)
   case atStart => exact ⟨1,by decide,by decide,rfl,lhi fun j h1 h2 => absurd h2 (by omega),hb00⟩
   case round =>
    obtain ⟨k,hk1,hk,rfl,hall,hbr⟩:=hrel
    by_cases hlt : k < 10
    · have ⟨⟨p0,p1⟩,q0,q1⟩:=hgen.out wr hbr.out k hlt
      have hEk:=fun w => hE w (a k) (b k)
      have hEGk:=fun w op p q => hEG w op p q (a k) (b k)
      have hAt:=lhi (fun (hne : a k ≠ b k) => betG_at 9 1 k hk1 (by omega) hall.out hne)
      have hNx:=lhi (fun (he : a k = b k) j (j1 : 1 ≤ j) (j2 : j < k + 1) => show a j = b j by
       rcases Nat.lt_or_ge j k with h | h
       · exact hall.out j j1 h
       · obtain rfl : j = k:=by omega
         exact he)
      have k0 : (0 : Int) ≤ (k : Int):=by omega
      have k10 : (k : Int) < 10:=by omega
      have hsr : w.heap.size + 2 ≤ wr.heap.size:=by have:=hbr.out.size;omega
      have hgen2:=lhi (fun w3 (hb : Below (w.heap.size + 2) w2 w3) => hgen.out w3 hb k hlt)
      clear hE hEG hgen hall a00 a01 b00 b01 d0
      have hbf2:=lhi (fun w3 (hb : Below (w.heap.size + 2) w2 w3) => show Below w.heap.size w w3 from hb0.out.trans (hb.mono (by omega)))
      have hX3:=lhi (show Held (wr.alloc (.cells #[.int .i64 (a k).1,.int .i64 (a k).2] 28)) wr.heap.size 28 #[.int .i64 (a k).1,.int .i64 (a k).2] from held_new wr 28 _)
      have hB3:=lhi (hbr.out.alloc (by omega) (.cells #[.int .i64 (a k).1,.int .i64 (a k).2] 28))
      have hs3:=lhi (show (wr.alloc (.cells #[.int .i64 (a k).1,.int .i64 (a k).2] 28)).heap.size = wr.heap.size + 1 by simp)
      have ⟨⟨p03,p13⟩,q03,q13⟩:=hgen2.out _ hB3.out
      go_upto_region 7 with fail
      generalize (wr.alloc (.cells #[.int .i64 (a k).1,.int .i64 (a k).2] 28)) = w3 at *
      clear p0 p1 q0 q1 hgen2
      generalize wr.heap.size = H at *
      have hY4:=lhi (show Held (w3.alloc (.cells #[.int .i64 (b k).1,.int .i64 (b k).2] 28)) w3.heap.size 28 #[.int .i64 (b k).1,.int .i64 (b k).2] from held_new w3 28 _)
      have hX4:=lhi (hX3.out.alloc (.cells #[.int .i64 (b k).1,.int .i64 (b k).2] 28))
      have hB4:=lhi (hB3.out.alloc (by have:=hs3.out;omega) (.cells #[.int .i64 (b k).1,.int .i64 (b k).2] 28))
      have ⟨x0,x1⟩:=held2 hX4.out
      have ⟨y0,y1⟩:=held2 hY4.out
      have hF:=lhi (hbf2.out _ hB4.out)
      go_upto_region 8 with fail
      generalize (w3.alloc (.cells #[.int .i64 (b k).1,.int .i64 (b k).2] 28)) = w4 at *
      generalize w3.heap.size = K at *
      clear p03 p13 q03 q13 hX3 hB3 hs3 hbr hbf2
      replace hsz:=lhi hsz
      replace hsr:=lhi hsr
      by_cases he : a k = b k
      · have dk : decide (a k = b k) = true:=decide_eq_true he
        rw [dk] at hEk
        have hNx2:=lhi (hNx.out he)
        clear hAt hNx dk
        replace he:=lhi he
        go_wp2
        go_roundw
        case rel => exact ⟨k + 1,by omega,by omega,by go_num,hNx2,hB4⟩
        case measure => simp [intOf];omega
      · have dk : decide (a k = b k) = false:=decide_eq_false he
        rw [dk] at hEk
        have hA2:=lhi ((hAt.out he).symm.trans hr.out)
        unfold betS at hA2
        clear hAt hNx dk hr
        generalize (a k).1 = u1 at *
        generalize (a k).2 = u2 at *
        generalize (b k).1 = v1 at *
        generalize (b k).2 = v2 at *
        replace he:=lhi he
        by_cases h1 : u1 < 0
        · rw [if_pos h1] at hA2
          have d1 : decide (u1 < 0) = true:=decide_eq_true h1
          go_wp2
          go_ret
          exact ⟨by rw [← hA2.out];rfl,hF.out⟩
        · rw [if_neg h1] at hA2
          have d1 : decide (u1 < 0) = false:=decide_eq_false h1
          by_cases h2 : v1 < 0
          · rw [if_pos h2] at hA2
            have d2 : decide (v1 < 0) = true:=decide_eq_true h2
            go_wp2
            go_ret
            exact ⟨by rw [← hA2.out];rfl,hF.out⟩
          · rw [if_neg h2] at hA2
            have d2 : decide (v1 < 0) = false:=decide_eq_false h2
            by_cases h3 : u1 = v1
            · rw [if_neg (fun hc => hc h3)] at hA2
              have d3 : (u1 != v1) = false:=by rw [bne_eq_false_iff_eq];exact h3
              replace h3:=lhi h3
              go_wp2
              go_ret
              exact ⟨by rw [← hA2.out];rfl,hF.out⟩
            · rw [if_pos h3] at hA2
              have d3 : (u1 != v1) = true:=by rw [bne_iff_ne];exact h3
              replace h3:=lhi h3
              go_wp2
              go_ret
              exact ⟨by rw [← hA2.out];rfl,hF.out⟩
    · obtain rfl : k = 10:=by omega
      have hz:=lhi (betG_all (a:=a) (b:=b) 9 1 fun j j1 j2 => hall.out j j1 (by omega))
      have hbf:=lhi (show Below w.heap.size w wr from hb0.out.trans (hbr.out.mono (by omega)))
      clear hE hEG hgen hall a00 a01 b00 b01 d0
      go_wp2
      go_ret
      exact ⟨ret_bool (hz.out.symm.trans hr.out),hbf.out⟩
 · have d0 : ((a 0).2 != (b 0).2) = true:=by rw [bne_iff_ne];exact e0
   have hbet : bet a b = decide ((b 0).2 < (a 0).2):=by unfold bet;rw [if_pos (by simpa using e0)]
   rw [hbet]
   replace e0:=lhi e0
   clear hbet hE hEG hgen
   go_enter Try.func27,Try.ntmps27
   go_wp2
   go_ret
   exact ⟨rfl,hb0.out⟩
def tskL : Tsk → List Value
 | .node n => [.int .i64 0,.int .i64 n,.int .i64 0,.int .i64 0]
 | .gend g p => [.int .i64 1,.int .i64 g,.int .i64 0,.int .i64 (p : Int)]
 | .times n k p => [.int .i64 2,.int .i64 n,.int .i64 k,.int .i64 (p : Int)]
def rowL (l : List Tsk) : List Value:=l.flatMap tskL
theorem add_off (b o k : Nat) : (Addr.add ⟨b,o,none⟩ k : Addr) = ⟨b,o + k,none⟩:=by unfold Addr.add;split <;> simp_all
def Trow (w : World) (F : Nat) (A : Option Addr) (l : List Tsk) : Prop:=∀ j u,(rowL l)[j]? = some u → ∃ b o,A = some ⟨b,o,none⟩ ∧ F < b ∧ b < w.heap.size ∧ w.cell? ⟨b,o + j,none⟩ = some u
theorem Trow.src {w : World} {F : Nat} {A : Option Addr} {l : List Tsk} (h : Trow w F A l) : Src w A (rowL l):=fun j u hj => by
 obtain ⟨b,o,h1,_,_,h2⟩:=h j u hj
 exact ⟨_,h1,by rw [add_off];exact h2⟩
theorem Trow.keep {w w' : World} {F : Nat} {A : Option Addr} {l : List Tsk} (h : Trow w F A l) (hg : w.grownBy w' (some F)) : Trow w' F A l:=fun j u hj => by
 obtain ⟨b,o,h1,h2,h3,h4⟩:=h j u hj
 refine ⟨b,o,h1,h2,nll h3 hg.size,?_⟩
 rw [World.grownBy.cell_far hg _ (show b < w.heap.size from h3) (by intro e;have : b = F:=Option.some.inj e;omega)]
 exact h4
theorem Trow.below {w w' : World} {F : Nat} {A : Option Addr} {l : List Tsk} (h : Trow w F A l) (hb : Below w.heap.size w w') : Trow w' F A l:=h.keep (grown_of hb _)
theorem Trow.nil (w : World) (F : Nat) (A : Option Addr) : Trow w F A []:=fun j u hj => by simp [rowL] at hj
def ptL (p : Pt) : List Value:=.int .i64 (p.i : Int) :: hitL p.sp
def ptC (p : Pt) : Array Value:=(ptL p).toArray
def ptV (p : Pt) : Value:=.agg (ptC p)
def ptsL (l : List Pt) : List Value:=l.flatMap ptL
theorem ptL_len (p : Pt) : (ptL p).length = 21:=rfl
theorem ptC_size (p : Pt) : (ptC p).size = 21:=rfl
theorem pt_one (p : Pt) : ∀ u ∈ ptL p,u.oneCell' = true:=fun u hu => by
 rcases List.mem_cons.1 hu with rfl | hu
 · rfl
 · exact hit_one _ u hu
theorem ptsL_len (l : List Pt) : (ptsL l).length = l.length * 21:=by
 induction l with
 | nil => rfl
 | cons x r ih => unfold ptsL at ih ⊢;rw [List.flatMap_cons,lla,ih,ptL_len,List.length_cons];omega
theorem ptsL_app (a b : List Pt) : ptsL (a ++ b) = ptsL a ++ ptsL b:=by simp [ptsL]
theorem ptsL_one (p : Pt) : ptsL [p] = ptL p:=by simp [ptsL]
theorem pts_one (l : List Pt) : ∀ u ∈ ptsL l,u.oneCell' = true:=fun u hu => by
 obtain ⟨x,_,hx⟩:=List.mem_flatMap.1 hu
 exact pt_one x u hx
theorem ptsL_at (l : List Pt) (k : Nat) (h : k < l.length) (j : Nat) (hj : j < 21) : (ptsL l)[k * 21 + j]? = (ptL (l[k]'h))[j]?:=by
 induction l generalizing k with
 | nil => exact absurd h (Nat.not_lt_zero k)
 | cons s r ih =>
  have e : ptsL (s :: r) = ptL s ++ ptsL r:=by simp [ptsL]
  have hl:=ptL_len s
  cases k with
  | zero => rw [e,List.getElem?_append_left (by omega),Nat.zero_mul,Nat.zero_add];rfl
  | succ k =>
   rw [e,List.getElem?_append_right (by omega),hl,show (k + 1) * 21 + j - 21 = k * 21 + j by omega]
   exact ih k (Nat.lt_of_succ_lt_succ h)
theorem pt_infoz : (Try.prog.info? 71).map (fun i => (i.zero,i.size,i.bytes)) = some (some (.agg #[.int .i64 0,.int .i64 0,.int .i64 0,.int .i64 0,.int .i64 0,.int .i64 0,.int .i64 0,.int .i64 0,.int .i64 0,.int .i64 0,.int .i64 0,.int .i64 0,.int .i64 0,.int .i64 0,.int .i64 0,.int .i64 0,.int .i64 0,.int .i64 0,.int .i64 0,.int .i64 0,.int .i64 0]),21,168):=by kernel_rfl
theorem size_pt : (Try.prog.info? 71).map (·.size) = some 21:=by kernel_rfl
theorem fill_pt (s : Pt) : Instr.fill (fun i => some (i * 21,21)) ((Array.range (1 * 21)).map ((Value.agg #[.int .i64 0,.int .i64 0,.int .i64 0,.int .i64 0,.int .i64 0,.int .i64 0,.int .i64 0,.int .i64 0,.int .i64 0,.int .i64 0,.int .i64 0,.int .i64 0,.int .i64 0,.int .i64 0,.int .i64 0,.int .i64 0,.int .i64 0,.int .i64 0,.int .i64 0,.int .i64 0,.int .i64 0]).cells[· % 21]!)) [(0,.agg (ptC s))] = some (ptC s):=by kernel_rfl
theorem under_pt : Try.prog.underlying 71 = some (.struct (Try.prog.fieldsOf 71)):=by kernel_rfl
theorem stood_pt : Try.prog.stoodInHeld 71 = false:=by kernel_rfl
theorem flds_pt : (Try.prog.fieldsOf 71).toList.map fldK = [(true,3,0),(true,29,1)]:=by kernel_rfl
theorem guard_pt : Try.prog.eqGuardType Try.prog.depth 71 = false:=by kernel_rfl
noncomputable def ptEq (p q : Pt) : Bool:=decide (p.i = q.i) && same10B p.sp q.sp
theorem list_whole (l : List Value) (x : Value) (h : l.length = 20) : ((x :: l).toArray).extract 1 (1 + 20) = l.toArray:=by
 simp only [List.extract_toArray,List.extract_eq_take_drop,List.drop_succ_cons,List.drop_zero]
 rw [List.take_of_length_le (by omega)]
theorem run_equalIn_pt (d : Nat) (w : World) (a b : Pt) : (Op.equalIn (d + 4) 71 (ptV a) (ptV b)).run Try.prog w = .ok (ptEq a b) w:=by
 have h10:=run_equalIn_ten d w a.sp b.sp
 unfold ptV
 rw [run_equalIn_struct w (d + 3) _ _ _ under_pt stood_pt]
 have hf:=flds_pt
 generalize (Try.prog.fieldsOf 71).toList = L at hf
 match L,(show L.length = 2 by have:=congrArg List.length hf;simpa using this),hf with
 | [f0,f1],_,hf =>
  simp only [List.map_cons,List.map_nil,List.cons.injEq,and_true] at hf
  obtain ⟨h0,h1⟩:=hf
  have hi : ∀ a b : Int,(Op.equalIn (d + 3) 3 (.int .i64 a) (.int .i64 b)).run Try.prog w = .ok (decide (a = b)) w:=fun a b => by
   rw [← int_beq];exact run_equalIn_int w (d + 2) _ .i64 .i64 a b Try.underlying3
  rw [eqFields_cons Try.prog (d + 3) _ _ f0 _ _ _ h0 _ _ _ w (run_part_int w _ 0 (a.i : Int) rfl) (run_part_int w _ 0 (b.i : Int) rfl) (hi _ _)]
  have e : ∀ s : Pt,(ptC s).extract 1 (1 + 20) = hitC s.sp:=fun s => list_whole _ _ (hitL_len s.sp)
  rw [eqFields_cons Try.prog (d + 3) _ _ f1 _ _ _ h1 _ _ _ w (run_part_agg w _ 20 _ _ _ Try.underlying29 rfl size_ten) (run_part_agg w _ 20 _ _ _ Try.underlying29 rfl size_ten) (by rw [e,e];exact h10)]
  simp only [Op.eqFields,Sem.run_pure]
  have e2 : decide ((a.i : Int) = (b.i : Int)) = decide (a.i = b.i):=by rw [Bool.eq_iff_iff,decide_eq_true_iff,decide_eq_true_iff];omega
  unfold ptEq
  rw [e2]
  cases decide (a.i = b.i) <;> cases same10B a.sp b.sp <;> rfl
theorem run_equalIn_pt0 (w : World) (a b : Pt) : (Op.equalIn 10000 71 (.agg (ptC a)) (.agg (ptC b))).run Try.prog w = .ok (ptEq a b) w:=run_equalIn_pt 9996 w a b
theorem pt_eql (w : World) (a b : Pt) : (binOp .eql 71 (ptV a) (ptV b)).run Try.prog w = .ok (.bool (ptEq a b)) w:=by
 have h:=run_equalIn_pt0 w a b
 unfold ptV
 generalize ptC a = x at *
 generalize ptC b = y at *
 exact (run_eql_struct w _ _ _).trans (by rw [h];rfl)
theorem pt_guard (w : World) (op : BinOp) (p q : Operand) (a b : Pt) : (eqGuard op 71 p q (ptV a) (ptV b)).run Try.prog w = .ok () w:=run_eqGuard_agg w op _ p q _ _ guard_pt
def Nrm (p : Pt) : Prop:=∀ k,10 ≤ k → p.sp k = (-1,-1)
theorem Nrm.eq {p q : Pt} (hp : Nrm p) (hq : Nrm q) : ptEq p q = true ↔ p = q:=by
 unfold ptEq
 rw [Bool.and_eq_true,decide_eq_true_iff,same10B_iff]
 constructor
 · rintro ⟨h1,h2⟩
   cases p with
   | mk i s =>
    cases q with
    | mk j r =>
     have h3 : s = r:=by
      funext k
      by_cases hk : k < 10
      · exact h2 k hk
      · exact (hp k (by omega)).trans (hq k (by omega)).symm
     have h4 : i = j:=h1
     rw [h3,h4]
 · rintro rfl
   exact ⟨rfl,fun _ _ => rfl⟩
theorem Nrm.ne {p q : Pt} (hp : Nrm p) (hq : Nrm q) : ptEq p q = false ↔ p ≠ q:=by
 rw [← Bool.not_eq_true]
 exact not_congr (hp.eq hq)
section
variable {ns : List Nod} {t : List UInt8} {g : Int} {a : Nat}
theorem WOK.nrm (hr : Rt ns g) {x : Wy} (h : WOK ns t g a x) : Nrm x.2:=fun k hk => by
 rcases h.lies k with h1 | ⟨⟨_,h1⟩,_⟩
 · exact h1
 · have:=hr.2.1
   omega
theorem WOK.way (hr : Rt ns g) {l : List Tsk} {p q : Pt} (h : Way ns t l p q) : WOK ns t g a (l,p) → WOK ns t g a ([],q):=by
 induction h with
 | done => exact id
 | step h1 _ ih => exact fun hw => ih (hw.next hr _ (List.mem_map.2 ⟨_,(nexts_mem (hr.kind _)).2 h1,rfl⟩))
def POK (ns : List Nod) (t : List UInt8) (g : Int) (a : Nat) (p : Pt) : Prop:=WOK ns t g a ([],p)
theorem POK.node {p : Pt} (h : POK ns t g a p) {n : Int} (h0 : 0 ≤ n) (h1 : n < ns.length) : WOK ns t g a ([.node n],p):=⟨h.lo,h.hi,h.lies,fun tk htk => by
 rw [List.mem_singleton] at htk
 subst htk
 exact ⟨h0,h1⟩⟩
theorem POK.rel (hr : Rt ns g) {p q : Pt} (h : POK ns t g a p) {n : Int} (h0 : 0 ≤ n) (h1 : n < ns.length) (hq : Rel ns t (.node n) p q) : POK ns t g a q:=WOK.way hr (way_iff.2 hq) (h.node h0 h1)
theorem POK.nrm (hr : Rt ns g) {p : Pt} (h : POK ns t g a p) : Nrm p:=WOK.nrm hr h
end
structure Bnd (ns : List Nod) (t : List UInt8) (F : Int → Pt → Prop) : Prop where
 cat : ∀ {n : Int} {p : Pt},(ndA ns n).kind = 2 → F n p → F (ndA ns n).a p ∧ ∀ q,Rel ns t (.node (ndA ns n).a) p q → F (ndA ns n).b q
 alt : ∀ {n : Int} {p : Pt},(ndA ns n).kind = 3 → F n p → F (ndA ns n).a p ∧ F (ndA ns n).b p
 grp : ∀ {n : Int} {p : Pt},(ndA ns n).kind = 5 → F n p → F (ndA ns n).a p
 rep : ∀ {n : Int} {p : Pt},(ndA ns n).kind = 4 → F n p → ∀ (k : Nat) (q : Pt),It ns t n p k q → (ndA ns n).hi = -1 ∨ (k : Int) < (ndA ns n).hi → F (ndA ns n).a q
 few : ∀ {n : Int} {p : Pt},F n p → ∀ l : List Pt,l.Nodup → (∀ q ∈ l,Rel ns t (.node n) p q) → l.length ≤ 500000000000
 fewI : ∀ {n : Int} {p : Pt},(ndA ns n).kind = 4 → F n p → ∀ (k : Nat) (l : List Pt),l.Nodup → (∀ q ∈ l,It ns t n p k q) → l.length ≤ 500000000000
theorem Bnd.rch {ns : List Nod} {t : List UInt8} {F : Int → Pt → Prop} (h : Bnd ns t F) {n : Int} {p : Pt} (hf : F n p) {l : List Pt} (hl : Rch ns t n p l) : l.length ≤ 500000000000:=h.few hf l hl.1 fun q hq => (hl.2 q).1 hq
def CostF (ns : List Nod) (t : List UInt8) (D : Nat) (n : Int) (p : Pt) : Prop:=∃ c hs,Stk ns t [([.node n],p)] c hs ∧ c ≤ D
theorem cost_bnd {ns : List Nod} {t : List UInt8} {g : Int} {D : Nat} (hr : Rt ns g) (hD : D ≤ 200000) : Bnd ns t (CostF ns t D) where
 cat:=fun hk ⟨c,hs,h,hc⟩ => by
  obtain ⟨⟨ca,hsa,h1,h2⟩,hb⟩:=stk_cat hk h
  refine ⟨⟨ca,hsa,h2,by omega⟩,fun q hq => ?_⟩
  obtain ⟨cb,hsb,h3,h4⟩:=hb q hq
  exact ⟨cb,hsb,h4,by omega⟩
 alt:=fun hk ⟨c,hs,h,hc⟩ => by
  obtain ⟨⟨ca,hsa,h1,h2⟩,cb,hsb,h3,h4⟩:=stk_alt hk h
  exact ⟨⟨ca,hsa,h2,by omega⟩,cb,hsb,h4,by omega⟩
 grp:=fun hk ⟨c,hs,h,hc⟩ => by
  obtain ⟨ca,hsa,h1,h2⟩:=stk_grp hk h
  exact ⟨ca,hsa,h2,by omega⟩
 rep:=fun hk ⟨c,hs,h,hc⟩ k q hq hh => by
  obtain ⟨c',ks,h1,h2⟩:=(It.cost hr.kind hk h k).2 q hq hh
  exact ⟨c',ks,h2,by omega⟩
 few:=fun ⟨c,hs,h,hc⟩ l hn hl => Nat.le_trans (some_len hr hn hl h) (by omega)
 fewI:=fun hk ⟨c,hs,h,hc⟩ k l hn hl => Nat.le_trans ((It.cost hr.kind hk h k).1 l hn hl) (by omega)
end Go.Proofs.Ytbdfhmefjfaofaa
