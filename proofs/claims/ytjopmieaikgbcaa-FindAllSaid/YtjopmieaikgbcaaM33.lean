/- Contracts and plain facts: M33. -/
import Derived.Test.YtjopmieaikgbcaaM32
set_option linter.unusedVariables false
set_option linter.unusedSimpArgs false
set_option maxRecDepth 100000
set_option maxHeartbeats 32000000
namespace Go.Proofs.Ytjopmieaikgbcaa
open Go.RowKit
theorem rBetter_any (a b : Spn) (w : World) : Calls Try.prog 27 #[hitV a,hitV b] w fun e w' => e = .returned (.bool (bet a b)) ∧ Below w.heap.size w w':=by
 have hA:=lhi ((held_new w 31 (hitC a)).alloc (.cells (hitC b) 31))
 have hB:=lhi (held_new2 w (.cells (hitC a) 31) 31 (hitC b))
 have hb0:=lhi (((Below.refl w.heap.size w).alloc (nlr _) (.cells (hitC a) 31)).alloc (by simp) (.cells (hitC b) 31))
 have hsz : ((w.alloc (.cells (hitC a) 31)).alloc (.cells (hitC b) 31)).heap.size = w.heap.size + 2:=by simp
 have ⟨a00,a01⟩:=held_from hA.out (k:=0) (by decide)
 have ⟨b00,b01⟩:=held_from hB.out (k:=0) (by decide)
 show Calls Try.prog 27 #[.agg (hitC a),.agg (hitC b)] w _
 have hgen:=lhi (fun wr (hb : Below (w.heap.size + 2) ((w.alloc (.cells (hitC a) 31)).alloc (.cells (hitC b) 31)) wr) k (hk : k < 10) => And.intro (held_from (hA.out.below hb (by omega)) hk) (held_from (hB.out.below hb (by omega)) hk))
 have hE:=span_eql
 have hEG:=span_guard
 unfold spnV at hE hEG
 clear hA hB
 generalize hca : hitC a = ca at *
 generalize hcb : hitC b = cb at *
 have hb00:=lhi (Below.refl (w.heap.size + 2) ((w.alloc (.cells ca 31)).alloc (.cells cb 31)))
 by_cases e0 : (a 0).2 = (b 0).2
 · have d0 : ((a 0).2 != (b 0).2) = false:=by rw [bne_eq_false_iff_eq];exact e0
   have hbet : bet a b = betG a b 9 1:=by unfold bet;rw [if_neg (by simpa using e0)]
   rw [hbet]
   replace e0:=lhi e0
   clear hbet
   generalize hr : betG a b 9 1 = r
   replace hr:=lhi hr
   go_enter Try.func27,Try.ntmps27
   go_wp2
   generalize ((w.alloc (.cells ca 31)).alloc (.cells cb 31)) = w2 at *
   go_loopw [5] (fun i wr => ∃ k : Nat,1 ≤ k ∧ k ≤ 10 ∧ i = .int .i64 (k : Int) ∧ Hid (∀ j,1 ≤ j → j < k → a j = b j) ∧ Hid (Below (w.heap.size + 2) w2 wr)) (fun i _ => 10 - (intOf i).toNat)
   case atStart => exact ⟨1,by decide,by decide,rfl,lhi fun j h1 h2 => absurd h2 (by omega),hb00⟩
   case round =>
    obtain ⟨k,hk1,hk,rfl,hall,hbr⟩:=hrel
    by_cases hlt : k < 10
    · have ⟨⟨p0,p1⟩,q0,q1⟩:=hgen.out wr hbr.out k hlt
      have hEk:=fun w => hE w (a k) (b k)
      have hEGk:=fun w op p q => hEG w op p q (a k) (b k)
      have hAt:=lhi (fun (hne : a k ≠ b k) => betG_at 9 1 k hk1 (by omega) hall.out hne)
      have hNx:=lhi (fun (he : a k = b k) j (j1 : 1 ≤ j) (j2 : j < k + 1) => show a j = b j by
       rcases Nat.lt_or_ge j k with h | h
       · exact hall.out j j1 h
       · obtain rfl : j = k:=by omega
         exact he)
      have k0 : (0 : Int) ≤ (k : Int):=by omega
      have k10 : (k : Int) < 10:=by omega
      have hsr : w.heap.size + 2 ≤ wr.heap.size:=by have:=hbr.out.size;omega
      have hgen2:=lhi (fun w3 (hb : Below (w.heap.size + 2) w2 w3) => hgen.out w3 hb k hlt)
      clear hE hEG hgen hall a00 a01 b00 b01 d0
      have hbf2:=lhi (fun w3 (hb : Below (w.heap.size + 2) w2 w3) => show Below w.heap.size w w3 from hb0.out.trans (hb.mono (by omega)))
      have hX3:=lhi (show Held (wr.alloc (.cells #[.int .i64 (a k).1,.int .i64 (a k).2] 28)) wr.heap.size 28 #[.int .i64 (a k).1,.int .i64 (a k).2] from held_new wr 28 _)
      have hB3:=lhi (hbr.out.alloc (by omega) (.cells #[.int .i64 (a k).1,.int .i64 (a k).2] 28))
      have hs3:=lhi (show (wr.alloc (.cells #[.int .i64 (a k).1,.int .i64 (a k).2] 28)).heap.size = wr.heap.size + 1 by simp)
      have ⟨⟨p03,p13⟩,q03,q13⟩:=hgen2.out _ hB3.out
      go_upto_region 7 with fail
      generalize (wr.alloc (.cells #[.int .i64 (a k).1,.int .i64 (a k).2] 28)) = w3 at *
      clear p0 p1 q0 q1 hgen2
      generalize wr.heap.size = H at *
      have hY4:=lhi (show Held (w3.alloc (.cells #[.int .i64 (b k).1,.int .i64 (b k).2] 28)) w3.heap.size 28 #[.int .i64 (b k).1,.int .i64 (b k).2] from held_new w3 28 _)
      have hX4:=lhi (hX3.out.alloc (.cells #[.int .i64 (b k).1,.int .i64 (b k).2] 28))
      have hB4:=lhi (hB3.out.alloc (by have:=hs3.out;omega) (.cells #[.int .i64 (b k).1,.int .i64 (b k).2] 28))
      have ⟨x0,x1⟩:=held2 hX4.out
      have ⟨y0,y1⟩:=held2 hY4.out
      have hF:=lhi (hbf2.out _ hB4.out)
      go_upto_region 8 with fail
      generalize (w3.alloc (.cells #[.int .i64 (b k).1,.int .i64 (b k).2] 28)) = w4 at *
      generalize w3.heap.size = K at *
      clear p03 p13 q03 q13 hX3 hB3 hs3 hbr hbf2
      replace hsz:=lhi hsz
      replace hsr:=lhi hsr
      by_cases he : a k = b k
      · have dk : decide (a k = b k) = true:=decide_eq_true he
        rw [dk] at hEk
        have hNx2:=lhi (hNx.out he)
        clear hAt hNx dk
        replace he:=lhi he
        go_wp2
        go_roundw
        case rel => exact ⟨k + 1,by omega,by omega,by go_num,hNx2,hB4⟩
        case measure => simp [intOf];omega
      · have dk : decide (a k = b k) = false:=decide_eq_false he
        rw [dk] at hEk
        have hA2:=lhi ((hAt.out he).symm.trans hr.out)
        unfold betS at hA2
        clear hAt hNx dk hr
        generalize (a k).1 = u1 at *
        generalize (a k).2 = u2 at *
        generalize (b k).1 = v1 at *
        generalize (b k).2 = v2 at *
        replace he:=lhi he
        by_cases h1 : u1 < 0
        · rw [if_pos h1] at hA2
          have d1 : decide (u1 < 0) = true:=decide_eq_true h1
          go_wp2
          go_ret
          exact ⟨by rw [← hA2.out];rfl,hF.out⟩
        · rw [if_neg h1] at hA2
          have d1 : decide (u1 < 0) = false:=decide_eq_false h1
          by_cases h2 : v1 < 0
          · rw [if_pos h2] at hA2
            have d2 : decide (v1 < 0) = true:=decide_eq_true h2
            go_wp2
            go_ret
            exact ⟨by rw [← hA2.out];rfl,hF.out⟩
          · rw [if_neg h2] at hA2
            have d2 : decide (v1 < 0) = false:=decide_eq_false h2
            by_cases h3 : u1 = v1
            · rw [if_neg (fun hc => hc h3)] at hA2
              have d3 : (u1 != v1) = false:=by rw [bne_eq_false_iff_eq];exact h3
              replace h3:=lhi h3
              go_wp2
              go_ret
              exact ⟨by rw [← hA2.out];rfl,hF.out⟩
            · rw [if_pos h3] at hA2
              have d3 : (u1 != v1) = true:=by rw [bne_iff_ne];exact h3
              replace h3:=lhi h3
              go_wp2
              go_ret
              exact ⟨by rw [← hA2.out];rfl,hF.out⟩
    · obtain rfl : k = 10:=by omega
      have hz:=lhi (betG_all (a:=a) (b:=b) 9 1 fun j j1 j2 => hall.out j j1 (by omega))
      have hbf:=lhi (show Below w.heap.size w wr from hb0.out.trans (hbr.out.mono (by omega)))
      clear hE hEG hgen hall a00 a01 b00 b01 d0
      go_wp2
      go_ret
      exact ⟨ret_bool (hz.out.symm.trans hr.out),hbf.out⟩
 · have d0 : ((a 0).2 != (b 0).2) = true:=by rw [bne_iff_ne];exact e0
   have hbet : bet a b = decide ((b 0).2 < (a 0).2):=by unfold bet;rw [if_pos (by simpa using e0)]
   rw [hbet]
   replace e0:=lhi e0
   clear hbet hE hEG hgen
   go_enter Try.func27,Try.ntmps27
   go_wp2
   go_ret
   exact ⟨rfl,hb0.out⟩
def tskL : Tsk → List Value
 | .node n => [.int .i64 0,.int .i64 n,.int .i64 0,.int .i64 0]
 | .gend g p => [.int .i64 1,.int .i64 g,.int .i64 0,.int .i64 (p : Int)]
 | .times n k p => [.int .i64 2,.int .i64 n,.int .i64 k,.int .i64 (p : Int)]
def rowL (l : List Tsk) : List Value:=l.flatMap tskL
theorem tskL_len (tk : Tsk) : (tskL tk).length = 4:=by cases tk <;> rfl
theorem rowL_len (l : List Tsk) : (rowL l).length = l.length * 4:=by
 induction l with
 | nil => rfl
 | cons x r ih => unfold rowL at ih ⊢;rw [List.flatMap_cons,lla,ih,tskL_len,List.length_cons];omega
theorem rowL_app (a b : List Tsk) : rowL (a ++ b) = rowL a ++ rowL b:=by simp [rowL]
theorem rowL_cons (x : Tsk) (l : List Tsk) : rowL (x :: l) = tskL x ++ rowL l:=by simp [rowL]
theorem rowL_one (l : List Tsk) : ∀ u ∈ rowL l,u.oneCell' = true:=fun u hu => by
 obtain ⟨x,_,hx⟩:=List.mem_flatMap.1 hu
 cases x <;> simp [tskL] at hx <;> rcases hx with rfl | rfl | rfl | rfl <;> rfl
theorem add_off (b o k : Nat) : (Addr.add ⟨b,o,none⟩ k : Addr) = ⟨b,o + k,none⟩:=by unfold Addr.add;split <;> simp_all
def Trow (w : World) (F : Nat) (A : Option Addr) (l : List Tsk) : Prop:=∀ j u,(rowL l)[j]? = some u → ∃ b o,A = some ⟨b,o,none⟩ ∧ F < b ∧ b < w.heap.size ∧ w.cell? ⟨b,o + j,none⟩ = some u
theorem Trow.src {w : World} {F : Nat} {A : Option Addr} {l : List Tsk} (h : Trow w F A l) : Src w A (rowL l):=fun j u hj => by
 obtain ⟨b,o,h1,_,_,h2⟩:=h j u hj
 exact ⟨_,h1,by rw [add_off];exact h2⟩
theorem Trow.keep {w w' : World} {F : Nat} {A : Option Addr} {l : List Tsk} (h : Trow w F A l) (hg : w.grownBy w' (some F)) : Trow w' F A l:=fun j u hj => by
 obtain ⟨b,o,h1,h2,h3,h4⟩:=h j u hj
 refine ⟨b,o,h1,h2,nll h3 hg.size,?_⟩
 rw [World.grownBy.cell_far hg _ (show b < w.heap.size from h3) (by intro e;have : b = F:=Option.some.inj e;omega)]
 exact h4
theorem Trow.below {w w' : World} {F : Nat} {A : Option Addr} {l : List Tsk} (h : Trow w F A l) (hb : Below w.heap.size w w') : Trow w' F A l:=h.keep (grown_of hb _)
theorem Trow.nil (w : World) (F : Nat) (A : Option Addr) : Trow w F A []:=fun j u hj => by simp [rowL] at hj
theorem own_trow {w : World} {F base : Nat} {e : TypeId} {v : Value} {n : Nat} {l : List Tsk} (h : w.ownsRow base e 4 v n (rowL l)) (hF : F < base) :
    ∃ A cap,v = .slice A n cap ∧ n = l.length ∧ n ≤ cap ∧ cap ≤ maxLen ∧ Trow w F A l:=by
 obtain ⟨hl,⟨rfl,rfl⟩ | ⟨g,cap,cur,rfl,_,hh,hnc,hcm,hsz,htake⟩⟩:=id h
 · have : l = []:=by rw [rowL_len] at hl;exact List.length_eq_zero_iff.1 (by omega)
   subst this
   exact ⟨none,0,rfl,rfl,nlr _,by simp [maxLen],Trow.nil _ _ _⟩
 · refine ⟨some ⟨g,0,none⟩,cap,rfl,by rw [rowL_len] at hl;omega,hnc,hcm,?_⟩
   intro j u hj
   have hlt:=h.lt g rfl
   refine ⟨_,_,rfl,by show F < g;omega,hlt.2,?_⟩
   have hj2 : j < (rowL l).length:=(List.getElem?_eq_some_iff.1 hj).1
   rw [Nat.zero_add,h.cellAt j (by rw [hl] at hj2;exact hj2)]
   exact hj
theorem task_info : (Try.prog.info? 66).map (fun i => (i.size,i.bytes)) = some (4,32):=by kernel_rfl
theorem task_zero : (Try.prog.info? 66).map (·.zero) = some (some (.agg #[.int .i64 0,.int .i64 0,.int .i64 0,.int .i64 0])):=by kernel_rfl
theorem rrow_any (w : World) (F : Nat) (hF : F < w.heap.size) (A1 : Option Addr) (n1 c1 : Nat) (l : List Tsk) (hn1 : n1 = l.length) (hc1 : n1 ≤ c1) (h1 : Trow w F A1 l) (A2 : Option Addr) (n2 c2 : Nat) (ah : List Tsk) (hn2 : n2 = ah.length) (hc2 : n2 ≤ c2) (h2 : Trow w F A2 ah) (hm : n1 + n2 ≤ 1000000) :
    Calls Try.prog 36 #[.slice A1 n1 c1,.slice A2 n2 c2] w fun e w' => (∃ A n c,e = .returned (.slice A n c) ∧ n = (ah ++ l).length ∧ n ≤ c ∧ c ≤ maxLen ∧ Trow w' F A (ah ++ l)) ∧ Below w.heap.size w w':=by
 obtain ⟨i0,hi,hi12⟩:=Option.map_eq_some_iff.1 task_info
 obtain ⟨i0',hi',hz0⟩:=Option.map_eq_some_iff.1 task_zero
 obtain rfl : i0 = i0':=Option.some.inj (hi.symm.trans hi')
 have hI1:=lhi (congrArg Prod.fst hi12)
 have hI2:=lhi (congrArg Prod.snd hi12)
 clear hi12 hi'
 have hown0:=lhi (show (w.alloc (.cells #[] 66)).ownsRow w.heap.size 66 4 (.slice (some ⟨w.heap.size,0,none⟩) 0 0) 0 (rowL []) from World.ownsRow_lit (e:=66) (size:=4) w #[] 0 (nlr _) (by decide) rfl)
 have hb1:=lhi ((Below.refl w.heap.size w).alloc (nlr _) (.cells #[] 66))
 have hs2:=lhi (h2.below hb1.out).src
 have hl1:=lhi (show (rowL l).length = n1 * 4 by rw [rowL_len,hn1])
 have hl2:=lhi (show (rowL ah).length = n2 * 4 by rw [rowL_len,hn2])
 have hh1:=lhi h1
 have hfin:=lhi (show n2 + n1 = (ah ++ l).length by simp;omega)
 have hsz:=lhi (show n2 + n1 ≤ 1000000 by omega)
 have hF0:=lhi hF
 clear h1 h2 hn1 hn2 hm hF hc1 hc2
 go_enter Try.func36,Try.ntmps36
 go_wp2_with (first
  | (have _h:=hown2;at_builtin;refine wpList_append_at rfl _ _ 67 rfl w.heap.size 66 i0 (.agg #[.int .i64 0,.int .i64 0,.int .i64 0,.int .i64 0]) 4 32 Try.underlying67 hi hz0 hI1.out hI2.out rfl (by decide) v2 (0 + n2) (rowL [] ++ rowL ah) rfl hown2.out A1 n1 c1 (rowL l) rfl hl1.out (hh1.out.below hb2.out).src (rowL_one l) (by have:=hsz.out;unfold maxLen;omega) (by have:=hsz.out;omega) hb2.out.size ?_;intro v3 w3 hown3 hg3 _;have hb3:=lhi (below_append hb2.out hown2.out hb2.out.size hg3);replace hown3:=lhi hown3)
  | (at_builtin;refine wpList_append_at rfl _ _ 67 rfl w.heap.size 66 i0 (.agg #[.int .i64 0,.int .i64 0,.int .i64 0,.int .i64 0]) 4 32 Try.underlying67 hi hz0 hI1.out hI2.out rfl (by decide) _ 0 (rowL []) rfl hown0.out A2 n2 c2 (rowL ah) rfl hl2.out hs2.out (rowL_one ah) (by have:=hsz.out;unfold maxLen;omega) (by have:=hsz.out;omega) hb1.out.size ?_;intro v2 w2 hown2 hg2 _;have hb2:=lhi (below_append hb1.out hown0.out hb1.out.size hg2);replace hown2:=lhi hown2))
 go_ret
 have ho:=hown3.out
 rw [show rowL [] ++ rowL ah ++ rowL l = rowL (ah ++ l) by rw [rowL_app];rfl] at ho
 obtain ⟨A,cap,rfl,e1,e2,e3,e4⟩:=own_trow ho hF0.out
 exact ⟨⟨A,_,cap,rfl,e1.trans lla,e2,e3,e4⟩,hb3.out⟩
def fndL (f : Fnd) (a : Nat) (M : Int) : List Value:=.bool f.best.isSome :: (hitL (ansS f.best) ++ [.int .i64 f.cost,.int .i64 M,.int .i64 (a : Int)])
def fndC (f : Fnd) (a : Nat) (M : Int) : Array Value:=(fndL f a M).toArray
structure Fst (w : World) (F B : Nat) (An : Option Addr) (nn cn : Nat) (At : Option Addr) (nt ct : Nat) (ns : List Nod) (t : List UInt8) (g : Int) (a : Nat) (M : Int) (f : Fnd) : Prop where
 held : Held w F 62 (fndC f a M)
 thru : Thru w B An nn cn At nt ct ns t g
 base : B ≤ F
 al : a ≤ t.length
 m0 : 0 ≤ M
 m1 : M ≤ 400000
def WayRet (w : World) (F : Nat) (ns : List Nod) (t : List UInt8) (a : Nat) (M : Int) (s : List Wy) (f : Fnd) (top : Int) (e : Ending) (w' : World) : Prop :=
 e = .returned (.tuple #[]) ∧ ∃ f',Held w' F 62 (fndC f' a M) ∧ w.grownBy w' (some F) ∧ Run ns t a M s f f' ∧ f.cost ≤ f'.cost ∧ f'.cost ≤ top
section
variable {w w' w1 : World} {F B : Nat} {An : Option Addr} {nn cn : Nat} {At : Option Addr} {nt ct : Nat} {ns : List Nod} {t : List UInt8} {g : Int} {a : Nat} {M : Int} {f f' f1 : Fnd}
theorem grown_low (hg : w.grownBy w' (some F)) (h1 : B ≤ F) (h2 : B ≤ w.heap.size) : Below B w w':=(Below.refl B w).grown hg h2 (fun k e => by cases e;exact h1)
theorem Fst.turned (h : Fst w F B An nn cn At nt ct ns t g a M f) (hg : w.grownBy w' (some F)) (hh : Held w' F 62 (fndC f' a M)) : Fst w' F B An nn cn At nt ct ns t g a M f' :=
 ⟨hh,h.thru.below (grown_low hg h.base h.thru.base),h.base,h.al,h.m0,h.m1⟩
theorem Fst.keep (h : Fst w F B An nn cn At nt ct ns t g a M f) (hb : Below w.heap.size w w') : Fst w' F B An nn cn At nt ct ns t g a M f:=h.turned (grown_of hb _) (h.held.keep hb)
theorem Fst.spent (h : Fst w F B An nn cn At nt ct ns t g a M f) (c : Int) : Fst (w.setCell ⟨F,21,none⟩ (.int .i64 c)) F B An nn cn At nt ct ns t g a M ⟨f.best,c⟩:=h.turned (grown_cell _ _ _ _) (h.held.put 21 _)
theorem Run.next {tk : Tsk} {r : List Tsk} {p : Pt} {c : Int} (hc : c = f.cost + 1) (h : Run ns t a M ((nexts ns t tk p).map (ahead r)) ⟨f.best,c⟩ f') : Run ns t a M [(tk :: r,p)] f f':=by
 subst hc
 cases h with
 | @fin c hs h hc =>
  have:=Run.fin (a:=a) (M:=M) (f:=f) (Stk.step tk r p (s:=[]) (by rw [List.append_nil];exact h)) (by simp at hc ⊢;omega)
  rw [show f.cost + ((c + 1 : Nat) : Int) = f.cost + 1 + (c : Int) by omega] at this
  exact this
 | over h hc => exact .over (Over.step (by rw [List.append_nil,show M - f.cost - 1 = M - (f.cost + 1) by omega];exact h)) hc
theorem Run.none_ (h : f.cost ≤ M) : Run ns t a M [] f f:=by
 have:=Run.fin (a:=a) (M:=M) (f:=f) (Stk.nil (ns:=ns) (t:=t)) (by simpa using h)
 cases hb : f.best <;> cases f <;> simpa [bestF,hb] using this
theorem Run.two {x y : Wy} (h : Run ns t a M [x] f f1) (j : Run ns t a M [y] f1 f') (hm : f1.cost ≤ f'.cost) : Run ns t a M [x,y] f f':=by
 cases h with
 | @fin c hs h hc =>
  cases j with
  | @fin d ks j jc =>
   have:=Run.fin (a:=a) (M:=M) (f:=f) (Stk.app h j) (by simp at hc jc ⊢;omega)
   rw [List.map_append,bestF_app,show f.cost + ((c + d : Nat) : Int) = f.cost + (c : Int) + d by omega] at this
   exact this
  | over j jc => exact .over (Over.right (a:=[x]) h (by rw [show M - f.cost - (c : Int) = M - (f.cost + c) by omega];exact j)) jc
 | over h hc => exact .over (Over.left (a:=[x]) h) (by omega)
theorem Run.leaf {p : Pt} : Run ns t a M [([],p)] f ⟨bestF f.best [hitS a p],f.cost⟩:=by
 by_cases h : f.cost ≤ M
 · exact Run.hit h
 · exact .over (fun c hs _ => by omega) (by show M < f.cost;omega)
end
def WaysOK (F B : Nat) (An : Option Addr) (nn cn : Nat) (At : Option Addr) (nt ct : Nat) (ns : List Nod) (t : List UInt8) (g : Int) (a : Nat) (M : Int) (D : Nat) : Prop :=
 ∀ (w : World) (f : Fnd) (A : Option Addr) (n c : Nat) (l : List Tsk) (p : Pt),Fst w F B An nn cn At nt ct ns t g a M f → WOK ns t g a (l,p) → Trow w F A l → n = l.length → n ≤ c → c ≤ maxLen → (n : Int) ≤ f.cost + 1 → (M + 1 - f.cost).toNat ≤ D → 0 ≤ f.cost → f.cost ≤ 2 * M + 1 →
  Calls Try.prog 24 #[.pointer (some ⟨F,0,none⟩),.agg #[.slice An nn cn,.int .i64 g],.slice At nt ct,.int .i64 (p.i : Int),hitV p.sp,.slice A n c] w (WayRet w F ns t a M [(l,p)] f (max (f.cost + 1) (2 * M + 1 - f.cost)))
def NodeOK (F B : Nat) (An : Option Addr) (nn cn : Nat) (At : Option Addr) (nt ct : Nat) (ns : List Nod) (t : List UInt8) (g : Int) (a : Nat) (M : Int) (D : Nat) : Prop :=
 ∀ (w : World) (f : Fnd) (A : Option Addr) (n c : Nat) (l : List Tsk) (p : Pt) (m : Nat),Fst w F B An nn cn At nt ct ns t g a M f → WOK ns t g a (.node (m : Int) :: l,p) → (ndA ns (m : Int)).kind ≠ 4 → Trow w F A l → n = l.length → n ≤ c → c ≤ maxLen → (n : Int) + 1 ≤ f.cost → (M + 1 - f.cost).toNat ≤ D → 1 ≤ f.cost → f.cost ≤ M →
  Calls Try.prog 37 #[.pointer (some ⟨F,0,none⟩),.agg #[.slice An nn cn,.int .i64 g],.slice At nt ct,.int .i64 (p.i : Int),hitV p.sp,nodV (ndA ns (m : Int)),.slice A n c] w (WayRet w F ns t a M ((nexts ns t (.node (m : Int)) p).map (ahead l)) f (2 * M + 2 - f.cost))
def SNd (H H1 H2 : Nat) (RE CS CN : Array Value) (w' : World) : Prop:=Held w' H 24 RE ∧ Held w' H1 29 CS ∧ Held w' H2 54 CN
theorem SNd.below {H H1 H2 : Nat} {RE CS CN : Array Value} {w1 w2 : World} (h : SNd H H1 H2 RE CS CN w1) (hb : Below w1.heap.size w1 w2) : SNd H H1 H2 RE CS CN w2:=⟨h.1.keep hb,h.2.1.keep hb,h.2.2.keep hb⟩
theorem snd_new (w : World) (RE CS CN : Array Value) : SNd w.heap.size (w.heap.size + 1) (w.heap.size + 1 + 1) RE CS CN (((w.alloc (.cells RE 24)).alloc (.cells CS 29)).alloc (.cells CN 54)) :=
 ⟨((held_new w _ RE).alloc _).alloc _,(held_new2 w _ _ CS).alloc _,by have:=held_new ((w.alloc (.cells RE 24)).alloc (.cells CS 29)) 54 CN;simpa using this⟩
theorem nod_at (N : Nod) : (nodC N)[0]? = some (.int .i64 N.kind) ∧ (nodC N)[1]? = some (.int .i64 N.a) ∧ (nodC N)[2]? = some (.int .i64 N.b) ∧ (nodC N)[3]? = some (.int .i64 N.lo) ∧ (nodC N)[4]? = some (.int .i64 N.hi) ∧ (nodC N)[5]? = some (.int .i64 N.grp):=⟨rfl,rfl,rfl,rfl,rfl,rfl⟩
section
variable {w w' w1 : World} {F B : Nat} {An : Option Addr} {nn cn : Nat} {At : Option Addr} {nt ct : Nat} {ns : List Nod} {t : List UInt8} {g : Int} {a : Nat} {M : Int} {f f' f1 : Fnd} {D : Nat} {A : Option Addr} {n c : Nat} {l : List Tsk} {p : Pt}
theorem rnode_0 (hW : WaysOK F B An nn cn At nt ct ns t g a M D) (m : Nat) (h : Fst w F B An nn cn At nt ct ns t g a M f) (hwk : WOK ns t g a (.node (m : Int) :: l,p)) (hk : (ndA ns (m : Int)).kind = 0) (hT : Trow w F A l) (hn : n = l.length) (hnc : n ≤ c) (hcm : c ≤ maxLen) (hn1 : (n : Int) + 1 ≤ f.cost) (hD : (M + 1 - f.cost).toNat ≤ D) (hf1 : 1 ≤ f.cost) (hM : f.cost ≤ M) :
    Calls Try.prog 37 #[.pointer (some ⟨F,0,none⟩),.agg #[.slice An nn cn,.int .i64 g],.slice At nt ct,.int .i64 (p.i : Int),hitV p.sp,nodV (ndA ns (m : Int)),.slice A n c] w (WayRet w F ns t a M ((nexts ns t (.node (m : Int)) p).map (ahead l)) f (2 * M + 2 - f.cost)):=by
 show Calls Try.prog 37 #[.pointer (some ⟨F,0,none⟩),.agg #[.slice An nn cn,.int .i64 g],.slice At nt ct,.int .i64 (p.i : Int),.agg (hitC p.sp),.agg (nodC (ndA ns (m : Int))),.slice A n c] w _
 obtain ⟨N0,N1,N2,N3,N4,N5⟩:=nod_at (ndA ns (m : Int))
 rw [hk] at N0
 have hok:=lhi hwk
 have hbd:=lhi (show 1 ≤ f.cost ∧ f.cost ≤ M ∧ M ≤ 400000 ∧ (n : Int) + 1 ≤ f.cost ∧ (M + 1 - f.cost).toNat ≤ D ∧ n = l.length ∧ n ≤ c ∧ c ≤ maxLen from ⟨hf1,hM,h.m1,hn1,hD,hn,hnc,hcm⟩)
 have hS2:=lhi (snd_new w #[.slice An nn cn,.int .i64 g] (hitC p.sp) (nodC (ndA ns (m : Int))))
 have hb2:=lhi ((((Below.refl w.heap.size w).alloc (nlr _) (.cells #[.slice An nn cn,.int .i64 g] 24)).alloc (by simp) (.cells (hitC p.sp) 29)).alloc (by simp;omega) (.cells (nodC (ndA ns (m : Int))) 54))
 have h2:=lhi (h.keep hb2.out)
 have hg2:=lhi (grown_of hb2.out (some F))
 have hT2:=lhi (hT.below hb2.out)
 have hCS:=lhi (hitC_size p.sp)
 have hFl:=lhi h.held.lt
 have htx:=lhi (show nt = t.length ∧ nt ≤ 1000000 ∧ p.i ≤ t.length from ⟨h.thru.nt_,h.thru.tl,hwk.hi⟩)
 clear h hT hn hnc hcm hn1 hD hf1 hM hwk
 have hWx:=lhi (show ∀ (w : World) (f : Fnd) (A : Option Addr) (n c : Nat) (l : List Tsk) (p : Pt),Fst w F B An nn cn At nt ct ns t g a M f → WOK ns t g a (l,p) → Trow w F A l → n = l.length → n ≤ c → c ≤ maxLen → (n : Int) ≤ f.cost + 1 → (M + 1 - f.cost).toNat ≤ D → 0 ≤ f.cost → f.cost ≤ 2 * M + 1 → Calls Try.prog 24 #[.pointer (some ⟨F,0,none⟩),.agg #[.slice An nn cn,.int .i64 g],.slice At nt ct,.int .i64 (p.i : Int),.agg (hitC p.sp),.slice A n c] w (WayRet w F ns t a M [(l,p)] f (max (f.cost + 1) (2 * M + 1 - f.cost))) from hW)
 clear hW
 rw [next_empty hk]
 show Calls _ _ _ _ (WayRet w F ns t a M [(l,p)] f (2 * M + 2 - f.cost))
 have hCall:=lhi (fun w' hb => hWx.out w' f A n c l p (h2.out.keep hb) (⟨hok.out.lo,hok.out.hi,hok.out.lies,fun tk htk => hok.out.toks tk (List.mem_cons_of_mem _ htk)⟩) (hT2.out.below hb) hbd.out.2.2.2.2.2.1 hbd.out.2.2.2.2.2.2.1 hbd.out.2.2.2.2.2.2.2 (by have:=hbd.out;omega) hbd.out.2.2.2.2.1 (by have:=hbd.out;omega) (by have:=hbd.out;omega))
 generalize hitC p.sp = CS at *
 generalize nodC (ndA ns (m : Int)) = CN at *
 replace hk:=lhi hk
 clear hWx
 go_enter Try.func37,Try.ntmps37
 go_upto_region 1 with fail
 generalize ((w.alloc (.cells #[.slice An nn cn,.int .i64 g] 24)).alloc (.cells CS 29)).alloc (.cells CN 54) = w2 at *
 clear hb2
 generalize w.heap.size + 1 + 1 = H2 at *
 generalize w.heap.size + 1 = H1 at *
 generalize w.heap.size = H0 at *
 have n0 : w2.cell? ⟨H2,0,none⟩ = some (.int .i64 0):=hS2.out.2.2.at_ N0
 have r0 : w2.cell? ⟨H0,0,none⟩ = some (.slice An nn cn):=hS2.out.1.at_ rfl
 have r1 : w2.cell? ⟨H0,1,none⟩ = some (.int .i64 g):=hS2.out.1.at_ rfl
 clear N0 N1 N2 N3 N4 N5
 go_wp2_with (first
  | (refine wpList_load_row rfl 29 (.tmp 11) rfl H1 rfl 29 _ (0,0) _ hS2.out.2.1 Try.underlying29 rfl (by rw [hCS.out];exact size_ten) ?_)
  | (go_at_call 24;refine (hCall.out _ (Below.refl _ _)).mono ?_;rintro e w4 ⟨rfl,f',q1,q2,q3,q4,q5⟩))
 go_end0
 exact ⟨rfl,f',q1,grown_trans hg2.out q2,q3,q4,by have:=hbd.out;omega⟩
end
end Go.Proofs.Ytjopmieaikgbcaa
