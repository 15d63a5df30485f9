/- Contracts and plain facts: M54. -/
import Derived.Test.YtjopmieaikgbcaaM53
set_option linter.unusedVariables false
set_option linter.unusedSimpArgs false
set_option maxRecDepth 100000
set_option maxHeartbeats 32000000
namespace Go.Proofs.Ytjopmieaikgbcaa
open Go.RowKit
theorem hitsL_at (xs : List Spn) : ∀ k (h : k < xs.length),(hitsL xs)[k * 20]? = some (.int .i64 ((xs[k]'h) 0).1) ∧ (hitsL xs)[k * 20 + 1]? = some (.int .i64 ((xs[k]'h) 0).2):=by
 induction xs with
 | nil => intro k h;exact absurd h (Nat.not_lt_zero k)
 | cons s r ih =>
  intro k h
  have e : hitsL (s :: r) = hitL s ++ hitsL r:=by simp [hitsL]
  have hl:=hitL_len s
  cases k with
  | zero =>
   rw [e,List.getElem?_append_left (by omega),List.getElem?_append_left (by omega)]
   exact ⟨rfl,rfl⟩
  | succ k =>
   have hk:=ih k (Nat.lt_of_succ_lt_succ h)
   rw [e,List.getElem?_append_right (by omega),List.getElem?_append_right (by omega),hl,show (k + 1) * 20 - 20 = k * 20 by omega,show (k + 1) * 20 + 1 - 20 = k * 20 + 1 by omega]
   exact hk
theorem wpList_build_oneP {ops : Array Oper} {rest : List Oper} {o : Oper} {a : Act} {w : World} {Q : Exit → Act → World → Prop} (hgd : o.guard = none) (x : Operand) (ho : o.op = .buildSlice 42 1 #[(0,x)]) (s : Spn) (C : Array Value) (hC : hitC s = C) (hx : a.eval x = .agg C)
    (h : wpList Try.prog ops Q rest (a.put o.dst (.slice (some ⟨w.heap.size,0,none⟩) 1 1)) (w.alloc (.cells C 31))) : wpList Try.prog ops Q (o :: rest) a w:=by
 subst hC
 obtain ⟨i0,hi0,hq0,hq1,hq2⟩:=info_parts hit_infoz
 refine wpList_buildSlice hgd 42 31 1 #[(0,x)] ho (hitC s) i0 _ Try.underlying42 hi0 hq0 (by rw [hq1];decide) (by rw [hq1];decide) ?_ h
 rw [hq1]
 simp only [List.map_toArray,List.map_cons,List.map_nil,hx]
 exact fill_hit s
theorem src_hit (w : World) (C : Array Value) (T : TypeId) : Src (w.alloc (.cells C T)) (some ⟨w.heap.size,0,none⟩) C.toList:=fun j u hj => ⟨_,rfl,new_listF w C T j u hj⟩
theorem ownsRow_slice2 {W : World} {base : Nat} {e : TypeId} {size : Nat} {v : Value} {k : Nat} {xs : List Value} (h : W.ownsRow base e size v k xs) : ∃ A c,v = .slice A k c:=by
 rcases h.2 with ⟨rfl,rfl⟩ | ⟨g,cap,_,rfl,_⟩
 · exact ⟨_,_,rfl⟩
 · exact ⟨_,_,rfl⟩
theorem endL_at {pre : List Spn} {m : Nat} (h : pre.length = m + 1) : endL pre = ((pre[m]'(by omega)) 0).2:=by
 unfold endL
 rw [List.getLast?_eq_getElem?,show pre.length - 1 = m by omega,List.getElem?_eq_getElem (by omega)]
 rfl
theorem first_cases {ns : List Nod} {g : Int} {t : List UInt8} {a f : Nat} {e : Ending} (hok : rightN ns g = true ∧ (0 ≤ (a : Int) ∧ (a : Int) ≤ t.length) ∧ 0 ≤ (f : Int)) (h : FirstP ns g t (a : Int) (f : Int) e) : (Fst12 ns t ((ns.length : Int) - 1) (lastP ns t g) a (f : Int) none ∧ e = .returned (.tuple #[.agg (hitC sp00),.bool false,.int .i64 0,.int .i64 18])) ∨ (∃ left : Nat,Fst12 ns t ((ns.length : Int) - 1) (lastP ns t g) a (f : Int) (some (none,(left : Int))) ∧ left ≤ f ∧ e = .returned (.tuple #[.agg (hitC sp00),.bool false,.int .i64 (left : Int),.int .i64 0])) ∨ (∃ (left : Nat) (s : Spn),Fst12 ns t ((ns.length : Int) - 1) (lastP ns t g) a (f : Int) (some (some s,(left : Int))) ∧ left ≤ f ∧ e = .returned (.tuple #[.agg (hitC s),.bool true,.int .i64 (left : Int),.int .i64 0])):=by
 cases h with
 | arg h => exact absurd hok h
 | fuel h hx => exact .inl ⟨hx,rfl⟩
 | @fine h b left hx =>
  have h1:=hx.left (by omega) _ rfl
  obtain ⟨l,rfl⟩:=Int.eq_ofNat_of_zero_le h1.1
  have h2 : (l : Int) ≤ (f : Int):=h1.2
  cases b with
  | none => exact .inr (.inl ⟨l,hx,by omega,rfl⟩)
  | some s => exact .inr (.inr ⟨l,s,hx,by omega,rfl⟩)
def RelL (w : World) (A : Option Addr) (n c : Nat) (ns : List Nod) (t : List UInt8) (g : Int) (f0 : Nat) (vf v va : Value) (wr : World) : Prop :=
 ∃ (pre : List Spn) (a f : Nat),vf = .int .i64 (f : Int) ∧ va = .int .i64 (a : Int) ∧ a ≤ t.length + 1 ∧ f ≤ 400000 ∧ endL pre ≤ (a : Int) ∧ pre.length ≤ a ∧ Hid (∀ r,All12 ns t ((ns.length : Int) - 1) (lastP ns t g) a (endL pre) (f : Int) r → All12 ns t ((ns.length : Int) - 1) (lastP ns t g) 0 (-1) (f0 : Int) (r.map fun x => (pre ++ x.1,x.2))) ∧ wr.ownsRow (w.heap.size + 1) 31 20 v pre.length (hitsL pre) ∧ Held wr w.heap.size 24 #[.slice A n c,.int .i64 g] ∧ Below w.heap.size w wr
theorem RelL.mk {w : World} {A : Option Addr} {n c : Nat} {ns : List Nod} {t : List UInt8} {g : Int} {f0 : Nat} {vf v va : Value} {wr : World} (h : ∃ (pre : List Spn) (a f : Nat),vf = .int .i64 (f : Int) ∧ va = .int .i64 (a : Int) ∧ a ≤ t.length + 1 ∧ f ≤ 400000 ∧ endL pre ≤ (a : Int) ∧ pre.length ≤ a ∧ Hid (∀ r,All12 ns t ((ns.length : Int) - 1) (lastP ns t g) a (endL pre) (f : Int) r → All12 ns t ((ns.length : Int) - 1) (lastP ns t g) 0 (-1) (f0 : Int) (r.map fun x => (pre ++ x.1,x.2))) ∧ wr.ownsRow (w.heap.size + 1) 31 20 v pre.length (hitsL pre) ∧ Held wr w.heap.size 24 #[.slice A n c,.int .i64 g] ∧ Below w.heap.size w wr) : RelL w A n c ns t g f0 vf v va wr:=h
section
variable {w : World} {B : Nat} {A A2 : Option Addr} {n c n2 c2 : Nat} {ns : List Nod} {t : List UInt8} {g : Int}
theorem rAll_any (f0 : Nat) (h : AtIn w B A n c A2 n2 c2 ns t) (hr : rightN ns g = true) (hf : f0 ≤ 400000) :
    Calls Try.prog 18 #[.agg #[.slice A n c,.int .i64 g],.slice A2 n2 c2,.int .i64 (f0 : Int)] w fun e w' => AllQ w ns g t (f0 : Int) e w' ∧ Below w.heap.size w w':=by
 have hok:=lhi (show rightN ns g = true ∧ 0 ≤ (f0 : Int) from ⟨hr,by omega⟩)
 have hb0:=lhi ((Below.refl w.heap.size w).alloc (nlr _) (.cells #[.slice A n c,.int .i64 g] 24))
 have hRe:=lhi (held_new w 24 #[.slice A n c,.int .i64 g])
 have hFi:=lhi (fun w' (hb : Below w.heap.size w w') (a f : Nat) (ha : a ≤ t.length) (hf : f ≤ 400000) => rFirst_any a f (h.below (hb.mono h.base)) hr ha hf (w:=w'))
 have hrt:=right_rt hr
 have hn1 : 1 ≤ ns.length:=by
  have:=hr
  unfold rightN at this
  simp only [Bool.and_eq_true,decide_eq_true_eq] at this
  exact this.1.1.1.1
 have hsp:=lhi (fun (a : Nat) (M left : Int) (s : Spn) (hl : (a : Int) ≤ lastP ns t g) (hx : Told11 ns t ((ns.length : Int) - 1) a M (some (some s,left))) => show (s 0).1 = (a : Int) ∧ (a : Int) ≤ (s 0).2 ∧ (s 0).2 ≤ t.length from by
  have hlb:=least_bounds (ns:=ns) (g:=g)
  have h1:=told_span hrt hn1 (by unfold lastP at hl;omega) hx
  exact ⟨h1.1,h1.2.1,h1.2.2.1⟩)
 have hlst:=lhi (show lastP ns t g ≤ t.length by have hlb:=least_bounds (ns:=ns) (g:=g);unfold lastP;omega)
 have hn2:=lhi h.hn2
 have hl2:=lhi h.hl2
 clear hrt hn1
 replace hr:=lhi hr
 replace hf:=lhi hf
 clear h
 go_enter Try.func18,Try.ntmps18
 go_upto_region 1 with fail
 have hrow0:=lhi (show (w.alloc (.cells #[.slice A n c,.int .i64 g] 24)).ownsRow (w.heap.size + 1) 31 20 (.slice none 0 0) 0 (hitsL []) from World.ownsRow_nil _ _ _ _)
 generalize w.alloc (.cells #[.slice A n c,.int .i64 g] 24) = w2 at *
 go_wp2
 go_loopw [2,9,10] (fun vf v va wr => RelL w A n c ns t g f0 vf v va wr) (fun _ _ va _ => t.length + 1 - (intOf va).toNat)
 case atStart => exact RelL.mk ⟨[],0,f0,rfl,rfl,by omega,hf.out,by rw [endL_nil];decide,nlr _,lhi (fun r h => by rw [endL_nil] at h;cases r <;> simpa using h),hrow0.out,hRe.out,hb0.out⟩
 case round =>
  obtain ⟨pre,a,f,rfl,rfl,ha1,hf1,hea,hpa,hF,hrow,hRr,hBr⟩:=hrel
  obtain ⟨Av,cv,rfl⟩:=ownsRow_slice2 hrow
  have r0 : wr.cell? ⟨w.heap.size,0,none⟩ = some (.slice A n c):=hRr.at_ rfl
  have r1 : wr.cell? ⟨w.heap.size,1,none⟩ = some (.int .i64 g):=hRr.at_ rfl
  have hn2o:=hn2.out
  have hl2o:=hl2.out
  have hRh:=lhi hRr
  have hRow:=lhi hrow
  have hBh:=lhi hBr
  have hnum:=lhi (And.intro ha1 (And.intro hf1 (And.intro hea hpa)))
  clear hRr hrow hBr
  by_cases h1 : a ≤ t.length
  · have e1 : decide ((a : Int) ≤ (n2 : Int)) = true:=decide_eq_true (by omega)
    have e1' : decide (a ≤ n2) = true:=decide_eq_true (by omega)
    have e1'' : a ≤ n2:=by omega
    replace hn2o:=lhi hn2o
    have h1h:=lhi h1
    clear ha1 hf1 hea hpa
    go_upto_region 5 with (first
     | (go_at_call 16;refine (hFi.out wr hBh.out a f h1h.out hnum.out.2.1).mono ?_;rintro e w4 ⟨hP,hb4⟩;have hR4:=lhi (hRh.out.keep hb4);have hB4:=lhi (hBh.out.trans (hb4.mono hBh.out.size));have hw4:=lhi (hRow.out.kept (grown_of hb4 none) (by cases hv : Value.ownBlock (.slice Av pre.length cv) <;> simp));have hpp:=first_cases ⟨hr.out,by have:=h1h.out;omega,by omega⟩ hP;clear hP hb4;have hnull:=lhi (held_new w4 31 #[.int .i64 0,.int .i64 0,.int .i64 0,.int .i64 0,.int .i64 0,.int .i64 0,.int .i64 0,.int .i64 0,.int .i64 0,.int .i64 0,.int .i64 0,.int .i64 0,.int .i64 0,.int .i64 0,.int .i64 0,.int .i64 0,.int .i64 0,.int .i64 0,.int .i64 0,.int .i64 0]);rcases hpp with ⟨hx,rfl⟩ | ⟨left,hx,hlf,rfl⟩ | ⟨left,s,hx,hlf,rfl⟩)
     | (refine wpList_store_row rfl 31 (.tmp 11) (.tmp 26) rfl w4.heap.size (hitC sp00) rfl rfl 31 _ hnull.out (by rw [hitC_size];exact size_hit) rfl (hit_cells _) ?_)
     | (refine wpList_store_row rfl 31 (.tmp 11) (.tmp 26) rfl w4.heap.size (hitC s) rfl rfl 31 _ hnull.out (by rw [hitC_size];exact size_hit) rfl (hit_cells _) ?_))
    · have hR5:=lhi (((hR4.out.alloc (.cells #[.int .i64 0,.int .i64 0,.int .i64 0,.int .i64 0,.int .i64 0,.int .i64 0,.int .i64 0,.int .i64 0,.int .i64 0,.int .i64 0,.int .i64 0,.int .i64 0,.int .i64 0,.int .i64 0,.int .i64 0,.int .i64 0,.int .i64 0,.int .i64 0,.int .i64 0,.int .i64 0] 31)).row_far (g':=w4.heap.size) (by have:=hR4.out.lt;omega) (hitC sp00)))
      have hK5:=lhi (hnull.out.row (hitC sp00))
      have hB5:=lhi (below_row (hB4.out.alloc hB4.out.size (.cells #[.int .i64 0,.int .i64 0,.int .i64 0,.int .i64 0,.int .i64 0,.int .i64 0,.int .i64 0,.int .i64 0,.int .i64 0,.int .i64 0,.int .i64 0,.int .i64 0,.int .i64 0,.int .i64 0,.int .i64 0,.int .i64 0,.int .i64 0,.int .i64 0,.int .i64 0,.int .i64 0] 31)) hB4.out.size (hitC sp00))
      have hw5:=lhi ((hw4.out.alloc (.cells #[.int .i64 0,.int .i64 0,.int .i64 0,.int .i64 0,.int .i64 0,.int .i64 0,.int .i64 0,.int .i64 0,.int .i64 0,.int .i64 0,.int .i64 0,.int .i64 0,.int .i64 0,.int .i64 0,.int .i64 0,.int .i64 0,.int .i64 0,.int .i64 0,.int .i64 0,.int .i64 0] 31)).kept (grown_row (b:=w4.heap.size) (hitC sp00)) (.inr (fun e => by have:=(hw4.out.lt _ e).2;omega)))
      have hKw:=lhi hR4.out.lt
      generalize (w4.alloc (.cells #[.int .i64 0,.int .i64 0,.int .i64 0,.int .i64 0,.int .i64 0,.int .i64 0,.int .i64 0,.int .i64 0,.int .i64 0,.int .i64 0,.int .i64 0,.int .i64 0,.int .i64 0,.int .i64 0,.int .i64 0,.int .i64 0,.int .i64 0,.int .i64 0,.int .i64 0,.int .i64 0] 31)).setRow w4.heap.size (hitC sp00) = w5 at *
      generalize w4.heap.size = KH at *
      clear hnull hR4 hB4 hw4 r0 r1
      have hfin:=lhi (show (fun e => AllQ w ns g t (f0 : Int) e w5) (.returned (.tuple #[.slice none 0 0,.int .i64 0,.int .i64 18])) from .inr (.inl ⟨hok.out,by have:=hF.out _ (hx.all_over rfl (endL pre));simpa using this,rfl⟩))
      replace hx:=lhi hx
      clear hR5 hK5 hw5
      go_wp2
      exact bodyPost_ret (v:=.tuple #[.slice none 0 0,.int .i64 0,.int .i64 18]) ((results_tmp3 rfl _ _ _).trans rfl) rfl ⟨hfin.out,hB5.out⟩
    · have hR5:=lhi (((hR4.out.alloc (.cells #[.int .i64 0,.int .i64 0,.int .i64 0,.int .i64 0,.int .i64 0,.int .i64 0,.int .i64 0,.int .i64 0,.int .i64 0,.int .i64 0,.int .i64 0,.int .i64 0,.int .i64 0,.int .i64 0,.int .i64 0,.int .i64 0,.int .i64 0,.int .i64 0,.int .i64 0,.int .i64 0] 31)).row_far (g':=w4.heap.size) (by have:=hR4.out.lt;omega) (hitC sp00)))
      have hK5:=lhi (hnull.out.row (hitC sp00))
      have hB5:=lhi (below_row (hB4.out.alloc hB4.out.size (.cells #[.int .i64 0,.int .i64 0,.int .i64 0,.int .i64 0,.int .i64 0,.int .i64 0,.int .i64 0,.int .i64 0,.int .i64 0,.int .i64 0,.int .i64 0,.int .i64 0,.int .i64 0,.int .i64 0,.int .i64 0,.int .i64 0,.int .i64 0,.int .i64 0,.int .i64 0,.int .i64 0] 31)) hB4.out.size (hitC sp00))
      have hw5:=lhi ((hw4.out.alloc (.cells #[.int .i64 0,.int .i64 0,.int .i64 0,.int .i64 0,.int .i64 0,.int .i64 0,.int .i64 0,.int .i64 0,.int .i64 0,.int .i64 0,.int .i64 0,.int .i64 0,.int .i64 0,.int .i64 0,.int .i64 0,.int .i64 0,.int .i64 0,.int .i64 0,.int .i64 0,.int .i64 0] 31)).kept (grown_row (b:=w4.heap.size) (hitC sp00)) (.inr (fun e => by have:=(hw4.out.lt _ e).2;omega)))
      have hKw:=lhi hR4.out.lt
      generalize (w4.alloc (.cells #[.int .i64 0,.int .i64 0,.int .i64 0,.int .i64 0,.int .i64 0,.int .i64 0,.int .i64 0,.int .i64 0,.int .i64 0,.int .i64 0,.int .i64 0,.int .i64 0,.int .i64 0,.int .i64 0,.int .i64 0,.int .i64 0,.int .i64 0,.int .i64 0,.int .i64 0,.int .i64 0] 31)).setRow w4.heap.size (hitC sp00) = w5 at *
      generalize w4.heap.size = KH at *
      clear hnull hR4 hB4 hw4 r0 r1
      have hfin:=lhi (show (fun e => AllQ w ns g t (f0 : Int) e w5) (.returned (.tuple #[.slice Av pre.length cv,.int .i64 (left : Int),.int .i64 0])) from .inr (.inr ⟨hok.out,pre,left,_,by have:=hF.out _ (hx.all_none _ rfl (endL pre));simpa using this,rfl,ownsRow_base hw5.out (Nat.le_succ _)⟩))
      replace hx:=lhi hx
      replace hlf:=lhi hlf
      clear hR5 hK5 hw5
      go_wp2
      exact bodyPost_ret (v:=.tuple #[.slice Av pre.length cv,.int .i64 (left : Int),.int .i64 0]) ((results_tmp3 rfl _ _ _).trans rfl) rfl ⟨hfin.out,hB5.out⟩
    · have hR5:=lhi (((hR4.out.alloc (.cells #[.int .i64 0,.int .i64 0,.int .i64 0,.int .i64 0,.int .i64 0,.int .i64 0,.int .i64 0,.int .i64 0,.int .i64 0,.int .i64 0,.int .i64 0,.int .i64 0,.int .i64 0,.int .i64 0,.int .i64 0,.int .i64 0,.int .i64 0,.int .i64 0,.int .i64 0,.int .i64 0] 31)).row_far (g':=w4.heap.size) (by have:=hR4.out.lt;omega) (hitC s)))
      have hK5:=lhi (hnull.out.row (hitC s))
      have hB5:=lhi (below_row (hB4.out.alloc hB4.out.size (.cells #[.int .i64 0,.int .i64 0,.int .i64 0,.int .i64 0,.int .i64 0,.int .i64 0,.int .i64 0,.int .i64 0,.int .i64 0,.int .i64 0,.int .i64 0,.int .i64 0,.int .i64 0,.int .i64 0,.int .i64 0,.int .i64 0,.int .i64 0,.int .i64 0,.int .i64 0,.int .i64 0] 31)) hB4.out.size (hitC s))
      have hw5:=lhi ((hw4.out.alloc (.cells #[.int .i64 0,.int .i64 0,.int .i64 0,.int .i64 0,.int .i64 0,.int .i64 0,.int .i64 0,.int .i64 0,.int .i64 0,.int .i64 0,.int .i64 0,.int .i64 0,.int .i64 0,.int .i64 0,.int .i64 0,.int .i64 0,.int .i64 0,.int .i64 0,.int .i64 0,.int .i64 0] 31)).kept (grown_row (b:=w4.heap.size) (hitC s)) (.inr (fun e => by have:=(hw4.out.lt _ e).2;omega)))
      have hKw:=lhi hR4.out.lt
      generalize (w4.alloc (.cells #[.int .i64 0,.int .i64 0,.int .i64 0,.int .i64 0,.int .i64 0,.int .i64 0,.int .i64 0,.int .i64 0,.int .i64 0,.int .i64 0,.int .i64 0,.int .i64 0,.int .i64 0,.int .i64 0,.int .i64 0,.int .i64 0,.int .i64 0,.int .i64 0,.int .i64 0,.int .i64 0] 31)).setRow w4.heap.size (hitC s) = w5 at *
      generalize w4.heap.size = KH at *
      clear hnull hR4 hB4 hw4 r0 r1
      obtain ⟨a',M',ha',hl',hxx,hAll⟩:=hx.all_hit s left rfl
      have hs3:=hsp.out a' M' left s hl' hxx
      have q0 : w5.cell? ⟨KH,0,none⟩ = some (.int .i64 (s 0).1):=hK5.out.at_ rfl
      have q1 : w5.cell? ⟨KH,1,none⟩ = some (.int .i64 (s 0).2):=hK5.out.at_ rfl
      obtain ⟨b,hbx⟩:=Int.eq_ofNat_of_zero_le (show 0 ≤ (s 0).2 by omega)
      have hnm:=hnum.out
      have hfl : left ≤ 400000:=by omega
      have htl : t.length ≤ 1000000:=by have:=hn2.out;have:=hl2.out;omega
      have hCs:=lhi (hitC_size s)
      have hCo:=lhi (hit_cells s)
      have hCl:=lhi (show (hitC s).toList = hitL s from by unfold hitC;rw [List.toList_toArray])
      have hw2 : IntKind.i64.wrap ((b : Int) + 1) = (b : Int) + 1:=by have:=hn2.out;have:=hl2.out;exact IntWalk.i64_in _ (by omega)
      have htake:=lhi (fun (b' : Nat) (hb' : (b' : Int) = max ((a' : Int) + 1) (s 0).2) (hlt : endL pre < (s 0).2) r (h : All12 ns t ((ns.length : Int) - 1) (lastP ns t g) b' (s 0).2 (left : Int) r) => show All12 ns t ((ns.length : Int) - 1) (lastP ns t g) 0 (-1) (f0 : Int) (r.map fun x => (pre ++ [s] ++ x.1,x.2)) from by rw [← map_app12];exact hF.out _ (hAll _ _ (.take hl' hxx hlt hb' h)))
      have hdrop:=lhi (fun (hge : (s 0).2 ≤ endL pre) r (h : All12 ns t ((ns.length : Int) - 1) (lastP ns t g) (a' + 1) (endL pre) (left : Int) r) => show All12 ns t ((ns.length : Int) - 1) (lastP ns t g) 0 (-1) (f0 : Int) (r.map fun x => (pre ++ x.1,x.2)) from hF.out _ (hAll _ _ (.drop hl' hxx hge h)))
      have hx0:=hs3.1
      rw [hx0] at q0
      rw [hbx] at q1
      have hC:=lhi (rfl : hitC s = hitC s)
      generalize hCM : hitC s = CM at *
      replace hCM:=lhi hCM
      clear hC hxx hl' hx hAll hF
      have hla:=hlst.out
      by_cases hab : a' < b
      · have f1 : ((a' : Int) == (b : Int)) = false:=bef.2 (by omega)
        have f2 : decide ((a' : Int) < (b : Int)) = true:=decide_eq_true (by omega)
        have f2' : decide (a' < b) = true:=decide_eq_true hab
        go_upto_region 10 with fail
        have hA6:=(held_new w5 28 #[.int .i64 (a' : Int),.int .i64 (b : Int)])
        have hK6:=lhi (fun k => ((hK5.out.alloc (.cells #[.int .i64 (a' : Int),.int .i64 (b : Int)] 28)).drewN k))
        have hR6:=lhi (fun k => ((hR5.out.alloc (.cells #[.int .i64 (a' : Int),.int .i64 (b : Int)] 28)).drewN k))
        have hB6:=lhi (fun k => (hB5.out.alloc hB5.out.size (.cells #[.int .i64 (a' : Int),.int .i64 (b : Int)] 28)).trans ((below_drewN (Below.refl _ _) k).mono (by have:=hB5.out.size;simp;omega)))
        have hw6:=lhi (fun k => (hw5.out.alloc (.cells #[.int .i64 (a' : Int),.int .i64 (b : Int)] 28)).kept (grown_of (below_drewN (Below.refl _ _) k) none) (by cases hv : Value.ownBlock (.slice Av pre.length cv) <;> simp))
        have p0:=hA6.at_ (i:=0) rfl
        have p1:=hA6.at_ (i:=1) rfl
        go_upto_region 13 with fail
        go_quiet (fail)
        replace hK6:=lhi (hK6.out nq)
        replace hR6:=lhi (hR6.out nq)
        replace hB6:=lhi (hB6.out nq)
        replace hw6:=lhi (hw6.out nq)
        have hsz7:=lhi (show w.heap.size + 1 ≤ ((w5.alloc (.cells #[.int .i64 (a' : Int),.int .i64 (b : Int)] 28)).drewN nq).heap.size from Nat.le_trans hKw.out (Nat.le_of_lt hK6.out.lt))
        clear p0 p1 hA6 q0 q1 hK5 hR5 hB5 hw5
        go_upto_region 14 with fail
        generalize (w5.alloc (.cells #[.int .i64 (a' : Int),.int .i64 (b : Int)] 28)).drewN nq = w7 at *
        obtain ⟨i0,hi0,hq0,hq1,hq2⟩:=info_parts hit_infoz
        have hi0:=lhi hi0
        have hq0:=lhi hq0
        have hq1:=lhi hq1
        have hq2:=lhi hq2
        have hbd:=lhi (show pre.length + 1 ≤ 2000000 by omega)
        go_wp2_with (first
         | (refine wpList_load_row rfl 31 (.tmp 11) rfl KH rfl 31 _ (0,0) _ hK6.out Try.underlying31 rfl (by rw [hCs.out];exact size_hit) ?_)
         | (refine wpList_build_oneP rfl (.tmp 74) rfl s CM hCM.out rfl ?_)
         | (at_builtin;refine wpList_append_at rfl _ _ 42 rfl (w.heap.size + 1) 31 i0 _ 20 160 Try.underlying42 hi0.out hq0.out hq1.out hq2.out rfl (by decide) _ pre.length (hitsL pre) rfl (hw6.out.alloc _) (some ⟨w7.heap.size,0,none⟩) 1 1 CM.toList rfl (by rw [hCl.out,hitL_len]) (src_hit w7 CM 31) (by rw [hCl.out];exact hit_one s) (by have:=hbd.out;unfold maxLen;omega) (by have:=hbd.out;omega) (by have:=hsz7.out;simp;omega) ?_;intro v8 w8 hown8 hg8 hk8;have ho8:=lhi hown8;have hR8:=lhi ((hR6.out.alloc (.cells CM 31)).grown hg8 (fun e => by have:=(hw6.out.lt _ e.symm).1;omega));have hB8:=lhi ((hB6.out.alloc hB6.out.size (.cells CM 31)).grown hg8 (by have:=hB6.out.size;simp;omega) (fun k e => by have:=(hw6.out.lt _ e).1;omega));clear hown8 hg8 hk8))
        go_roundw
        case rel =>
         refine RelL.mk ⟨pre ++ [s],b,left,rfl,rfl,by omega,hfl,by rw [endL_snoc];omega,by simp;omega,?_,?_,hR8.out,hB8.out⟩
         · rw [endL_snoc]
           exact lhi (fun r h => htake.out _ (by omega) (by omega) r h)
         · rw [lla,hitsL_app,hitsL_one,← hCl.out]
           exact ho8.out
        case measure => simp [intOf];omega
      · obtain rfl : a' = b:=by omega
        have f2 : decide ((a' : Int) < (a' : Int)) = false:=decide_eq_false (by omega)
        have f2' : decide (a' < a') = false:=decide_eq_false (by omega)
        by_cases hp : pre.length = 0
        · have hpn : pre = []:=List.length_eq_zero_iff.1 hp
          have hen : endL pre = -1:=by rw [hpn];rfl
          have f3 : ((pre.length : Int) == 0) = true:=by rw [hp];rfl
          go_upto_region 10 with fail
          have hA6:=(held_new w5 28 #[.int .i64 (a' : Int),.int .i64 (a' : Int)])
          have hK6:=lhi (fun k => ((hK5.out.alloc (.cells #[.int .i64 (a' : Int),.int .i64 (a' : Int)] 28)).drewN k))
          have hR6:=lhi (fun k => ((hR5.out.alloc (.cells #[.int .i64 (a' : Int),.int .i64 (a' : Int)] 28)).drewN k))
          have hB6:=lhi (fun k => (hB5.out.alloc hB5.out.size (.cells #[.int .i64 (a' : Int),.int .i64 (a' : Int)] 28)).trans ((below_drewN (Below.refl _ _) k).mono (by have:=hB5.out.size;simp;omega)))
          have hw6:=lhi (fun k => (hw5.out.alloc (.cells #[.int .i64 (a' : Int),.int .i64 (a' : Int)] 28)).kept (grown_of (below_drewN (Below.refl _ _) k) none) (by cases hv : Value.ownBlock (.slice Av pre.length cv) <;> simp))
          have p0:=hA6.at_ (i:=0) rfl
          have p1:=hA6.at_ (i:=1) rfl
          go_upto_region 13 with fail
          go_quiet (fail)
          replace hK6:=lhi (hK6.out nq)
          replace hR6:=lhi (hR6.out nq)
          replace hB6:=lhi (hB6.out nq)
          replace hw6:=lhi (hw6.out nq)
          have hsz7:=lhi (show w.heap.size + 1 ≤ ((w5.alloc (.cells #[.int .i64 (a' : Int),.int .i64 (a' : Int)] 28)).drewN nq).heap.size from Nat.le_trans hKw.out (Nat.le_of_lt hK6.out.lt))
          clear p0 p1 hA6 q0 q1 hK5 hR5 hB5 hw5
          go_upto_region 14 with fail
          generalize (w5.alloc (.cells #[.int .i64 (a' : Int),.int .i64 (a' : Int)] 28)).drewN nq = w7 at *
          obtain ⟨i0,hi0,hq0,hq1,hq2⟩:=info_parts hit_infoz
          have hi0:=lhi hi0
          have hq0:=lhi hq0
          have hq1:=lhi hq1
          have hq2:=lhi hq2
          have hbd:=lhi (show pre.length + 1 ≤ 2000000 by omega)
          go_wp2_with (first
           | (refine wpList_load_row rfl 31 (.tmp 11) rfl KH rfl 31 _ (0,0) _ hK6.out Try.underlying31 rfl (by rw [hCs.out];exact size_hit) ?_)
           | (refine wpList_build_oneP rfl (.tmp 74) rfl s CM hCM.out rfl ?_)
           | (at_builtin;refine wpList_append_at rfl _ _ 42 rfl (w.heap.size + 1) 31 i0 _ 20 160 Try.underlying42 hi0.out hq0.out hq1.out hq2.out rfl (by decide) _ pre.length (hitsL pre) rfl (hw6.out.alloc _) (some ⟨w7.heap.size,0,none⟩) 1 1 CM.toList rfl (by rw [hCl.out,hitL_len]) (src_hit w7 CM 31) (by rw [hCl.out];exact hit_one s) (by have:=hbd.out;unfold maxLen;omega) (by have:=hbd.out;omega) (by have:=hsz7.out;simp;omega) ?_;intro v8 w8 hown8 hg8 hk8;have ho8:=lhi hown8;have hR8:=lhi ((hR6.out.alloc (.cells CM 31)).grown hg8 (fun e => by have:=(hw6.out.lt _ e.symm).1;omega));have hB8:=lhi ((hB6.out.alloc hB6.out.size (.cells CM 31)).grown hg8 (by have:=hB6.out.size;simp;omega) (fun k e => by have:=(hw6.out.lt _ e).1;omega));clear hown8 hg8 hk8))
          go_roundw
          case rel =>
           refine RelL.mk ⟨pre ++ [s],a' + 1,left,rfl,rfl,by omega,hfl,by rw [endL_snoc];omega,by simp;omega,?_,?_,hR8.out,hB8.out⟩
           · rw [endL_snoc]
             exact lhi (fun r h => htake.out _ (by omega) (by omega) r h)
           · rw [lla,hitsL_app,hitsL_one,← hCl.out]
             exact ho8.out
          case measure => simp [intOf];omega
        · obtain ⟨m,hm⟩ : ∃ m,pre.length = m + 1:=⟨pre.length - 1,by omega⟩
          have hel:=endL_at hm
          have hw5':=hw5.out
          rw [hm] at hw5'
          obtain ⟨G,cG,hGe⟩:=ownsRow_succ hw5'
          have hAv : Av = some ⟨G,0,none⟩:=by injection hGe
          subst hAv
          have hcl : w5.cell? ⟨G,m * 20 + 1,none⟩ = some (.int .i64 (endL pre)):=by
           have hj:=(hitsL_at pre m (by omega)).2
           have hjl : m * 20 + 1 < (hitsL pre).length:=(List.getElem?_eq_some_iff.1 hj).1
           rw [hw5.out.cellAt (m * 20 + 1) (by rw [hitsL_len] at hjl;exact hjl),hel]
           exact hj
          have hGl : G < w5.heap.size:=(hw5.out.lt G rfl).2
          have hcl6 : (w5.alloc (.cells #[.int .i64 (a' : Int),.int .i64 (a' : Int)] 28)).cell? ⟨G,m * 20 + 1,none⟩ = some (.int .i64 (endL pre)):=(((Below.refl w5.heap.size w5).alloc (nlr _) (.cells #[.int .i64 (a' : Int),.int .i64 (a' : Int)] 28)).cell (p:=⟨G,m * 20 + 1,none⟩) hGl).trans hcl
          have f3 : ((pre.length : Int) == 0) = false:=bef.2 (by omega)
          have hw3 : IntKind.i64.wrap ((pre.length : Int) - 1) = (m : Int):=by rw [show (pre.length : Int) - 1 = (m : Int) by omega];exact IntWalk.i64_in _ (by omega)
          have hml : m < pre.length:=by omega
          have hmlI : (m : Int) < (pre.length : Int):=by omega
          clear hGe hw5' hcl hel
          replace hm:=lhi hm
          by_cases hen : endL pre = (a' : Int)
          · have f4 : (endL pre == (a' : Int)) = true:=beq_iff_eq.2 hen
            have f5 : (endL pre != (a' : Int)) = false:=by rw [bne,f4];rfl
            have henh:=lhi hen
            clear hen
            go_upto_region 10 with fail
            have hA6:=(held_new w5 28 #[.int .i64 (a' : Int),.int .i64 (a' : Int)])
            have hK6:=lhi (fun k => ((hK5.out.alloc (.cells #[.int .i64 (a' : Int),.int .i64 (a' : Int)] 28)).drewN k))
            have hR6:=lhi (fun k => ((hR5.out.alloc (.cells #[.int .i64 (a' : Int),.int .i64 (a' : Int)] 28)).drewN k))
            have hB6:=lhi (fun k => (hB5.out.alloc hB5.out.size (.cells #[.int .i64 (a' : Int),.int .i64 (a' : Int)] 28)).trans ((below_drewN (Below.refl _ _) k).mono (by have:=hB5.out.size;simp;omega)))
            have hw6:=lhi (fun k => (hw5.out.alloc (.cells #[.int .i64 (a' : Int),.int .i64 (a' : Int)] 28)).kept (grown_of (below_drewN (Below.refl _ _) k) none) (by cases hv : Value.ownBlock (.slice (some ⟨G,0,none⟩) pre.length cv) <;> simp))
            have p0:=hA6.at_ (i:=0) rfl
            have p1:=hA6.at_ (i:=1) rfl
            go_upto_region 13 with fail
            go_quiet (fail)
            replace hR6:=lhi (hR6.out nq)
            replace hB6:=lhi (hB6.out nq)
            replace hw6:=lhi (hw6.out nq)
            go_wp2
            go_roundw
            case rel => exact RelL.mk ⟨pre,a' + 1,left,rfl,rfl,by omega,hfl,by omega,by omega,lhi (fun r h => hdrop.out (by have:=henh.out;omega) r h),hw6.out,hR6.out,hB6.out⟩
            case measure => simp [intOf];omega
          · have f4 : (endL pre == (a' : Int)) = false:=bef.2 hen
            have f5 : (endL pre != (a' : Int)) = true:=by rw [bne,f4];rfl
            go_upto_region 10 with fail
            have hA6:=(held_new w5 28 #[.int .i64 (a' : Int),.int .i64 (a' : Int)])
            have hK6:=lhi (fun k => ((hK5.out.alloc (.cells #[.int .i64 (a' : Int),.int .i64 (a' : Int)] 28)).drewN k))
            have hR6:=lhi (fun k => ((hR5.out.alloc (.cells #[.int .i64 (a' : Int),.int .i64 (a' : Int)] 28)).drewN k))
            have hB6:=lhi (fun k => (hB5.out.alloc hB5.out.size (.cells #[.int .i64 (a' : Int),.int .i64 (a' : Int)] 28)).trans ((below_drewN (Below.refl _ _) k).mono (by have:=hB5.out.size;simp;omega)))
            have hw6:=lhi (fun k => (hw5.out.alloc (.cells #[.int .i64 (a' : Int),.int .i64 (a' : Int)] 28)).kept (grown_of (below_drewN (Below.refl _ _) k) none) (by cases hv : Value.ownBlock (.slice (some ⟨G,0,none⟩) pre.length cv) <;> simp))
            have p0:=hA6.at_ (i:=0) rfl
            have p1:=hA6.at_ (i:=1) rfl
            go_upto_region 13 with fail
            go_quiet (fail)
            replace hK6:=lhi (hK6.out nq)
            replace hR6:=lhi (hR6.out nq)
            replace hB6:=lhi (hB6.out nq)
            replace hw6:=lhi (hw6.out nq)
            have hsz7:=lhi (show w.heap.size + 1 ≤ ((w5.alloc (.cells #[.int .i64 (a' : Int),.int .i64 (a' : Int)] 28)).drewN nq).heap.size from Nat.le_trans hKw.out (Nat.le_of_lt hK6.out.lt))
            clear p0 p1 hA6 q0 q1 hK5 hR5 hB5 hw5
            go_upto_region 14 with fail
            generalize (w5.alloc (.cells #[.int .i64 (a' : Int),.int .i64 (a' : Int)] 28)).drewN nq = w7 at *
            obtain ⟨i0,hi0,hq0,hq1,hq2⟩:=info_parts hit_infoz
            have hi0:=lhi hi0
            have hq0:=lhi hq0
            have hq1:=lhi hq1
            have hq2:=lhi hq2
            have hbd:=lhi (show pre.length + 1 ≤ 2000000 by omega)
            go_wp2_with (first
             | (refine wpList_load_row rfl 31 (.tmp 11) rfl KH rfl 31 _ (0,0) _ hK6.out Try.underlying31 rfl (by rw [hCs.out];exact size_hit) ?_)
             | (refine wpList_build_oneP rfl (.tmp 74) rfl s CM hCM.out rfl ?_)
             | (at_builtin;refine wpList_append_at rfl _ _ 42 rfl (w.heap.size + 1) 31 i0 _ 20 160 Try.underlying42 hi0.out hq0.out hq1.out hq2.out rfl (by decide) _ pre.length (hitsL pre) rfl (hw6.out.alloc _) (some ⟨w7.heap.size,0,none⟩) 1 1 CM.toList rfl (by rw [hCl.out,hitL_len]) (src_hit w7 CM 31) (by rw [hCl.out];exact hit_one s) (by have:=hbd.out;unfold maxLen;omega) (by have:=hbd.out;omega) (by have:=hsz7.out;simp;omega) ?_;intro v8 w8 hown8 hg8 hk8;have ho8:=lhi hown8;have hR8:=lhi ((hR6.out.alloc (.cells CM 31)).grown hg8 (fun e => by have:=(hw6.out.lt _ e.symm).1;omega));have hB8:=lhi ((hB6.out.alloc hB6.out.size (.cells CM 31)).grown hg8 (by have:=hB6.out.size;simp;omega) (fun k e => by have:=(hw6.out.lt _ e).1;omega));clear hown8 hg8 hk8))
            go_roundw
            case rel =>
             refine RelL.mk ⟨pre ++ [s],a' + 1,left,rfl,rfl,by omega,hfl,by rw [endL_snoc];omega,by simp;omega,?_,?_,hR8.out,hB8.out⟩
             · rw [endL_snoc]
               exact lhi (fun r h => htake.out _ (by omega) (by omega) r h)
             · rw [lla,hitsL_app,hitsL_one,← hCl.out]
               exact ho8.out
            case measure => simp [intOf];omega
  · have e1 : decide ((a : Int) ≤ (n2 : Int)) = false:=decide_eq_false (by omega)
    have e1' : decide (a ≤ n2) = false:=decide_eq_false (by omega)
    have e1'' : ¬ a ≤ n2:=by omega
    have hfin:=lhi (show (fun e => AllQ w ns g t (f0 : Int) e wr) (.returned (.tuple #[.slice Av pre.length cv,.int .i64 (f : Int),.int .i64 0])) from .inr (.inr ⟨hok.out,pre,f,_,by have:=hF.out _ (.ends (by have:=hlst.out;omega));simpa using this,rfl,ownsRow_base hRow.out (Nat.le_succ _)⟩))
    replace hn2o:=lhi hn2o
    clear ha1 hf1 hea hpa
    go_wp2
    exact bodyPost_ret (v:=.tuple #[.slice Av pre.length cv,.int .i64 (f : Int),.int .i64 0]) ((results_tmp3 rfl _ _ _).trans rfl) rfl ⟨hfin.out,hBh.out⟩
end
end Go.Proofs.Ytjopmieaikgbcaa
