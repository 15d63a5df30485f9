/- Contracts and plain facts: M53. -/
import Derived.Test.YtjopmieaikgbcaaM30
import Derived.Test.YtjopmieaikgbcaaM52
set_option linter.unusedVariables false
set_option linter.unusedSimpArgs false
set_option maxRecDepth 100000
set_option maxHeartbeats 32000000
namespace Go.Proofs.Ytjopmieaikgbcaa
open Go.RowKit
theorem at_cases {ns : List Nod} {g : Int} {t : List UInt8} {a f : Nat} {e : Ending} (hok : rightN ns g = true ∧ (0 ≤ (a : Int) ∧ (a : Int) ≤ t.length) ∧ 0 ≤ (f : Int)) (h : AtP ns g t (a : Int) (f : Int) e) : (Told11 ns t ((ns.length : Int) - 1) a (f : Int) none ∧ e = .returned (.tuple #[.agg (hitC sp00),.bool false,.int .i64 0,.int .i64 18])) ∨ (∃ left : Nat,Told11 ns t ((ns.length : Int) - 1) a (f : Int) (some (none,(left : Int))) ∧ e = .returned (.tuple #[.agg (hitC sp00),.bool false,.int .i64 (left : Int),.int .i64 0])) ∨ (∃ (left : Nat) (s : Spn),Told11 ns t ((ns.length : Int) - 1) a (f : Int) (some (some s,(left : Int))) ∧ e = .returned (.tuple #[.agg (hitC s),.bool true,.int .i64 (left : Int),.int .i64 0])):=by
 cases h with
 | arg h => exact absurd hok h
 | fuel h hx => exact .inl ⟨hx,rfl⟩
 | @fine h b left hx =>
  cases b with
  | none => exact .inr (.inl ⟨left,hx,rfl⟩)
  | some s => exact .inr (.inr ⟨left,s,hx,rfl⟩)
def RelR (w : World) (A : Option Addr) (n c : Nat) (ns : List Nod) (t : List UInt8) (g : Int) (a0 f0 : Nat) (vf va : Value) (wr : World) : Prop :=
 ∃ a f : Nat,vf = .int .i64 (f : Int) ∧ va = .int .i64 (a : Int) ∧ a ≤ t.length + 1 ∧ f ≤ 400000 ∧ Hid (∀ r,Fst12 ns t ((ns.length : Int) - 1) (lastP ns t g) a (f : Int) r → Fst12 ns t ((ns.length : Int) - 1) (lastP ns t g) a0 (f0 : Int) r) ∧ Held wr w.heap.size 24 #[.slice A n c,.int .i64 g] ∧ Held wr (w.heap.size + 1) 31 (hitC sp00) ∧ Below w.heap.size w wr
theorem RelR.mk {w : World} {A : Option Addr} {n c : Nat} {ns : List Nod} {t : List UInt8} {g : Int} {a0 f0 : Nat} {vf va : Value} {wr : World} (h : ∃ a f : Nat,vf = .int .i64 (f : Int) ∧ va = .int .i64 (a : Int) ∧ a ≤ t.length + 1 ∧ f ≤ 400000 ∧ Hid (∀ r,Fst12 ns t ((ns.length : Int) - 1) (lastP ns t g) a (f : Int) r → Fst12 ns t ((ns.length : Int) - 1) (lastP ns t g) a0 (f0 : Int) r) ∧ Held wr w.heap.size 24 #[.slice A n c,.int .i64 g] ∧ Held wr (w.heap.size + 1) 31 (hitC sp00) ∧ Below w.heap.size w wr) : RelR w A n c ns t g a0 f0 vf va wr:=h
section
variable {w : World} {B : Nat} {A A2 : Option Addr} {n c n2 c2 : Nat} {ns : List Nod} {t : List UInt8} {g : Int}
theorem rFirst_any (a0 f0 : Nat) (h : AtIn w B A n c A2 n2 c2 ns t) (hr : rightN ns g = true) (ha : a0 ≤ t.length) (hf : f0 ≤ 400000) :
    Calls Try.prog 16 #[.agg #[.slice A n c,.int .i64 g],.slice A2 n2 c2,.int .i64 (a0 : Int),.int .i64 (f0 : Int)] w fun e w' => FirstP ns g t (a0 : Int) (f0 : Int) e ∧ Below w.heap.size w w':=by
 have hok:=lhi (show rightN ns g = true ∧ (0 ≤ (a0 : Int) ∧ (a0 : Int) ≤ t.length) ∧ 0 ≤ (f0 : Int) from ⟨hr,by omega,by omega⟩)
 have hb0:=lhi (((Below.refl w.heap.size w).alloc (nlr _) (.cells #[.slice A n c,.int .i64 g] 24)).alloc (by simp) (.cells #[.int .i64 0,.int .i64 0,.int .i64 0,.int .i64 0,.int .i64 0,.int .i64 0,.int .i64 0,.int .i64 0,.int .i64 0,.int .i64 0,.int .i64 0,.int .i64 0,.int .i64 0,.int .i64 0,.int .i64 0,.int .i64 0,.int .i64 0,.int .i64 0,.int .i64 0,.int .i64 0] 31))
 have hRe:=lhi ((held_new w 24 #[.slice A n c,.int .i64 g]).alloc (.cells #[.int .i64 0,.int .i64 0,.int .i64 0,.int .i64 0,.int .i64 0,.int .i64 0,.int .i64 0,.int .i64 0,.int .i64 0,.int .i64 0,.int .i64 0,.int .i64 0,.int .i64 0,.int .i64 0,.int .i64 0,.int .i64 0,.int .i64 0,.int .i64 0,.int .i64 0,.int .i64 0] 31))
 have hHi:=lhi (show Held ((w.alloc (.cells #[.slice A n c,.int .i64 g] 24)).alloc (.cells #[.int .i64 0,.int .i64 0,.int .i64 0,.int .i64 0,.int .i64 0,.int .i64 0,.int .i64 0,.int .i64 0,.int .i64 0,.int .i64 0,.int .i64 0,.int .i64 0,.int .i64 0,.int .i64 0,.int .i64 0,.int .i64 0,.int .i64 0,.int .i64 0,.int .i64 0,.int .i64 0] 31)) (w.heap.size + 1) 31 (hitC sp00) from held_new2 w (.cells #[.slice A n c,.int .i64 g] 24) 31 #[.int .i64 0,.int .i64 0,.int .i64 0,.int .i64 0,.int .i64 0,.int .i64 0,.int .i64 0,.int .i64 0,.int .i64 0,.int .i64 0,.int .i64 0,.int .i64 0,.int .i64 0,.int .i64 0,.int .i64 0,.int .i64 0,.int .i64 0,.int .i64 0,.int .i64 0,.int .i64 0])
 have hIn:=lhi (fun w' (hb : Below w.heap.size w w') => show AtIn w' B A n c A2 n2 c2 ns t from h.below (hb.mono h.base))
 have hLs:=lhi (fun w' (hb : Below w.heap.size w w') => rLeast_any (g:=g) (B:=B) h.hn h.hnc h.hcm (Nat.le_trans h.base hb.size) (h.nods.below (hb.mono h.base)) hr (w:=w'))
 have hAt:=lhi (fun w' (hb : Below w.heap.size w w') (a f : Nat) (ha : a ≤ t.length) (hf : f ≤ 400000) => rAt_any a f (h.below (hb.mono h.base)) hr ha hf (w:=w'))
 have hn2:=lhi h.hn2
 have hl2:=lhi h.hl2
 have hlb:=lhi (least_bounds (ns:=ns) (g:=g))
 have hlp:=lhi (show lastP ns t g = (t.length : Int) - leastNs ns g from rfl)
 replace hr:=lhi hr
 replace ha:=lhi ha
 replace hf:=lhi hf
 generalize leastNs ns g = le at *
 clear h
 go_enter Try.func16,Try.ntmps16
 go_upto_region 1 with fail
 generalize (w.alloc (.cells #[.slice A n c,.int .i64 g] 24)).alloc (.cells #[.int .i64 0,.int .i64 0,.int .i64 0,.int .i64 0,.int .i64 0,.int .i64 0,.int .i64 0,.int .i64 0,.int .i64 0,.int .i64 0,.int .i64 0,.int .i64 0,.int .i64 0,.int .i64 0,.int .i64 0,.int .i64 0,.int .i64 0,.int .i64 0,.int .i64 0,.int .i64 0] 31) = w2 at *
 go_wp2
 go_loopw [3,12] (fun vf va wr => RelR w A n c ns t g a0 f0 vf va wr) (fun _ va _ => t.length + 1 - (intOf va).toNat)
 case atStart => exact RelR.mk ⟨a0,f0,rfl,rfl,by have:=ha.out;omega,hf.out,lhi (fun r h => h),hRe.out,hHi.out,hb0.out⟩
 case round =>
  obtain ⟨a,f,rfl,rfl,ha1,hf1,hF,hRr,hHr,hBr⟩:=hrel
  have r0 : wr.cell? ⟨w.heap.size,0,none⟩ = some (.slice A n c):=hRr.at_ rfl
  have r1 : wr.cell? ⟨w.heap.size,1,none⟩ = some (.int .i64 g):=hRr.at_ rfl
  have hn2o:=hn2.out
  have hl2o:=hl2.out
  have hlbo:=hlb.out
  have hlpo:=hlp.out
  have hRh:=lhi hRr
  have hHh:=lhi hHr
  have hBh:=lhi hBr
  clear hRr hHr hBr
  by_cases h1 : a ≤ t.length
  · have e1 : decide ((a : Int) ≤ (n2 : Int)) = true:=decide_eq_true (by omega)
    have e1' : decide (a ≤ n2) = true:=decide_eq_true (by omega)
    have e1'' : a ≤ n2:=by omega
    have hwa : IntKind.i64.wrap ((n2 : Int) - (a : Int)) = (n2 : Int) - (a : Int):=IntWalk.i64_in _ (by omega)
    by_cases h2 : (n2 : Int) - (a : Int) < le
    · have e2 : decide ((n2 : Int) - (a : Int) < le) = true:=decide_eq_true h2
      have hfin:=lhi (show FirstP ns g t (a0 : Int) (f0 : Int) (.returned (.tuple #[.agg (hitC sp00),.bool false,.int .i64 (f : Int),.int .i64 0])) from .fine hok.out (b:=none) (hF.out _ (.ends (by omega))))
      replace hn2o:=lhi hn2o
      replace hlbo:=lhi hlbo
      replace hlpo:=lhi hlpo
      go_wp2_with (first
       | (go_at_call 29;refine (hLs.out wr hBh.out).mono ?_;rintro e w3 ⟨rfl,hb3⟩;have hH3:=lhi (hHh.out.keep hb3);have hB3:=lhi (hBh.out.trans (hb3.mono hBh.out.size)))
       | (refine wpList_build_hit0 rfl rfl (hitC sp00) rfl ?_)
       | (refine wpList_store_row rfl 31 (.tmp 8) (.tmp 51) rfl (w.heap.size + 1) (hitC sp00) rfl rfl 31 _ hH3.out (by rw [hitC_size];exact size_hit) rfl (hit_cells _) ?_))
      exact bodyPost_ret (results_cell_four Try.results16 _ _ (w.heap.size + 1) 31 (hitC sp00) (0,0) _ rfl rfl rfl rfl (hH3.out.row _) Try.underlying31 rfl (by rw [hitC_size];exact size_hit)) rfl ⟨hfin.out,below_row hB3.out (Nat.le_succ _) _⟩
    · have e2 : decide ((n2 : Int) - (a : Int) < le) = false:=decide_eq_false h2
      have hle : (a : Int) ≤ lastP ns t g:=by omega
      have hw2 : IntKind.i64.wrap ((a : Int) + 1) = (a : Int) + 1:=IntWalk.i64_in _ (by omega)
      replace hle:=lhi hle
      replace hn2o:=lhi hn2o
      replace hlbo:=lhi hlbo
      replace hlpo:=lhi hlpo
      have h1h:=lhi h1
      have hf1h:=lhi hf1
      go_upto_region 6 with (first
       | (go_at_call 29;refine (hLs.out wr hBh.out).mono ?_;rintro e w3 ⟨rfl,hb3⟩;have hH3:=lhi (hHh.out.keep hb3);have hR3:=lhi (hRh.out.keep hb3);have r03 : w3.cell? ⟨w.heap.size,0,none⟩ = some (.slice A n c):=hR3.out.at_ rfl;have r13 : w3.cell? ⟨w.heap.size,1,none⟩ = some (.int .i64 g):=hR3.out.at_ rfl;have hB3:=lhi (hBh.out.trans (hb3.mono hBh.out.size));clear hb3)
       | (have _h:=hB3;go_at_call 12;refine (hAt.out w3 hB3.out a f h1h.out hf1h.out).mono ?_;rintro e w4 ⟨hP,hb4⟩;have hH4:=lhi (hH3.out.keep hb4);have hR4:=lhi (hR3.out.keep hb4);have hB4:=lhi (hB3.out.trans (hb4.mono hB3.out.size));have hpp:=at_cases ⟨hr.out,by have:=h1h.out;omega,by omega⟩ hP;clear hP hb4;have hnull:=lhi (held_new w4 31 #[.int .i64 0,.int .i64 0,.int .i64 0,.int .i64 0,.int .i64 0,.int .i64 0,.int .i64 0,.int .i64 0,.int .i64 0,.int .i64 0,.int .i64 0,.int .i64 0,.int .i64 0,.int .i64 0,.int .i64 0,.int .i64 0,.int .i64 0,.int .i64 0,.int .i64 0,.int .i64 0]);rcases hpp with ⟨hx,rfl⟩ | ⟨left,hx,rfl⟩ | ⟨left,s,hx,rfl⟩)
       | (refine wpList_store_row rfl 31 (.tmp 13) (.tmp 37) rfl w4.heap.size (hitC sp00) rfl rfl 31 _ hnull.out (by rw [hitC_size];exact size_hit) rfl (hit_cells _) ?_)
       | (refine wpList_store_row rfl 31 (.tmp 13) (.tmp 37) rfl w4.heap.size (hitC s) rfl rfl 31 _ hnull.out (by rw [hitC_size];exact size_hit) rfl (hit_cells _) ?_))
      · have hH5:=lhi (((hH4.out.alloc (.cells #[.int .i64 0,.int .i64 0,.int .i64 0,.int .i64 0,.int .i64 0,.int .i64 0,.int .i64 0,.int .i64 0,.int .i64 0,.int .i64 0,.int .i64 0,.int .i64 0,.int .i64 0,.int .i64 0,.int .i64 0,.int .i64 0,.int .i64 0,.int .i64 0,.int .i64 0,.int .i64 0] 31)).row_far (g':=w4.heap.size) (by have:=hH4.out.lt;omega) (hitC sp00)))
        have hR5:=lhi (((hR4.out.alloc (.cells #[.int .i64 0,.int .i64 0,.int .i64 0,.int .i64 0,.int .i64 0,.int .i64 0,.int .i64 0,.int .i64 0,.int .i64 0,.int .i64 0,.int .i64 0,.int .i64 0,.int .i64 0,.int .i64 0,.int .i64 0,.int .i64 0,.int .i64 0,.int .i64 0,.int .i64 0,.int .i64 0] 31)).row_far (g':=w4.heap.size) (by have:=hR4.out.lt;omega) (hitC sp00)))
        have hK5:=lhi (hnull.out.row (hitC sp00))
        have hB5:=lhi (below_row (hB4.out.alloc hB4.out.size (.cells #[.int .i64 0,.int .i64 0,.int .i64 0,.int .i64 0,.int .i64 0,.int .i64 0,.int .i64 0,.int .i64 0,.int .i64 0,.int .i64 0,.int .i64 0,.int .i64 0,.int .i64 0,.int .i64 0,.int .i64 0,.int .i64 0,.int .i64 0,.int .i64 0,.int .i64 0,.int .i64 0] 31)) hB4.out.size (hitC sp00))
        generalize (w4.alloc (.cells #[.int .i64 0,.int .i64 0,.int .i64 0,.int .i64 0,.int .i64 0,.int .i64 0,.int .i64 0,.int .i64 0,.int .i64 0,.int .i64 0,.int .i64 0,.int .i64 0,.int .i64 0,.int .i64 0,.int .i64 0,.int .i64 0,.int .i64 0,.int .i64 0,.int .i64 0,.int .i64 0] 31)).setRow w4.heap.size (hitC sp00) = w5 at *
        generalize w4.heap.size = KH at *
        have hfin:=lhi (show FirstP ns g t (a0 : Int) (f0 : Int) (.returned (.tuple #[.agg (hitC sp00),.bool false,.int .i64 0,.int .i64 18])) from .fuel hok.out (hF.out _ (.over hle.out hx)))
        have hCs:=lhi (hitC_size sp00)
        have hCo:=lhi (hit_cells sp00)
        replace hx:=lhi hx
        generalize hitC sp00 = CM at *
        clear hnull hH4 hR4 hB4 r0 r1 r03 r13
        go_wp2_with (first
         | (refine wpList_load_row rfl 31 (.tmp 13) rfl KH rfl 31 _ (0,0) _ hK5.out Try.underlying31 rfl (by rw [hCs.out];exact size_hit) ?_)
         | (refine wpList_store_row rfl 31 (.tmp 8) (.tmp 46) rfl (w.heap.size + 1) CM rfl rfl 31 _ hH5.out (by rw [hCs.out];exact size_hit) (by first | rfl | (rw [hCs.out];rfl)) hCo.out ?_))
        exact bodyPost_ret (results_cell_four Try.results16 _ _ (w.heap.size + 1) 31 CM (0,0) _ rfl rfl rfl rfl (hH5.out.row _) Try.underlying31 rfl (by rw [hCs.out];exact size_hit)) rfl ⟨hfin.out,below_row hB5.out (Nat.le_succ _) _⟩
      · have hH5:=lhi (((hH4.out.alloc (.cells #[.int .i64 0,.int .i64 0,.int .i64 0,.int .i64 0,.int .i64 0,.int .i64 0,.int .i64 0,.int .i64 0,.int .i64 0,.int .i64 0,.int .i64 0,.int .i64 0,.int .i64 0,.int .i64 0,.int .i64 0,.int .i64 0,.int .i64 0,.int .i64 0,.int .i64 0,.int .i64 0] 31)).row_far (g':=w4.heap.size) (by have:=hH4.out.lt;omega) (hitC sp00)))
        have hR5:=lhi (((hR4.out.alloc (.cells #[.int .i64 0,.int .i64 0,.int .i64 0,.int .i64 0,.int .i64 0,.int .i64 0,.int .i64 0,.int .i64 0,.int .i64 0,.int .i64 0,.int .i64 0,.int .i64 0,.int .i64 0,.int .i64 0,.int .i64 0,.int .i64 0,.int .i64 0,.int .i64 0,.int .i64 0,.int .i64 0] 31)).row_far (g':=w4.heap.size) (by have:=hR4.out.lt;omega) (hitC sp00)))
        have hK5:=lhi (hnull.out.row (hitC sp00))
        have hB5:=lhi (below_row (hB4.out.alloc hB4.out.size (.cells #[.int .i64 0,.int .i64 0,.int .i64 0,.int .i64 0,.int .i64 0,.int .i64 0,.int .i64 0,.int .i64 0,.int .i64 0,.int .i64 0,.int .i64 0,.int .i64 0,.int .i64 0,.int .i64 0,.int .i64 0,.int .i64 0,.int .i64 0,.int .i64 0,.int .i64 0,.int .i64 0] 31)) hB4.out.size (hitC sp00))
        generalize (w4.alloc (.cells #[.int .i64 0,.int .i64 0,.int .i64 0,.int .i64 0,.int .i64 0,.int .i64 0,.int .i64 0,.int .i64 0,.int .i64 0,.int .i64 0,.int .i64 0,.int .i64 0,.int .i64 0,.int .i64 0,.int .i64 0,.int .i64 0,.int .i64 0,.int .i64 0,.int .i64 0,.int .i64 0] 31)).setRow w4.heap.size (hitC sp00) = w5 at *
        generalize w4.heap.size = KH at *
        have hF2:=lhi (fun r (h : Fst12 ns t ((ns.length : Int) - 1) (lastP ns t g) (a + 1) (left : Int) r) => hF.out r (.miss hle.out hx h))
        have hlf:=told_left hx
        have hlf2 : left ≤ 400000:=by omega
        replace hx:=lhi hx
        replace hlf:=lhi hlf
        clear hnull hH4 hR4 hB4 r0 r1 r03 r13
        go_wp2
        go_roundw
        case rel => exact RelR.mk ⟨a + 1,left,rfl,rfl,by omega,hlf2,hF2,hR5.out,hH5.out,hB5.out⟩
        case measure => simp [intOf];omega
      · have hH5:=lhi (((hH4.out.alloc (.cells #[.int .i64 0,.int .i64 0,.int .i64 0,.int .i64 0,.int .i64 0,.int .i64 0,.int .i64 0,.int .i64 0,.int .i64 0,.int .i64 0,.int .i64 0,.int .i64 0,.int .i64 0,.int .i64 0,.int .i64 0,.int .i64 0,.int .i64 0,.int .i64 0,.int .i64 0,.int .i64 0] 31)).row_far (g':=w4.heap.size) (by have:=hH4.out.lt;omega) (hitC s)))
        have hR5:=lhi (((hR4.out.alloc (.cells #[.int .i64 0,.int .i64 0,.int .i64 0,.int .i64 0,.int .i64 0,.int .i64 0,.int .i64 0,.int .i64 0,.int .i64 0,.int .i64 0,.int .i64 0,.int .i64 0,.int .i64 0,.int .i64 0,.int .i64 0,.int .i64 0,.int .i64 0,.int .i64 0,.int .i64 0,.int .i64 0] 31)).row_far (g':=w4.heap.size) (by have:=hR4.out.lt;omega) (hitC s)))
        have hK5:=lhi (hnull.out.row (hitC s))
        have hB5:=lhi (below_row (hB4.out.alloc hB4.out.size (.cells #[.int .i64 0,.int .i64 0,.int .i64 0,.int .i64 0,.int .i64 0,.int .i64 0,.int .i64 0,.int .i64 0,.int .i64 0,.int .i64 0,.int .i64 0,.int .i64 0,.int .i64 0,.int .i64 0,.int .i64 0,.int .i64 0,.int .i64 0,.int .i64 0,.int .i64 0,.int .i64 0] 31)) hB4.out.size (hitC s))
        generalize (w4.alloc (.cells #[.int .i64 0,.int .i64 0,.int .i64 0,.int .i64 0,.int .i64 0,.int .i64 0,.int .i64 0,.int .i64 0,.int .i64 0,.int .i64 0,.int .i64 0,.int .i64 0,.int .i64 0,.int .i64 0,.int .i64 0,.int .i64 0,.int .i64 0,.int .i64 0,.int .i64 0,.int .i64 0] 31)).setRow w4.heap.size (hitC s) = w5 at *
        generalize w4.heap.size = KH at *
        have hfin:=lhi (show FirstP ns g t (a0 : Int) (f0 : Int) (.returned (.tuple #[.agg (hitC s),.bool true,.int .i64 (left : Int),.int .i64 0])) from .fine hok.out (b:=some s) (hF.out _ (.hit hle.out hx)))
        have hCs:=lhi (hitC_size s)
        have hCo:=lhi (hit_cells s)
        replace hx:=lhi hx
        generalize hitC s = CM at *
        clear hnull hH4 hR4 hB4 r0 r1 r03 r13
        go_wp2_with (first
         | (refine wpList_load_row rfl 31 (.tmp 13) rfl KH rfl 31 _ (0,0) _ hK5.out Try.underlying31 rfl (by rw [hCs.out];exact size_hit) ?_)
         | (refine wpList_store_row rfl 31 (.tmp 8) (.tmp 46) rfl (w.heap.size + 1) CM rfl rfl 31 _ hH5.out (by rw [hCs.out];exact size_hit) (by first | rfl | (rw [hCs.out];rfl)) hCo.out ?_))
        exact bodyPost_ret (results_cell_four Try.results16 _ _ (w.heap.size + 1) 31 CM (0,0) _ rfl rfl rfl rfl (hH5.out.row _) Try.underlying31 rfl (by rw [hCs.out];exact size_hit)) rfl ⟨hfin.out,below_row hB5.out (Nat.le_succ _) _⟩
  · have e1 : decide ((a : Int) ≤ (n2 : Int)) = false:=decide_eq_false (by omega)
    have e1' : decide (a ≤ n2) = false:=decide_eq_false (by omega)
    have e1'' : ¬ a ≤ n2:=by omega
    have hfin:=lhi (show FirstP ns g t (a0 : Int) (f0 : Int) (.returned (.tuple #[.agg (hitC sp00),.bool false,.int .i64 (f : Int),.int .i64 0])) from .fine hok.out (b:=none) (hF.out _ (.ends (by omega))))
    replace hn2o:=lhi hn2o
    replace hlbo:=lhi hlbo
    replace hlpo:=lhi hlpo
    go_wp2_with (first
     | (refine wpList_build_hit0 rfl rfl (hitC sp00) rfl ?_)
     | (refine wpList_store_row rfl 31 (.tmp 8) (.tmp 51) rfl (w.heap.size + 1) (hitC sp00) rfl rfl 31 _ hHh.out (by rw [hitC_size];exact size_hit) rfl (hit_cells _) ?_))
    exact bodyPost_ret (results_cell_four Try.results16 _ _ (w.heap.size + 1) 31 (hitC sp00) (0,0) _ rfl rfl rfl rfl (hHh.out.row _) Try.underlying31 rfl (by rw [hitC_size];exact size_hit)) rfl ⟨hfin.out,below_row hBh.out (Nat.le_succ _) _⟩
end
section
variable {ns : List Nod} {t : List UInt8} {n last : Int}
theorem told_nonneg {a : Nat} {M left : Int} {b : Option Spn} (hx : Told11 ns t n a M (some (b,left))) : 0 ≤ left:=by
 generalize hy : (some (b,left) : Option (Option Spn × Int)) = y at hx
 cases hx with
 | fin h hc =>
  simp only [Option.some.injEq,Prod.mk.injEq] at hy
  omega
 | over h => cases hy
theorem Fst12.left {a : Nat} {M : Int} {r : Option (Option Spn × Int)} (h : Fst12 ns t n last a M r) : 0 ≤ M → ∀ x,r = some x → 0 ≤ x.2 ∧ x.2 ≤ M:=by
 induction h with
 | over hl hx => intro _ x hr;cases hr
 | hit hl hx => intro _ x hr;simp only [Option.some.injEq] at hr;subst hr;exact ⟨told_nonneg hx,told_left hx⟩
 | miss hl hx _ ih =>
  intro hM x hr
  have h1:=told_nonneg hx
  have h2:=told_left hx
  have:=ih h1 x hr
  exact ⟨this.1,by omega⟩
 | ends hl => intro hM x hr;simp only [Option.some.injEq] at hr;subst hr;exact ⟨hM,Int.le_refl _⟩
theorem Fst12.all_over {a : Nat} {M : Int} {r : Option (Option Spn × Int)} (h : Fst12 ns t n last a M r) : r = none → ∀ e,All12 ns t n last a e M none:=by
 induction h with
 | over hl hx => intro _ e;exact .over hl hx
 | hit hl hx => intro hr;cases hr
 | miss hl hx _ ih => intro hr e;exact .miss hl hx (ih hr e)
 | ends hl => intro hr;cases hr
theorem Fst12.all_none {a : Nat} {M : Int} {r : Option (Option Spn × Int)} (h : Fst12 ns t n last a M r) : ∀ left,r = some (none,left) → ∀ e,All12 ns t n last a e M (some ([],left)):=by
 induction h with
 | over hl hx => intro left hr;cases hr
 | hit hl hx => intro left hr;simp at hr
 | miss hl hx _ ih => intro left hr e;exact .miss hl hx (ih left hr e)
 | ends hl => intro left hr e;simp only [Option.some.injEq,Prod.mk.injEq,true_and] at hr;subst hr;exact .ends hl
theorem Fst12.all_hit {a : Nat} {M : Int} {r : Option (Option Spn × Int)} (h : Fst12 ns t n last a M r) : ∀ s left,r = some (some s,left) → ∃ (a' : Nat) (M' : Int),a ≤ a' ∧ (a' : Int) ≤ last ∧ Told11 ns t n a' M' (some (some s,left)) ∧ ∀ e r,All12 ns t n last a' e M' r → All12 ns t n last a e M r:=by
 induction h with
 | over hl hx => intro s left hr;cases hr
 | @hit a M left s hl hx => intro s' left' hr;simp only [Option.some.injEq,Prod.mk.injEq] at hr;obtain ⟨rfl,rfl⟩:=hr;exact ⟨a,M,nlr _,hl,hx,fun e r h => h⟩
 | miss hl hx _ ih =>
  intro s left hr
  obtain ⟨a',M',h1,h2,h3,h4⟩:=ih s left hr
  exact ⟨a',M',by omega,h2,h3,fun e r h => .miss hl hx (h4 e r h)⟩
 | ends hl => intro s left hr;simp at hr
end
def endL (pre : List Spn) : Int:=(pre.getLast?.map fun s => (s 0).2).getD (-1)
theorem endL_nil : endL [] = -1:=rfl
theorem endL_snoc (pre : List Spn) (s : Spn) : endL (pre ++ [s]) = (s 0).2:=by unfold endL;rw [List.getLast?_append];rfl
theorem map_app12 (pre : List Spn) (s : Spn) (r : Option (List Spn × Int)) : ((r.map fun x => (s :: x.1,x.2)).map fun x => (pre ++ x.1,x.2)) = r.map fun x => (pre ++ [s] ++ x.1,x.2):=map_cons12 pre s r
end Go.Proofs.Ytjopmieaikgbcaa
