/- Contracts and plain facts: M29. -/
import Derived.Test.YtjopmieaikgbcaaM24
set_option linter.unusedVariables false
set_option linter.unusedSimpArgs false
set_option maxRecDepth 100000
set_option maxHeartbeats 32000000
namespace Go.Proofs.Ytjopmieaikgbcaa
open Go.RowKit Go.Shelf
attribute [local go_sem] Oper.semAt_some
inductive FirstP (ns : List Nod) (g : Int) (t : List UInt8) (from_ fuel : Int) : Ending → Prop
 | arg (h : ¬ (rightN ns g = true ∧ (0 ≤ from_ ∧ from_ ≤ t.length) ∧ 0 ≤ fuel)) : FirstP ns g t from_ fuel (.returned (.tuple #[.agg (hitC sp00),.bool false,.int .i64 0,.int .i64 1]))
 | fuel (h : rightN ns g = true ∧ (0 ≤ from_ ∧ from_ ≤ t.length) ∧ 0 ≤ fuel) (hx : Fst12 ns t ((ns.length : Int) - 1) (lastP ns t g) from_.toNat fuel none) : FirstP ns g t from_ fuel (.returned (.tuple #[.agg (hitC sp00),.bool false,.int .i64 0,.int .i64 18]))
 | fine (h : rightN ns g = true ∧ (0 ≤ from_ ∧ from_ ≤ t.length) ∧ 0 ≤ fuel) {b : Option Spn} {left : Int} (hx : Fst12 ns t ((ns.length : Int) - 1) (lastP ns t g) from_.toNat fuel (some (b,left))) : FirstP ns g t from_ fuel (.returned (.tuple #[.agg (hitC (ansS b)),.bool b.isSome,.int .i64 left,.int .i64 0]))
theorem FirstP.det {ns : List Nod} {g : Int} {t : List UInt8} {from_ fuel : Int} {e e' : Ending} (h : FirstP ns g t from_ fuel e) (k : FirstP ns g t from_ fuel e') : e' = e:=by
 cases h with
 | arg h =>
  cases k with
  | arg => rfl
  | fuel k => exact absurd k h
  | fine k => exact absurd k h
 | fuel h hx =>
  cases k with
  | arg k => exact absurd h k
  | fuel => rfl
  | fine k kx => have:=hx.det kx;cases this
 | @fine h b left hx =>
  cases k with
  | arg k => exact absurd h k
  | fuel k kx => have:=hx.det kx;cases this
  | @fine k b' left' kx =>
   have h1:=Option.some.inj (hx.det kx)
   simp only [Prod.mk.injEq] at h1
   obtain ⟨rfl,h2⟩:=h1
   rw [h2]
theorem sp_pos {ns : List Nod} {t : List UInt8} {g : Int} (hr : rightN ns g = true) : ∀ (a : Nat) (M left : Int) (s : Spn),(a : Int) ≤ lastP ns t g → Told11 ns t ((ns.length : Int) - 1) a M (some (some s,left)) → 0 ≤ (s 0).2:=fun a M left s hl hx => by
 have hrt:=right_rt hr
 have hn1 : 1 ≤ ns.length:=by
  unfold rightN at hr
  simp only [Bool.and_eq_true,decide_eq_true_eq] at hr
  exact hr.1.1.1.1
 have hlb:=least_bounds (ns:=ns) (g:=g)
 have h1:=told_span hrt hn1 (by unfold lastP at hl;omega) hx
 have h2:=h1.2.1
 omega
theorem Yld.first {ns : List Nod} {t : List UInt8} {g : Int} {a0 : Nat} {M0 left : Int} {s : Spn} (hr : rightN ns g = true) (h : Yld ns t g a0 M0 [] s left) : Fst12 ns t ((ns.length : Int) - 1) (lastP ns t g) a0 M0 (some (some s,left)):=by
 obtain ⟨a,e,M,hp,hl,hx,-⟩:=h
 exact (hp.first (sp_pos hr) rfl).2 _ (.hit hl hx)
theorem Done12.first {ns : List Nod} {t : List UInt8} {g : Int} {a0 : Nat} {M0 left : Int} (hr : rightN ns g = true) (h : Done12 ns t g a0 M0 [] left false) : Fst12 ns t ((ns.length : Int) - 1) (lastP ns t g) a0 M0 (some (none,left)):=by
 obtain ⟨a,e,M,hp,⟨-,hl,rfl⟩ | ⟨h0,-⟩⟩:=h
 · exact (hp.first (sp_pos hr) rfl).2 _ (.ends hl)
 · cases h0
theorem Done12.first_over {ns : List Nod} {t : List UInt8} {g : Int} {a0 : Nat} {M0 left : Int} (hr : rightN ns g = true) (h : Done12 ns t g a0 M0 [] left true) : Fst12 ns t ((ns.length : Int) - 1) (lastP ns t g) a0 M0 none:=by
 obtain ⟨a,e,M,hp,⟨h0,-⟩ | ⟨-,hl,hx⟩⟩:=h
 · cases h0
 · exact (hp.first (sp_pos hr) rfl).2 _ (.over hl hx)
theorem results_cell_tcf {fn : Func} {p q r s : Tmp} (h : fn.results = #[.cell p 31,.cell q 4,.tmp r,.tmp s]) (tmps : Array Value) (w : World) (g1 g2 : Nat) (C : Array Value) (b : Bool) (hp : tmps.getD p undef = .pointer (some ⟨g1,0,none⟩)) (hq : tmps.getD q undef = .pointer (some ⟨g2,0,none⟩)) {x y : Value} (hx : tmps.getD r undef = x) (hy : tmps.getD s undef = y) (h1 : Held w g1 31 C) (hs : C.size = 20) (h2 : Held w g2 4 #[.bool b]) :
    (results fn tmps).run Try.prog w = .ok (.tuple #[.agg C,.bool b,x,y]) w:=by
 have hp' : tmps[p]?.getD undef = .pointer (some ⟨g1,0,none⟩):=by simpa using hp
 have hq' : tmps[q]?.getD undef = .pointer (some ⟨g2,0,none⟩):=by simpa using hq
 have hx' : tmps[r]?.getD undef = x:=by simpa using hx
 have hy' : tmps[s]?.getD undef = y:=by simpa using hy
 have hia : (isAgg 4).run Try.prog w = .ok false w:=run_isAgg_plain Try.underlying4 rfl w
 have hc : w.cell? ⟨g2,0,none⟩ = some (.bool b):=h2.at_ rfl
 have hl : (load ⟨g2,0,none⟩).run Try.prog w = .ok (.bool b) w:=by
  simp [hc]
 have hlv : (loadVar 4 ⟨g2,0,none⟩).run Try.prog w = .ok (.bool b) w:=by
  unfold loadVar
  simp only [Sem.run_bind,hia,Result.andThen_ok]
  exact hl
 simp [results,h,hp',hq',hx',hy',asAddr,hlv,run_loadVar_row w g1 31 31 C (0,0) _ h1 Try.underlying31 rfl (by rw [hs];exact size_hit)]
def IFi (w : World) (H1 H2 : Nat) (pre : List Spn) (W : World) : Prop:=pre = [] ∧ Held W H1 31 (hitC sp00) ∧ Held W H2 4 #[.bool false] ∧ Below w.heap.size w W
theorem IFi.abide {w A C : World} {H1 H2 r : Nat} {pre : List Spn} (h : IFi w H1 H2 pre A) (hg : A.grownBy C (some r)) (h1 : r ≠ H1) (h2 : r ≠ H2) (h3 : w.heap.size ≤ r) : IFi w H1 H2 pre C :=
 ⟨h.1,h.2.1.grown hg (fun e => h1 (Option.some.inj e).symm),h.2.2.1.grown hg (fun e => h2 (Option.some.inj e).symm),h.2.2.2.grown hg h.2.2.2.size (fun k e => by cases e;exact h3)⟩
def XFi (w : World) (H1 H2 B S : Nat) (An : Option Addr) (nn cn : Nat) (At : Option Addr) (nt ct : Nat) (ns : List Nod) (t : List UInt8) (g : Int) (a0 : Nat) (M0 : Int) (id : Nat) (xs : List Spn) (W : World) : Prop :=
 id = 0 ∧ ∃ s left,Fst12 ns t ((ns.length : Int) - 1) (lastP ns t g) a0 M0 (some (some s,left)) ∧ Held W H1 31 (hitC s) ∧ Held W H2 4 #[.bool true] ∧ Srf W B S An nn cn At nt ct ns t g left false ∧ Below w.heap.size w W
theorem XFi.abide {w A C : World} {H1 H2 B S r : Nat} {An : Option Addr} {nn cn : Nat} {At : Option Addr} {nt ct : Nat} {ns : List Nod} {t : List UInt8} {g : Int} {a0 : Nat} {M0 : Int} {id : Nat} {xs : List Spn} (h : XFi w H1 H2 B S An nn cn At nt ct ns t g a0 M0 id xs A) (hg : A.grownBy C (some r)) (h1 : r ≠ H1) (h2 : r ≠ H2) (h3 : w.heap.size ≤ r) (h4 : B ≤ r) (h5 : S ≠ r) : XFi w H1 H2 B S An nn cn At nt ct ns t g a0 M0 id xs C:=by
 obtain ⟨q,s,left,k1,k2,k3,k4,k5⟩:=h
 exact ⟨q,s,left,k1,k2.grown hg (fun e => h1 (Option.some.inj e).symm),k3.grown hg (fun e => h2 (Option.some.inj e).symm),k4.turned' hg h4 h5,k5.grown hg k5.size (fun k e => by cases e;exact h3)⟩
def SFi (S H1 H2 : Nat) (SC C : Array Value) (b : Bool) (w' : World) : Prop:=Held w' S 74 SC ∧ Held w' H1 31 C ∧ Held w' H2 4 #[.bool b]
section
variable {w : World} {B : Nat} {A A2 : Option Addr} {n c n2 c2 : Nat} {ns : List Nod} {t : List UInt8} {g : Int}
theorem first_good (a0 : Nat) (fuel : Int) (h : AtIn w B A n c A2 n2 c2 ns t) (h1 : rightN ns g = true) (ha : a0 ≤ t.length) (hf0 : 0 ≤ fuel) (hf1 : fuel ≤ 999999) :
    Calls Try.prog 15 #[.agg #[.slice A n c,.int .i64 g],.slice A2 n2 c2,.int .i64 (a0 : Int),.int .i64 fuel] w fun e w' => FirstP ns g t (a0 : Int) fuel e ∧ Below w.heap.size w w':=by
 have hok:=lhi (show rightN ns g = true ∧ (0 ≤ (a0 : Int) ∧ (a0 : Int) ≤ t.length) ∧ 0 ≤ fuel from ⟨h1,by omega,hf0⟩)
 have hb0:=lhi ((((Below.refl w.heap.size w).alloc (nlr _) (.cells #[.slice A n c,.int .i64 g] 24)).alloc (by simp) (.cells #[.int .i64 0,.int .i64 0,.int .i64 0,.int .i64 0,.int .i64 0,.int .i64 0,.int .i64 0,.int .i64 0,.int .i64 0,.int .i64 0,.int .i64 0,.int .i64 0,.int .i64 0,.int .i64 0,.int .i64 0,.int .i64 0,.int .i64 0,.int .i64 0,.int .i64 0,.int .i64 0] 31)).alloc (by simp;omega) (.cells #[.bool false] 4))
 have hRt:=lhi (fun w' (hb : Below w.heap.size w w') => right_any A n c ns g B w' h.hn h.hnc h.hcm (Nat.le_trans h.base hb.size) (h.nods.below (hb.mono h.base)))
 rw [h1] at hRt
 have hRe:=lhi (((held_new w 24 #[.slice A n c,.int .i64 g]).alloc (.cells #[.int .i64 0,.int .i64 0,.int .i64 0,.int .i64 0,.int .i64 0,.int .i64 0,.int .i64 0,.int .i64 0,.int .i64 0,.int .i64 0,.int .i64 0,.int .i64 0,.int .i64 0,.int .i64 0,.int .i64 0,.int .i64 0,.int .i64 0,.int .i64 0,.int .i64 0,.int .i64 0] 31)).alloc (.cells #[.bool false] 4))
 have hR1:=lhi (show Held (((w.alloc (.cells #[.slice A n c,.int .i64 g] 24)).alloc (.cells #[.int .i64 0,.int .i64 0,.int .i64 0,.int .i64 0,.int .i64 0,.int .i64 0,.int .i64 0,.int .i64 0,.int .i64 0,.int .i64 0,.int .i64 0,.int .i64 0,.int .i64 0,.int .i64 0,.int .i64 0,.int .i64 0,.int .i64 0,.int .i64 0,.int .i64 0,.int .i64 0] 31)).alloc (.cells #[.bool false] 4)) (w.heap.size + 1) 31 (hitC sp00) from (held_new2 w (.cells #[.slice A n c,.int .i64 g] 24) 31 #[.int .i64 0,.int .i64 0,.int .i64 0,.int .i64 0,.int .i64 0,.int .i64 0,.int .i64 0,.int .i64 0,.int .i64 0,.int .i64 0,.int .i64 0,.int .i64 0,.int .i64 0,.int .i64 0,.int .i64 0,.int .i64 0,.int .i64 0,.int .i64 0,.int .i64 0,.int .i64 0]).alloc (.cells #[.bool false] 4))
 have hR2:=lhi (show Held (((w.alloc (.cells #[.slice A n c,.int .i64 g] 24)).alloc (.cells #[.int .i64 0,.int .i64 0,.int .i64 0,.int .i64 0,.int .i64 0,.int .i64 0,.int .i64 0,.int .i64 0,.int .i64 0,.int .i64 0,.int .i64 0,.int .i64 0,.int .i64 0,.int .i64 0,.int .i64 0,.int .i64 0,.int .i64 0,.int .i64 0,.int .i64 0,.int .i64 0] 31)).alloc (.cells #[.bool false] 4)) (w.heap.size + 1 + 1) 4 #[.bool false] from by
  have:=held_new ((w.alloc (.cells #[.slice A n c,.int .i64 g] 24)).alloc (.cells #[.int .i64 0,.int .i64 0,.int .i64 0,.int .i64 0,.int .i64 0,.int .i64 0,.int .i64 0,.int .i64 0,.int .i64 0,.int .i64 0,.int .i64 0,.int .i64 0,.int .i64 0,.int .i64 0,.int .i64 0,.int .i64 0,.int .i64 0,.int .i64 0,.int .i64 0,.int .i64 0] 31)) 4 #[.bool false]
  rw [show ((w.alloc (.cells #[.slice A n c,.int .i64 g] 24)).alloc (.cells #[.int .i64 0,.int .i64 0,.int .i64 0,.int .i64 0,.int .i64 0,.int .i64 0,.int .i64 0,.int .i64 0,.int .i64 0,.int .i64 0,.int .i64 0,.int .i64 0,.int .i64 0,.int .i64 0,.int .i64 0,.int .i64 0,.int .i64 0,.int .i64 0,.int .i64 0,.int .i64 0] 31)).heap.size = w.heap.size + 1 + 1 from by simp] at this
  exact this)
 have hIn:=lhi (fun w' (hb : Below w.heap.size w w') => show AtIn w' B A n c A2 n2 c2 ns t from h.below (hb.mono h.base))
 have hBw:=lhi h.base
 have d1 : decide ((a0 : Int) < 0) = false:=decide_eq_false (by omega)
 have d2' : ¬ n2 < a0:=by have:=h.hn2;omega
 have d2 : decide ((n2 : Int) < (a0 : Int)) = false:=decide_eq_false (by omega)
 have d2'' : decide (n2 < a0) = false:=decide_eq_false d2'
 have d3 : decide (fuel < 0) = false:=decide_eq_false (by omega)
 have hff:=lhi (And.intro hf0 hf1)
 have haa:=lhi ha
 have hsz0:=lhi (show (((w.alloc (.cells #[.slice A n c,.int .i64 g] 24)).alloc (.cells #[.int .i64 0,.int .i64 0,.int .i64 0,.int .i64 0,.int .i64 0,.int .i64 0,.int .i64 0,.int .i64 0,.int .i64 0,.int .i64 0,.int .i64 0,.int .i64 0,.int .i64 0,.int .i64 0,.int .i64 0,.int .i64 0,.int .i64 0,.int .i64 0,.int .i64 0,.int .i64 0] 31)).alloc (.cells #[.bool false] 4)).heap.size = w.heap.size + 3 by simp)
 clear h hf0 hf1 h1 ha
 refine callsIn_wide.1 (callsIn_of_wp_marks (n:=3) Try.func15 rfl trivial (wpIn_wide.2 ?_))
 simp only [Try.ntmps15,List.size_toArray,List.length_cons,List.length_nil,Nat.reduceAdd,Nat.reduceSub,Array.replicate_succ,Array.replicate_zero,List.push_toArray,List.append_toArray,List.nil_append,List.cons_append]
 go_wp2_with (first
  | (go_at_call 21;refine (hRt.out _ hb0.out).mono ?_;rintro e w1 ⟨rfl,hb1⟩;have hRe1:=lhi (hRe.out.keep hb1);have hR11:=lhi (hR1.out.keep hb1);have hR21:=lhi (hR2.out.keep hb1);have r0 : w1.cell? ⟨w.heap.size,0,none⟩ = some (.slice A n c):=hRe1.out.at_ rfl;have r1 : w1.cell? ⟨w.heap.size,1,none⟩ = some (.int .i64 g):=hRe1.out.at_ rfl;have hs1:=lhi (show w.heap.size + 3 ≤ w1.heap.size by have:=hb1.size;have:=hsz0.out;omega);replace hb1:=lhi (hb0.out.trans (hb1.mono hb0.out.size)))
  | (go_at_call 28;refine (matches_any w1.heap.size a0 _).mono ?_;rintro e w3 ⟨rfl,hx1,hx2,hb3⟩))
 have hS0:=lhi (held_new w1 74 (fsC A n c g A2 n2 c2 fuel false))
 have hbS:=lhi ((Below.refl w1.heap.size w1).alloc (nlr _) (.cells (fsC A n c g A2 n2 c2 fuel false) 74))
 rw [show (w1.alloc (.cells #[.slice A n c,.int .i64 g,.slice A2 n2 c2,.int .i64 fuel,.bool false] 74)) = w1.alloc (.cells (fsC A n c g A2 n2 c2 fuel false) 74) from rfl] at hb3 hx1 hx2
 rw [show (w1.alloc (.cells (fsC A n c g A2 n2 c2 fuel false) 74)).heap.size = w1.heap.size + 1 from by simp] at hb3 hx1 hx2
 have hb13:=lhi (hbS.out.trans (hb3.mono (Nat.le_succ _)))
 have hw3:=lhi (hb1.out.trans (hb13.out.mono (by have:=hs1.out;omega)))
 have hSz : w1.heap.size + 1 + 1 < w3.heap.size:=hx2.lt
 have hSr : Srf w3 B w1.heap.size A n c A2 n2 c2 ns t g fuel false:=⟨hS0.out.below hb3 (Nat.lt_succ_self _),hIn.out w3 hw3.out,by have:=hBw.out;have:=hs1.out;omega⟩
 have hI0 : IFi w (w.heap.size + 1) (w.heap.size + 1 + 1) [] w3:=⟨rfl,hR11.out.keep hb13.out,hR21.out.keep hb13.out,hw3.out⟩
 have hs1':=hs1.out
 have hBw':=hBw.out
 refine wp_rangeFind (Y:=fun k => k = w.heap.size + 1 ∨ k = w.heap.size + 1 + 1) (M0:=fuel) (a0:=a0) rfl rfl hSr hx1 hx2 hok.out.1 haa.out hff.out.1 hff.out.2 (fun k hk e => by omega) (fun e => by omega) (fun e => by omega) (fun e => by omega)
  (fun pre W => IFi w (w.heap.size + 1) (w.heap.size + 1 + 1) pre W) (fun id xs W => XFi w (w.heap.size + 1) (w.heap.size + 1 + 1) B w1.heap.size A n c A2 n2 c2 ns t g a0 fuel id xs W)
  (fun pre A' C r hA hg hr => hA.abide hg (by omega) (by omega) (by omega)) (fun id pre A' C hA hg => hA.abide hg (by omega) (by omega) (by omega) (by omega) (by omega)) hI0 ?round ?done ?stop
 case round =>
  intro pre s left W hyl hsW hi hsz2
  obtain ⟨rfl,hi1,hi2,hiB⟩:=hi
  have hfs:=lhi (hyl.first hok.out.1)
  have hh1:=lhi hi1
  have hh2:=lhi hi2
  have hhB:=lhi hiB
  have hhs:=lhi hsW
  have hnull:=lhi (held_new W 31 #[.int .i64 0,.int .i64 0,.int .i64 0,.int .i64 0,.int .i64 0,.int .i64 0,.int .i64 0,.int .i64 0,.int .i64 0,.int .i64 0,.int .i64 0,.int .i64 0,.int .i64 0,.int .i64 0,.int .i64 0,.int .i64 0,.int .i64 0,.int .i64 0,.int .i64 0,.int .i64 0])
  have hsiz:=lhi hsz2
  clear hi1 hi2 hiB hyl hsW hsz2
  have hCs:=lhi (hitC_size s)
  have hCo:=lhi (hit_cells s)
  generalize hCM : hitC s = CM at *
  replace hCM:=lhi hCM
  gi_wp2_with (first
   | (refine wpListIn_store_blk rfl 31 (.tmp 13) (.tmp 38) rfl W.heap.size CM rfl rfl 31 _ hnull.out (by rw [hCs.out];exact size_hit) (by rw [hCs.out];rfl) hCo.out ?_))
  have hb5:=below_row ((Below.refl W.heap.size W).alloc (nlr _) (.cells #[.int .i64 0,.int .i64 0,.int .i64 0,.int .i64 0,.int .i64 0,.int .i64 0,.int .i64 0,.int .i64 0,.int .i64 0,.int .i64 0,.int .i64 0,.int .i64 0,.int .i64 0,.int .i64 0,.int .i64 0,.int .i64 0,.int .i64 0,.int .i64 0,.int .i64 0,.int .i64 0] 31)) (nlr _) CM
  have hK5:=hnull.out.row CM
  generalize (W.alloc (.cells #[.int .i64 0,.int .i64 0,.int .i64 0,.int .i64 0,.int .i64 0,.int .i64 0,.int .i64 0,.int .i64 0,.int .i64 0,.int .i64 0,.int .i64 0,.int .i64 0,.int .i64 0,.int .i64 0,.int .i64 0,.int .i64 0,.int .i64 0,.int .i64 0,.int .i64 0,.int .i64 0] 31)).setRow W.heap.size CM = w5 at *
  have hsz5:=hsiz.out
  refine ⟨⟨hb5.os,hb5.tape,hb5.output,hb5.size,fun k hk _ => hb5.block k hk⟩,⟨hb5.block _ (by omega),hb5.block _ (by omega)⟩,?_⟩
  intro w6 hg6
  have hg56:=grown_of hb5 (some w1.heap.size)
  have hv1:=lhi (((hh1.out.keep hb5)).grown hg6 (fun e => by have:=Option.some.inj e;omega))
  have hv2:=lhi (((hh2.out.keep hb5)).grown hg6 (fun e => by have:=Option.some.inj e;omega))
  have hvs:=lhi ((hhs.out.keep hb5).turned' hg6 (by omega) (by omega))
  have hvB:=lhi ((hhB.out.trans (hb5.mono (by have:=hhB.out.size;omega))).grown hg6 (Nat.le_trans hhB.out.size hb5.size) (fun k e => by cases e;omega))
  have hK6:=lhi (hK5.grown hg6 (fun e => by have:=Option.some.inj e;omega))
  have hsz6:=lhi (show W.heap.size + 1 ≤ w6.heap.size by have h1:=hK6.out.lt;omega)
  have hH1l:=hv1.out.lt
  have hv1r:=lhi (hv1.out.row CM)
  have hne12 : w.heap.size + 1 + 1 ≠ w.heap.size + 1:=by omega
  have hv2r:=lhi (hv2.out.row_far (g':=w.heap.size + 1) hne12 CM)
  have t9:=hv2r.out.thawed 0
  have c9 : (w6.setRow (w.heap.size + 1) CM).cell? ⟨w.heap.size + 1 + 1,0,none⟩ = some (.bool false):=hv2r.out.at_ rfl
  clear hb5 hK5 hh1 hh2 hhs hhB hnull hg6 hg56
  gi_wp2_with (first
   | (refine wpListIn_load_blk rfl 31 (.tmp 13) rfl W.heap.size rfl 31 CM _ hK6.out Try.underlying31 rfl (by rw [hCs.out];exact size_hit) ?_)
   | (refine wpListIn_store_blk rfl 31 (.tmp 8) (.tmp 39) rfl (w.heap.size + 1) CM rfl rfl 31 _ hv1.out (by rw [hCs.out];exact size_hit) (by rw [hCs.out];rfl) hCo.out ?_))
  have hgr:=grown_row (w:=w6) (b:=w.heap.size + 1) CM
  have hgc:=grown_cell (w6.setRow (w.heap.size + 1) CM) (w.heap.size + 1 + 1) 0 (.bool true)
  have h7s:=hgr.size
  have hsz56:=hsz6.out
  have hl8 : ∀ k,k < w6.heap.size → k ≠ w.heap.size + 1 → k ≠ w.heap.size + 1 + 1 → ((w6.setRow (w.heap.size + 1) CM).setCell ⟨w.heap.size + 1 + 1,0,none⟩ (.bool true)).heap[k]? = w6.heap[k]?:=fun k h1 h2 h3 =>
   (hgc.block k (by omega) (fun e => h3 (Option.some.inj e))).trans (hgr.block k h1 (fun e => h2 (Option.some.inj e)))
  refine ⟨⟨hl8 _ (by omega) (by omega) (by omega),hl8 _ (by omega) (by omega) (by omega)⟩,rfl,s,left,hfs.out,?_,hv2r.out.put 0 (.bool true),(hvs.out.turned' hgr (by omega) (by omega)).turned' hgc (by omega) (by omega),((hvB.out.grown hgr hvB.out.size (fun k e => by cases e;omega)).grown hgc (Nat.le_trans hvB.out.size hgr.size) (fun k e => by cases e;omega))⟩
  rw [hCM.out]
  exact hv1r.out.grown hgc (fun e => hne12 (Option.some.inj e).symm)
 case done =>
  intro xs left sh W hdn hsW hi hD
  obtain ⟨rfl,hv1,hv2,hB⟩:=hi
  cases sh with
  | true =>
   have hne12 : w.heap.size + 1 + 1 ≠ w.heap.size + 1:=by omega
   have hDl : w3.heap.size < W.heap.size:=(Array.getElem?_eq_some_iff.1 hD).1
   have hgr:=grown_row (w:=W) (b:=w.heap.size + 1) (hitC sp00)
   have hgc:=grown_cell (W.setRow (w.heap.size + 1) (hitC sp00)) (w.heap.size + 1 + 1) 0 (.bool false)
   have h7s:=hgr.size
   have h8s:=hgc.size
   have hD8 : ((W.setRow (w.heap.size + 1) (hitC sp00)).setCell ⟨w.heap.size + 1 + 1,0,none⟩ (.bool false)).heap[w3.heap.size]? = some (.deferred (some [])):=(hgc.block _ (by omega) (fun e => by have:=Option.some.inj e;omega)).trans ((hgr.block _ hDl (fun e => by have:=Option.some.inj e;omega)).trans hD)
   have hpo:=grown_putObj ((W.setRow (w.heap.size + 1) (hitC sp00)).setCell ⟨w.heap.size + 1 + 1,0,none⟩ (.bool false)) w3.heap.size (.deferred none)
   have hB9:=((hB.grown hgr hB.size (fun k e => by cases e;omega)).grown hgc (by have:=hB.size;omega) (fun k e => by cases e;omega)).grown hpo (by have:=hB.size;omega) (fun k e => by cases e;omega)
   have hv1r:=hv1.row (hitC sp00)
   have hv2r:=hv2.row_far (g':=w.heap.size + 1) hne12 (hitC sp00)
   have h19:=lhi ((hv1r.grown hgc (fun e => hne12 (Option.some.inj e).symm)).grown hpo (fun e => by have:=Option.some.inj e;omega))
   have h29:=lhi (((hv2r.put 0 (.bool false)).grown hpo (fun e => by have:=Option.some.inj e;omega)))
   have cd : (W.setRow (w.heap.size + 1) (hitC sp00)).cell? ⟨w.heap.size + 1 + 1,0,none⟩ = some (.bool false):=hv2r.at_ rfl
   have td : (W.setRow (w.heap.size + 1) (hitC sp00)).frozen? ⟨w.heap.size + 1 + 1,0,none⟩ = false:=hv2r.thawed 0
   have c4 : W.cell? ⟨w1.heap.size,4,none⟩ = some (.bool true):=hsW.held.at_ rfl
   have hfin:=lhi (show FirstP ns g t (a0 : Int) fuel (.returned (.tuple #[.agg (hitC sp00),.bool false,.int .i64 0,.int .i64 18])) ∧ Below w.heap.size w (((W.setRow (w.heap.size + 1) (hitC sp00)).setCell ⟨w.heap.size + 1 + 1,0,none⟩ (.bool false)).putObj w3.heap.size (.deferred none)) from ⟨.fuel hok.out (hdn.first_over hok.out.1),hB9⟩)
   have hv1h:=lhi hv1
   clear hdn hB9 hB hsW hgc hgr hpo hv1 hv2 hv1r hv2r
   go_wp2_with (first
    | (refine wpList_build_hit0 rfl rfl (hitC sp00) rfl ?_)
    | (refine wpList_store_row rfl 31 (.tmp 8) (.tmp 42) rfl (w.heap.size + 1) (hitC sp00) rfl rfl 31 _ hv1h.out (by rw [hitC_size];exact size_hit) rfl (hit_cells _) ?_))
   refine ⟨by simp,.inl ⟨_,_,rfl,run_takeDeferred hD8,?_⟩⟩
   exact ⟨_,results_cell_tcf Try.results15 _ _ (w.heap.size + 1) (w.heap.size + 1 + 1) (hitC sp00) false rfl rfl rfl rfl h19.out (hitC_size _) h29.out,hfin.out⟩
  | false =>
   have hne12 : w.heap.size + 1 + 1 ≠ w.heap.size + 1:=by omega
   have hDl : w3.heap.size < W.heap.size:=(Array.getElem?_eq_some_iff.1 hD).1
   have hCs:=lhi (show (hitC sp00).size = 20 from hitC_size _)
   have hCo:=lhi (show (hitC sp00).all (·.oneCell') = true from hit_cells _)
   have hgr:=grown_row (w:=W.drew) (b:=w.heap.size + 1) (hitC sp00)
   have hgc:=grown_cell (W.drew.setRow (w.heap.size + 1) (hitC sp00)) (w.heap.size + 1 + 1) 0 (.bool false)
   have h7s:=hgr.size
   have h7d : W.drew.heap.size = W.heap.size:=rfl
   have hD8 : (((W.drew.setRow (w.heap.size + 1) (hitC sp00)).setCell ⟨w.heap.size + 1 + 1,0,none⟩ (.bool false))).heap[w3.heap.size]? = some (.deferred (some [])):=(hgc.block _ (by omega) (fun e => by have:=Option.some.inj e;omega)).trans ((hgr.block _ hDl (fun e => by have:=Option.some.inj e;omega)).trans hD)
   have hpo:=grown_putObj (((W.drew.setRow (w.heap.size + 1) (hitC sp00)).setCell ⟨w.heap.size + 1 + 1,0,none⟩ (.bool false))) w3.heap.size (.deferred none)
   have h8s:=hgc.size
   have hB9:=((hB.drew.grown hgr (by have:=hB.size;exact this) (fun k e => by cases e;omega)).grown hgc (by have:=hB.size;omega) (fun k e => by cases e;omega)).grown hpo (by have:=hB.size;omega) (fun k e => by cases e;omega)
   have hv1r:=hv1.drew.row (hitC sp00)
   have hv2r:=hv2.drew.row_far (g':=w.heap.size + 1) hne12 (hitC sp00)
   have h19:=lhi ((hv1r.grown hgc (fun e => hne12 (Option.some.inj e).symm)).grown hpo (fun e => by have:=Option.some.inj e;omega))
   have h29:=lhi (((hv2r.put 0 (.bool false)).grown hpo (fun e => by have:=Option.some.inj e;omega)))
   have hS0':=lhi (show SFi w1.heap.size (w.heap.size + 1) (w.heap.size + 1 + 1) (fsC A n c g A2 n2 c2 left false) (hitC sp00) false W.drew from ⟨hsW.held.drew,hv1.drew,hv2.drew⟩)
   have hSa:=lhi (show SFi w1.heap.size (w.heap.size + 1) (w.heap.size + 1 + 1) (fsC A n c g A2 n2 c2 left false) (hitC sp00) false (W.drew.setRow (w.heap.size + 1) (hitC sp00)) from ⟨hsW.held.drew.row_far (by omega) _,hv1r,hv2r⟩)
   have hSb:=lhi (show SFi w1.heap.size (w.heap.size + 1) (w.heap.size + 1 + 1) (fsC A n c g A2 n2 c2 left false) (hitC sp00) false ((W.drew.setRow (w.heap.size + 1) (hitC sp00)).setCell ⟨w.heap.size + 1 + 1,0,none⟩ (.bool false)) from ⟨(hsW.held.drew.row_far (by omega) _).grown hgc (fun e => by have:=Option.some.inj e;omega),hv1r.grown hgc (fun e => hne12 (Option.some.inj e).symm),hv2r.put 0 (.bool false)⟩)
   have cd : (W.drew.setRow (w.heap.size + 1) (hitC sp00)).cell? ⟨w.heap.size + 1 + 1,0,none⟩ = some (.bool false):=hv2r.at_ rfl
   have td : (W.drew.setRow (w.heap.size + 1) (hitC sp00)).frozen? ⟨w.heap.size + 1 + 1,0,none⟩ = false:=hv2r.thawed 0
   have hH1d:=lhi hv1.drew
   have c4 : W.cell? ⟨w1.heap.size,4,none⟩ = some (.bool false):=hsW.held.at_ rfl
   have hfin:=lhi (show FirstP ns g t (a0 : Int) fuel (.returned (.tuple #[.agg (hitC sp00),.bool false,.int .i64 left,.int .i64 0])) ∧ Below w.heap.size w (((W.drew.setRow (w.heap.size + 1) (hitC sp00)).setCell ⟨w.heap.size + 1 + 1,0,none⟩ (.bool false)).putObj w3.heap.size (.deferred none)) from ⟨.fine hok.out (b:=none) (hdn.first hok.out.1),hB9⟩)
   clear hdn
   clear hB9 hB hsW hgc hgr hpo hv1 hv2 hv1r hv2r
   generalize (hitC sp00) = CM at *
   go_wp2
   refine wpIn_wide (n:=3).1 (wpIn_mono (Q:=Exit.then _ (fun _ _ _ => False)) (wpIn_wide.2 ?_) (by intro e a w h;cases e <;> first | exact h | exact h.elim))
   refine wp_region_held_drew (S:=SFi w1.heap.size (w.heap.size + 1) (w.heap.size + 1 + 1) (fsC A n c g A2 n2 c2 left false) CM false) (by kernel_rfl) hS0'.out (fun hS => ?_)
   refine wpAnyH_take (i:=0) (v:=_) rfl (by kernel_rfl) (by kernel_rfl) (by kernel_rfl) (fun _ _ _ h => h) (yieldsIf_load_mid (by rfl) _ _ rfl (w.heap.size + 1) 0 rfl (CM.toList) _ (fun _ hS' => hS'.2.1.range) Try.underlying31 rfl (by rw [Array.length_toList,hCs.out];exact size_hit)) hS ?_
   (try simp only [Act.put,List.getElem_toArray,List.getElem_cons_zero,List.getElem_cons_succ,List.setIfInBounds_toArray,List.set_cons_zero,List.set_cons_succ])
   refine wpAnyH_take (i:=1) (v:=?_) rfl (by kernel_rfl) (by kernel_rfl) (by kernel_rfl) (fun _ _ _ h => h) (Or.inl ⟨by rfl,?_⟩) hS ?_
   rotate_left
   · (intro w' hS';have hc : w'.cell? ⟨w.heap.size + 1 + 1,0,none⟩ = some (.bool false):=hS'.2.2.at_ rfl;go_simp;try with_reducible rfl)
   (try simp only [Act.put,List.getElem_toArray,List.getElem_cons_zero,List.getElem_cons_succ,List.setIfInBounds_toArray,List.set_cons_zero,List.set_cons_succ])
   refine wpAnyH_take (i:=2) (v:=?_) rfl (by kernel_rfl) (by kernel_rfl) (by kernel_rfl) (fun _ _ _ h => h) (Or.inl ⟨by rfl,?_⟩) hS ?_
   rotate_left
   · (intro w' hS';go_simp;try with_reducible rfl)
   (try simp only [Act.put,List.getElem_toArray,List.getElem_cons_zero,List.getElem_cons_succ,List.setIfInBounds_toArray,List.set_cons_zero,List.set_cons_succ])
   refine wpAnyH_take (i:=3) (v:=?_) rfl (by kernel_rfl) (by kernel_rfl) (by kernel_rfl) (fun _ _ _ h => h) (Or.inl ⟨by rfl,?_⟩) hS ?_
   rotate_left
   · (intro w' hS';have hc : w'.cell? ⟨w1.heap.size,3,none⟩ = some (.int .i64 left):=hS'.1.at_ rfl;go_simp;try with_reducible rfl)
   (try simp only [Act.put,List.getElem_toArray,List.getElem_cons_zero,List.getElem_cons_succ,List.setIfInBounds_toArray,List.set_cons_zero,List.set_cons_succ])
   refine wpAnyH_ready (rs:=[4]) (by kernel_rfl) (by simp) ?_
   refine AllReadyH.cons rfl (fun K hK => ?_) AllReadyH.nil
   refine step_store_hit (.tmp 8) (.tmp 43) rfl rfl (w.heap.size + 1) rfl CM rfl CM hH1d.out hCs.out hCs.out hCo.out ?_
   refine hK.out _ _ hSa.out (fun _ => ?_)
   clear hK K
   replace hS:=hSa.out
   (try simp only [Act.put,List.getElem_toArray,List.getElem_cons_zero,List.getElem_cons_succ,List.setIfInBounds_toArray,List.set_cons_zero,List.set_cons_succ])
   refine wpAnyH_ready (rs:=[5]) (by kernel_rfl) (by simp) ?_
   refine AllReadyH.cons rfl (fun K hK => ?_) AllReadyH.nil
   go_simp
   refine hK.out _ _ hSb.out (fun _ => ?_)
   clear hK K
   replace hS:=hSb.out
   (try simp only [Act.put,List.getElem_toArray,List.getElem_cons_zero,List.getElem_cons_succ,List.setIfInBounds_toArray,List.set_cons_zero,List.set_cons_succ])
   refine wpAnyH_take (i:=6) (v:=?_) rfl (by kernel_rfl) (by kernel_rfl) (by kernel_rfl) (fun _ _ _ h => h) (Or.inl ⟨by rfl,?_⟩) hS ?_
   rotate_left
   · (intro w' hS';go_simp;try with_reducible rfl)
   (try simp only [Act.put,List.getElem_toArray,List.getElem_cons_zero,List.getElem_cons_succ,List.setIfInBounds_toArray,List.set_cons_zero,List.set_cons_succ])
   refine wpAnyH_take (i:=7) (v:=?_) rfl (by kernel_rfl) (by kernel_rfl) (by kernel_rfl) (fun _ _ _ h => h) (Or.inl ⟨by rfl,?_⟩) hS ?_
   rotate_left
   · (intro w' hS';go_simp;try with_reducible rfl)
   (try simp only [Act.put,List.getElem_toArray,List.getElem_cons_zero,List.getElem_cons_succ,List.setIfInBounds_toArray,List.set_cons_zero,List.set_cons_succ])
   refine wpAnyH_done (by kernel_rfl) ?_ _
   go_wp2
   refine ⟨by simp,.inl ⟨_,_,rfl,run_takeDeferred hD8,?_⟩⟩
   exact ⟨_,results_cell_tcf Try.results15 _ _ (w.heap.size + 1) (w.heap.size + 1 + 1) CM false rfl rfl rfl rfl h19.out hCs.out h29.out,hfin.out⟩
 case stop =>
  intro id pre s left W hyl hx hD
  obtain ⟨rfl,s',left',hfs,hv1,hv2,hsW,hB⟩:=hx
  clear hyl
  have hne12 : w.heap.size + 1 + 1 ≠ w.heap.size + 1:=by omega
  have hDl : w3.heap.size < W.heap.size:=(Array.getElem?_eq_some_iff.1 hD).1
  have hCs:=lhi (show (hitC s').size = 20 from hitC_size _)
  have hCo:=lhi (show (hitC s').all (·.oneCell') = true from hit_cells _)
  have hgr:=grown_row (w:=W.drew) (b:=w.heap.size + 1) (hitC s')
  have hgc:=grown_cell (W.drew.setRow (w.heap.size + 1) (hitC s')) (w.heap.size + 1 + 1) 0 (.bool true)
  have h7s:=hgr.size
  have h7d : W.drew.heap.size = W.heap.size:=rfl
  have hD8 : (((W.drew.setRow (w.heap.size + 1) (hitC s')).setCell ⟨w.heap.size + 1 + 1,0,none⟩ (.bool true))).heap[w3.heap.size]? = some (.deferred (some [])):=(hgc.block _ (by omega) (fun e => by have:=Option.some.inj e;omega)).trans ((hgr.block _ hDl (fun e => by have:=Option.some.inj e;omega)).trans hD)
  have hpo:=grown_putObj (((W.drew.setRow (w.heap.size + 1) (hitC s')).setCell ⟨w.heap.size + 1 + 1,0,none⟩ (.bool true))) w3.heap.size (.deferred none)
  have h8s:=hgc.size
  have hB9:=((hB.drew.grown hgr (by have:=hB.size;exact this) (fun k e => by cases e;omega)).grown hgc (by have:=hB.size;omega) (fun k e => by cases e;omega)).grown hpo (by have:=hB.size;omega) (fun k e => by cases e;omega)
  have hv1r:=hv1.drew.row (hitC s')
  have hv2r:=hv2.drew.row_far (g':=w.heap.size + 1) hne12 (hitC s')
  have h19:=lhi ((hv1r.grown hgc (fun e => hne12 (Option.some.inj e).symm)).grown hpo (fun e => by have:=Option.some.inj e;omega))
  have h29:=lhi (((hv2r.put 0 (.bool true)).grown hpo (fun e => by have:=Option.some.inj e;omega)))
  have hS0':=lhi (show SFi w1.heap.size (w.heap.size + 1) (w.heap.size + 1 + 1) (fsC A n c g A2 n2 c2 left' false) (hitC s') true W.drew from ⟨hsW.held.drew,hv1.drew,hv2.drew⟩)
  have hSa:=lhi (show SFi w1.heap.size (w.heap.size + 1) (w.heap.size + 1 + 1) (fsC A n c g A2 n2 c2 left' false) (hitC s') true (W.drew.setRow (w.heap.size + 1) (hitC s')) from ⟨hsW.held.drew.row_far (by omega) _,hv1r,hv2r⟩)
  have hSb:=lhi (show SFi w1.heap.size (w.heap.size + 1) (w.heap.size + 1 + 1) (fsC A n c g A2 n2 c2 left' false) (hitC s') true ((W.drew.setRow (w.heap.size + 1) (hitC s')).setCell ⟨w.heap.size + 1 + 1,0,none⟩ (.bool true)) from ⟨(hsW.held.drew.row_far (by omega) _).grown hgc (fun e => by have:=Option.some.inj e;omega),hv1r.grown hgc (fun e => hne12 (Option.some.inj e).symm),hv2r.put 0 (.bool true)⟩)
  have cd : (W.drew.setRow (w.heap.size + 1) (hitC s')).cell? ⟨w.heap.size + 1 + 1,0,none⟩ = some (.bool true):=hv2r.at_ rfl
  have td : (W.drew.setRow (w.heap.size + 1) (hitC s')).frozen? ⟨w.heap.size + 1 + 1,0,none⟩ = false:=hv2r.thawed 0
  have hH1d:=lhi hv1.drew
  have c4 : W.cell? ⟨w1.heap.size,4,none⟩ = some (.bool false):=hsW.held.at_ rfl
  have hfin:=lhi (show FirstP ns g t (a0 : Int) fuel (.returned (.tuple #[.agg (hitC s'),.bool true,.int .i64 left',.int .i64 0])) ∧ Below w.heap.size w (((W.drew.setRow (w.heap.size + 1) (hitC s')).setCell ⟨w.heap.size + 1 + 1,0,none⟩ (.bool true)).putObj w3.heap.size (.deferred none)) from ⟨.fine hok.out (b:=some s') hfs,hB9⟩)
  clear hfs
  clear hB9 hB hsW hgc hgr hpo hv1 hv2 hv1r hv2r
  generalize (hitC s') = CM at *
  go_wp2
  refine wpIn_wide (n:=3).1 (wpIn_mono (Q:=Exit.then _ (fun _ _ _ => False)) (wpIn_wide.2 ?_) (by intro e a w h;cases e <;> first | exact h | exact h.elim))
  refine wp_region_held_drew (S:=SFi w1.heap.size (w.heap.size + 1) (w.heap.size + 1 + 1) (fsC A n c g A2 n2 c2 left' false) CM true) (by kernel_rfl) hS0'.out (fun hS => ?_)
  refine wpAnyH_take (i:=0) (v:=_) rfl (by kernel_rfl) (by kernel_rfl) (by kernel_rfl) (fun _ _ _ h => h) (yieldsIf_load_mid (by rfl) _ _ rfl (w.heap.size + 1) 0 rfl (CM.toList) _ (fun _ hS' => hS'.2.1.range) Try.underlying31 rfl (by rw [Array.length_toList,hCs.out];exact size_hit)) hS ?_
  (try simp only [Act.put,List.getElem_toArray,List.getElem_cons_zero,List.getElem_cons_succ,List.setIfInBounds_toArray,List.set_cons_zero,List.set_cons_succ])
  refine wpAnyH_take (i:=1) (v:=?_) rfl (by kernel_rfl) (by kernel_rfl) (by kernel_rfl) (fun _ _ _ h => h) (Or.inl ⟨by rfl,?_⟩) hS ?_
  rotate_left
  · (intro w' hS';have hc : w'.cell? ⟨w.heap.size + 1 + 1,0,none⟩ = some (.bool true):=hS'.2.2.at_ rfl;go_simp;try with_reducible rfl)
  (try simp only [Act.put,List.getElem_toArray,List.getElem_cons_zero,List.getElem_cons_succ,List.setIfInBounds_toArray,List.set_cons_zero,List.set_cons_succ])
  refine wpAnyH_take (i:=2) (v:=?_) rfl (by kernel_rfl) (by kernel_rfl) (by kernel_rfl) (fun _ _ _ h => h) (Or.inl ⟨by rfl,?_⟩) hS ?_
  rotate_left
  · (intro w' hS';go_simp;try with_reducible rfl)
  (try simp only [Act.put,List.getElem_toArray,List.getElem_cons_zero,List.getElem_cons_succ,List.setIfInBounds_toArray,List.set_cons_zero,List.set_cons_succ])
  refine wpAnyH_take (i:=3) (v:=?_) rfl (by kernel_rfl) (by kernel_rfl) (by kernel_rfl) (fun _ _ _ h => h) (Or.inl ⟨by rfl,?_⟩) hS ?_
  rotate_left
  · (intro w' hS';have hc : w'.cell? ⟨w1.heap.size,3,none⟩ = some (.int .i64 left'):=hS'.1.at_ rfl;go_simp;try with_reducible rfl)
  (try simp only [Act.put,List.getElem_toArray,List.getElem_cons_zero,List.getElem_cons_succ,List.setIfInBounds_toArray,List.set_cons_zero,List.set_cons_succ])
  refine wpAnyH_ready (rs:=[4]) (by kernel_rfl) (by simp) ?_
  refine AllReadyH.cons rfl (fun K hK => ?_) AllReadyH.nil
  refine step_store_hit (.tmp 8) (.tmp 43) rfl rfl (w.heap.size + 1) rfl CM rfl CM hH1d.out hCs.out hCs.out hCo.out ?_
  refine hK.out _ _ hSa.out (fun _ => ?_)
  clear hK K
  replace hS:=hSa.out
  (try simp only [Act.put,List.getElem_toArray,List.getElem_cons_zero,List.getElem_cons_succ,List.setIfInBounds_toArray,List.set_cons_zero,List.set_cons_succ])
  refine wpAnyH_ready (rs:=[5]) (by kernel_rfl) (by simp) ?_
  refine AllReadyH.cons rfl (fun K hK => ?_) AllReadyH.nil
  go_simp
  refine hK.out _ _ hSb.out (fun _ => ?_)
  clear hK K
  replace hS:=hSb.out
  (try simp only [Act.put,List.getElem_toArray,List.getElem_cons_zero,List.getElem_cons_succ,List.setIfInBounds_toArray,List.set_cons_zero,List.set_cons_succ])
  refine wpAnyH_take (i:=6) (v:=?_) rfl (by kernel_rfl) (by kernel_rfl) (by kernel_rfl) (fun _ _ _ h => h) (Or.inl ⟨by rfl,?_⟩) hS ?_
  rotate_left
  · (intro w' hS';go_simp;try with_reducible rfl)
  (try simp only [Act.put,List.getElem_toArray,List.getElem_cons_zero,List.getElem_cons_succ,List.setIfInBounds_toArray,List.set_cons_zero,List.set_cons_succ])
  refine wpAnyH_take (i:=7) (v:=?_) rfl (by kernel_rfl) (by kernel_rfl) (by kernel_rfl) (fun _ _ _ h => h) (Or.inl ⟨by rfl,?_⟩) hS ?_
  rotate_left
  · (intro w' hS';go_simp;try with_reducible rfl)
  (try simp only [Act.put,List.getElem_toArray,List.getElem_cons_zero,List.getElem_cons_succ,List.setIfInBounds_toArray,List.set_cons_zero,List.set_cons_succ])
  refine wpAnyH_done (by kernel_rfl) ?_ _
  go_wp2
  refine ⟨by simp,.inl ⟨_,_,rfl,run_takeDeferred hD8,?_⟩⟩
  exact ⟨_,results_cell_tcf Try.results15 _ _ (w.heap.size + 1) (w.heap.size + 1 + 1) CM true rfl rfl rfl rfl h19.out hCs.out h29.out,hfin.out⟩
end
end Go.Proofs.Ytjopmieaikgbcaa
