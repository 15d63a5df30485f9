/- Contracts and plain facts: M30. -/
import Derived.Test.YtbdfhmefjfaofaaM29
set_option linter.unusedVariables false
set_option linter.unusedSimpArgs false
set_option maxRecDepth 100000
set_option maxHeartbeats 32000000
namespace Go.Proofs.Ytbdfhmefjfaofaa
open Go.RowKit
inductive AtP (ns : List Nod) (g : Int) (t : List UInt8) (at_ fuel : Int) : Ending → Prop
 | arg (h : ¬ (rightN ns g = true ∧ (0 ≤ at_ ∧ at_ ≤ t.length) ∧ 0 ≤ fuel)) : AtP ns g t at_ fuel (.returned (.tuple #[.agg (hitC sp00),.bool false,.int .i64 0,.int .i64 1]))
 | fuel (h : rightN ns g = true ∧ (0 ≤ at_ ∧ at_ ≤ t.length) ∧ 0 ≤ fuel) (hx : Told11 ns t ((ns.length : Int) - 1) at_.toNat fuel none) : AtP ns g t at_ fuel (.returned (.tuple #[.agg (hitC sp00),.bool false,.int .i64 0,.int .i64 18]))
 | fine (h : rightN ns g = true ∧ (0 ≤ at_ ∧ at_ ≤ t.length) ∧ 0 ≤ fuel) {b : Option Spn} {left : Nat} (hx : Told11 ns t ((ns.length : Int) - 1) at_.toNat fuel (some (b,(left : Int)))) : AtP ns g t at_ fuel (.returned (.tuple #[.agg (hitC (ansS b)),.bool b.isSome,.int .i64 (left : Int),.int .i64 0]))
theorem results_cell_four {P : Program} {fn : Func} {p q r s : Tmp} {ty : TypeId} (h : fn.results = #[.cell p ty,.tmp q,.tmp r,.tmp s]) (tmps : Array Value) (w : World) (g : Nat) (t : TypeId) (cs : Array Value) (fr : Nat × Nat) (d : TypeDesc)
    (hp : tmps.getD p undef = .pointer (some ⟨g,0,none⟩)) {x y z : Value} (hx : tmps.getD q undef = x) (hy : tmps.getD r undef = y) (hz : tmps.getD s undef = z) (hg : w.heap[g]? = some (.cells cs t fr))
    (hu : P.underlying ty = some d) (hd : (match d with | .struct _ | .array _ _ => true | _ => false) = true) (hi : (P.info? ty).map (·.size) = some cs.size) :
    (results fn tmps).run P w = .ok (.tuple #[.agg cs,x,y,z]) w:=by
 have hp' : tmps[p]?.getD undef = .pointer (some ⟨g,0,none⟩):=by simpa using hp
 have hx' : tmps[q]?.getD undef = x:=by simpa using hx
 have hy' : tmps[r]?.getD undef = y:=by simpa using hy
 have hz' : tmps[s]?.getD undef = z:=by simpa using hz
 simp [results,h,hp',hx',hy',hz',asAddr,run_loadVar_row w g t ty cs fr d hg hu hd hi]
theorem size_srch : (Try.prog.info? 57).map (·.size) = some 26:=by kernel_rfl
theorem build_srch (An At : Option Addr) (nn cn nt ct : Nat) (a f : Int) (w : World) : (Instr.build 57 #[(0,.slice An nn cn),(1,.slice At nt ct),(2,.int .i64 a),(3,.int .i64 f)]).run Try.prog w = .ok (.agg #[.slice An nn cn,.slice At nt ct,.int .i64 a,.int .i64 f,.slice none 0 0,.int .i64 0,.int .i64 0,.int .i64 0,.int .i64 0,.int .i64 0,.int .i64 0,.int .i64 0,.int .i64 0,.int .i64 0,.int .i64 0,.int .i64 0,.int .i64 0,.int .i64 0,.int .i64 0,.int .i64 0,.int .i64 0,.int .i64 0,.int .i64 0,.int .i64 0,.int .i64 0,.bool false]) w:=run_build w _ _ _ (by kernel_rfl)
theorem build_hit0 (w : World) : (Instr.build 31 #[]).run Try.prog w = .ok (.agg (hitC sp00)) w:=run_build w _ _ _ (by kernel_rfl)
theorem wpList_build_srch {ops : Array Oper} {rest : List Oper} {o : Oper} {a : Act} {w : World} {Q : Exit → Act → World → Prop} (hg : o.guard = none) (x0 x1 x2 x3 : Operand) (ho : o.op = .build 57 #[(0,x0),(1,x1),(2,x2),(3,x3)]) (An At : Option Addr) (nn cn nt ct i f : Nat) (h0 : a.eval x0 = .slice An nn cn) (h1 : a.eval x1 = .slice At nt ct) (h2 : a.eval x2 = .int .i64 (i : Int)) (h3 : a.eval x3 = .int .i64 (f : Int)) (C : Array Value) (hC : srchC An nn cn At nt ct i f (.slice none 0 0) none = C)
    (h : wpList Try.prog ops Q rest (a.put o.dst (.agg C)) w) : wpList Try.prog ops Q (o :: rest) a w :=
 wpList_plain hg fun _ hK => by
  subst hC
  unfold Oper.wp execOp
  simp only [ho,Sem.run_bind,List.map_toArray,List.map_cons,List.map_nil,h0,h1,h2,h3,build_srch,Result.andThen_ok]
  exact hK _ _ h
theorem wpList_build_hit0 {ops : Array Oper} {rest : List Oper} {o : Oper} {a : Act} {w : World} {Q : Exit → Act → World → Prop} (hg : o.guard = none) (ho : o.op = .build 31 #[]) (C : Array Value) (hC : hitC sp00 = C)
    (h : wpList Try.prog ops Q rest (a.put o.dst (.agg C)) w) : wpList Try.prog ops Q (o :: rest) a w :=
 wpList_plain hg fun _ hK => by
  subst hC
  unfold Oper.wp execOp
  simp only [ho,Sem.run_bind,List.map_toArray,List.map_nil,build_hit0,Result.andThen_ok]
  exact hK _ _ h
theorem srch_cells {An At : Option Addr} {nn cn nt ct a f : Nat} : (srchC An nn cn At nt ct a f (.slice none 0 0) none).all (·.oneCell') = true:=by
 unfold srchC
 simp [Value.oneCell']
theorem srch_rangeS {w : World} {S : Nat} {An : Option Addr} {nn cn : Nat} {At : Option Addr} {nt ct : Nat} {a left : Nat} {v : Value} {b : Option Spn} (h : Held w S 57 (srchC An nn cn At nt ct a left v b)) : w.rangeAt S 5 (hitL (ansS b)):=fun j u hj => by
 refine h.at_ ?_
 have hlt : j < 20:=by have:=(List.getElem?_eq_some_iff.1 hj).1;rwa [hitL_len] at this
 have : j = 0 ∨ j = 1 ∨ j = 2 ∨ j = 3 ∨ j = 4 ∨ j = 5 ∨ j = 6 ∨ j = 7 ∨ j = 8 ∨ j = 9 ∨ j = 10 ∨ j = 11 ∨ j = 12 ∨ j = 13 ∨ j = 14 ∨ j = 15 ∨ j = 16 ∨ j = 17 ∨ j = 18 ∨ j = 19:=by omega
 rcases this with rfl | rfl | rfl | rfl | rfl | rfl | rfl | rfl | rfl | rfl | rfl | rfl | rfl | rfl | rfl | rfl | rfl | rfl | rfl | rfl <;> exact hj
section
variable {w : World} {B : Nat} {A A2 : Option Addr} {n c n2 c2 : Nat} {ns : List Nod} {t : List UInt8} {g at_ fuel : Int}
structure AtIn (w : World) (B : Nat) (A : Option Addr) (n c : Nat) (A2 : Option Addr) (n2 c2 : Nat) (ns : List Nod) (t : List UInt8) : Prop where
 hn : n = ns.length
 hnc : n ≤ c
 hcm : c ≤ maxLen
 base : B ≤ w.heap.size
 nods : Nods w B A ns
 hn2 : n2 = t.length
 hnc2 : n2 ≤ c2
 hcm2 : c2 ≤ maxLen
 hl2 : n2 ≤ 1000000
 byt : Byt w B A2 t
theorem AtIn.below {w' : World} (h : AtIn w B A n c A2 n2 c2 ns t) (hb : Below B w w') : AtIn w' B A n c A2 n2 c2 ns t:={ h with base:=Nat.le_trans h.base hb.size,nods:=h.nods.below hb,byt:=h.byt.below hb }
theorem mat_right (h : AtIn w B A n c A2 n2 c2 ns t) (h1 : rightN ns g = false) : Calls Try.prog 10 #[.agg #[.slice A n c,.int .i64 g],.slice A2 n2 c2,.int .i64 at_,.int .i64 fuel] w fun e w' => AtP ns g t at_ fuel e ∧ Below w.heap.size w w':=by
 have hbad:=lhi (show AtP ns g t at_ fuel _ from .arg (by rintro ⟨q,-⟩;rw [h1] at q;cases q))
 have hb0:=lhi (((Below.refl w.heap.size w).alloc (nlr _) (.cells #[.slice A n c,.int .i64 g] 24)).alloc (by simp) (.cells (hitC sp00) 31))
 have hR:=lhi (fun w' (hb : Below w.heap.size w w') => right_any A n c ns g B w' h.hn h.hnc h.hcm (Nat.le_trans h.base hb.size) (h.nods.below (hb.mono h.base)))
 have hH:=lhi (held_new2 w (.cells #[.slice A n c,.int .i64 g] 24) 31 (hitC sp00))
 rw [h1] at hR
 rw [show hitC sp00 = #[.int .i64 0,.int .i64 0,.int .i64 0,.int .i64 0,.int .i64 0,.int .i64 0,.int .i64 0,.int .i64 0,.int .i64 0,.int .i64 0,.int .i64 0,.int .i64 0,.int .i64 0,.int .i64 0,.int .i64 0,.int .i64 0,.int .i64 0,.int .i64 0,.int .i64 0,.int .i64 0] from rfl] at hb0
 clear h
 go_enter Try.func10,Try.ntmps10
 go_wp2_with (first
  | (go_at_call 21;refine (hR.out _ hb0.out).mono ?_;rintro e w1 ⟨rfl,hb1⟩;have hH1:=lhi (hH.out.keep hb1);replace hb1:=lhi (hb0.out.trans (hb1.mono hb0.out.size)))
  | (refine wpList_build_hit0 rfl rfl (hitC sp00) rfl ?_)
  | (refine wpList_store_row rfl 31 (.tmp 8) (.tmp 30) rfl (w.heap.size + 1) (hitC sp00) rfl rfl 31 _ hH1.out (by rw [hitC_size];exact size_hit) rfl (hit_cells _) ?_))
 exact bodyPost_ret (results_cell_four Try.results10 _ _ (w.heap.size + 1) 31 (hitC sp00) (0,0) _ rfl rfl rfl rfl (hH1.out.row _) Try.underlying31 rfl (by rw [hitC_size];exact size_hit)) rfl ⟨hbad.out,below_row hb1.out (Nat.le_succ _) _⟩
theorem mat_low (h : AtIn w B A n c A2 n2 c2 ns t) (h1 : rightN ns g = true) (h2 : at_ < 0) : Calls Try.prog 10 #[.agg #[.slice A n c,.int .i64 g],.slice A2 n2 c2,.int .i64 at_,.int .i64 fuel] w fun e w' => AtP ns g t at_ fuel e ∧ Below w.heap.size w w':=by
 have hbad:=lhi (show AtP ns g t at_ fuel _ from .arg (by rintro ⟨-,q,-⟩;omega))
 have hb0:=lhi (((Below.refl w.heap.size w).alloc (nlr _) (.cells #[.slice A n c,.int .i64 g] 24)).alloc (by simp) (.cells (hitC sp00) 31))
 have hR:=lhi (fun w' (hb : Below w.heap.size w w') => right_any A n c ns g B w' h.hn h.hnc h.hcm (Nat.le_trans h.base hb.size) (h.nods.below (hb.mono h.base)))
 have hH:=lhi (held_new2 w (.cells #[.slice A n c,.int .i64 g] 24) 31 (hitC sp00))
 rw [h1] at hR
 have d1 : decide (at_ < 0) = true:=decide_eq_true h2
 rw [show hitC sp00 = #[.int .i64 0,.int .i64 0,.int .i64 0,.int .i64 0,.int .i64 0,.int .i64 0,.int .i64 0,.int .i64 0,.int .i64 0,.int .i64 0,.int .i64 0,.int .i64 0,.int .i64 0,.int .i64 0,.int .i64 0,.int .i64 0,.int .i64 0,.int .i64 0,.int .i64 0,.int .i64 0] from rfl] at hb0
 clear h
 go_enter Try.func10,Try.ntmps10
 go_wp2_with (first
  | (go_at_call 21;refine (hR.out _ hb0.out).mono ?_;rintro e w1 ⟨rfl,hb1⟩;have hH1:=lhi (hH.out.keep hb1);replace hb1:=lhi (hb0.out.trans (hb1.mono hb0.out.size)))
  | (refine wpList_build_hit0 rfl rfl (hitC sp00) rfl ?_)
  | (refine wpList_store_row rfl 31 (.tmp 8) (.tmp 30) rfl (w.heap.size + 1) (hitC sp00) rfl rfl 31 _ hH1.out (by rw [hitC_size];exact size_hit) rfl (hit_cells _) ?_))
 exact bodyPost_ret (results_cell_four Try.results10 _ _ (w.heap.size + 1) 31 (hitC sp00) (0,0) _ rfl rfl rfl rfl (hH1.out.row _) Try.underlying31 rfl (by rw [hitC_size];exact size_hit)) rfl ⟨hbad.out,below_row hb1.out (Nat.le_succ _) _⟩
theorem mat_high (h : AtIn w B A n c A2 n2 c2 ns t) (h1 : rightN ns g = true) (h2 : ¬ at_ < 0) (h3 : (t.length : Int) < at_) : Calls Try.prog 10 #[.agg #[.slice A n c,.int .i64 g],.slice A2 n2 c2,.int .i64 at_,.int .i64 fuel] w fun e w' => AtP ns g t at_ fuel e ∧ Below w.heap.size w w':=by
 have hbad:=lhi (show AtP ns g t at_ fuel _ from .arg (by rintro ⟨-,q,-⟩;omega))
 have hb0:=lhi (((Below.refl w.heap.size w).alloc (nlr _) (.cells #[.slice A n c,.int .i64 g] 24)).alloc (by simp) (.cells (hitC sp00) 31))
 have hR:=lhi (fun w' (hb : Below w.heap.size w w') => right_any A n c ns g B w' h.hn h.hnc h.hcm (Nat.le_trans h.base hb.size) (h.nods.below (hb.mono h.base)))
 have hH:=lhi (held_new2 w (.cells #[.slice A n c,.int .i64 g] 24) 31 (hitC sp00))
 rw [h1] at hR
 have d1 : decide (at_ < 0) = false:=decide_eq_false h2
 have h4 : (n2 : Int) < at_:=by have:=h.hn2;omega
 have d2 : decide ((n2 : Int) < at_) = true:=decide_eq_true h4
 rw [show hitC sp00 = #[.int .i64 0,.int .i64 0,.int .i64 0,.int .i64 0,.int .i64 0,.int .i64 0,.int .i64 0,.int .i64 0,.int .i64 0,.int .i64 0,.int .i64 0,.int .i64 0,.int .i64 0,.int .i64 0,.int .i64 0,.int .i64 0,.int .i64 0,.int .i64 0,.int .i64 0,.int .i64 0] from rfl] at hb0
 clear h
 go_enter Try.func10,Try.ntmps10
 go_wp2_with (first
  | (go_at_call 21;refine (hR.out _ hb0.out).mono ?_;rintro e w1 ⟨rfl,hb1⟩;have hH1:=lhi (hH.out.keep hb1);replace hb1:=lhi (hb0.out.trans (hb1.mono hb0.out.size)))
  | (refine wpList_build_hit0 rfl rfl (hitC sp00) rfl ?_)
  | (refine wpList_store_row rfl 31 (.tmp 8) (.tmp 30) rfl (w.heap.size + 1) (hitC sp00) rfl rfl 31 _ hH1.out (by rw [hitC_size];exact size_hit) rfl (hit_cells _) ?_))
 exact bodyPost_ret (results_cell_four Try.results10 _ _ (w.heap.size + 1) 31 (hitC sp00) (0,0) _ rfl rfl rfl rfl (hH1.out.row _) Try.underlying31 rfl (by rw [hitC_size];exact size_hit)) rfl ⟨hbad.out,below_row hb1.out (Nat.le_succ _) _⟩
theorem mat_fuel (h : AtIn w B A n c A2 n2 c2 ns t) (h1 : rightN ns g = true) (h2 : ¬ at_ < 0) (h3 : ¬ (t.length : Int) < at_) (h4 : fuel < 0) : Calls Try.prog 10 #[.agg #[.slice A n c,.int .i64 g],.slice A2 n2 c2,.int .i64 at_,.int .i64 fuel] w fun e w' => AtP ns g t at_ fuel e ∧ Below w.heap.size w w':=by
 have hbad:=lhi (show AtP ns g t at_ fuel _ from .arg (by rintro ⟨-,-,q⟩;omega))
 have hb0:=lhi (((Below.refl w.heap.size w).alloc (nlr _) (.cells #[.slice A n c,.int .i64 g] 24)).alloc (by simp) (.cells (hitC sp00) 31))
 have hR:=lhi (fun w' (hb : Below w.heap.size w w') => right_any A n c ns g B w' h.hn h.hnc h.hcm (Nat.le_trans h.base hb.size) (h.nods.below (hb.mono h.base)))
 have hH:=lhi (held_new2 w (.cells #[.slice A n c,.int .i64 g] 24) 31 (hitC sp00))
 rw [h1] at hR
 have d1 : decide (at_ < 0) = false:=decide_eq_false h2
 have h5 : ¬ (n2 : Int) < at_:=by have:=h.hn2;omega
 have d2 : decide ((n2 : Int) < at_) = false:=decide_eq_false h5
 have d3 : decide (fuel < 0) = true:=decide_eq_true h4
 rw [show hitC sp00 = #[.int .i64 0,.int .i64 0,.int .i64 0,.int .i64 0,.int .i64 0,.int .i64 0,.int .i64 0,.int .i64 0,.int .i64 0,.int .i64 0,.int .i64 0,.int .i64 0,.int .i64 0,.int .i64 0,.int .i64 0,.int .i64 0,.int .i64 0,.int .i64 0,.int .i64 0,.int .i64 0] from rfl] at hb0
 clear h
 go_enter Try.func10,Try.ntmps10
 go_wp2_with (first
  | (go_at_call 21;refine (hR.out _ hb0.out).mono ?_;rintro e w1 ⟨rfl,hb1⟩;have hH1:=lhi (hH.out.keep hb1);replace hb1:=lhi (hb0.out.trans (hb1.mono hb0.out.size)))
  | (refine wpList_build_hit0 rfl rfl (hitC sp00) rfl ?_)
  | (refine wpList_store_row rfl 31 (.tmp 8) (.tmp 30) rfl (w.heap.size + 1) (hitC sp00) rfl rfl 31 _ hH1.out (by rw [hitC_size];exact size_hit) rfl (hit_cells _) ?_))
 exact bodyPost_ret (results_cell_four Try.results10 _ _ (w.heap.size + 1) 31 (hitC sp00) (0,0) _ rfl rfl rfl rfl (hH1.out.row _) Try.underlying31 rfl (by rw [hitC_size];exact size_hit)) rfl ⟨hbad.out,below_row hb1.out (Nat.le_succ _) _⟩
end
end Go.Proofs.Ytbdfhmefjfaofaa
