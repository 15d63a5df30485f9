/- What stands while the reference goes all ways, and what each call leaves. Contract of the reference's node, kind by kind (nothing, ^ and $). Contract of the reference's node, kind by kind (^ and $). -/
import Derived.Test.YtjopmieaikgbcaaM35
import Derived.Test.YtjopmieaikgbcaaM13
import Derived.Deep.Cut
import Derived.BigQuiet
set_option linter.unusedVariables false
set_option linter.unusedSimpArgs false
set_option maxRecDepth 100000
namespace Go.Proofs.Ytjopmieaikgbcaa
open Go.RowKit

def fndL (f : Fnd) (a : Nat) (M : Int) : List Value := .bool f.best.isSome :: (hitL (ansS f.best) ++ [.int .i64 f.cost, .int .i64 M, .int .i64 (a : Int)])
def fndC (f : Fnd) (a : Nat) (M : Int) : Array Value := (fndL f a M).toArray
theorem fndC_size (f : Fnd) (a : Nat) (M : Int) : (fndC f a M).size = 24 := rfl
theorem fndC_cost (f : Fnd) (a : Nat) (M c : Int) : (fndC f a M).setIfInBounds 21 (.int .i64 c) = fndC ⟨f.best, c⟩ a M := rfl
/-- What stands. -/
structure Fst (w : World) (F B : Nat) (An : Option Addr) (nn cn : Nat) (At : Option Addr) (nt ct : Nat) (ns : List Nod) (t : List UInt8) (g : Int) (a : Nat) (M : Int) (f : Fnd) : Prop where
  held : Held w F 62 (fndC f a M)
  thru : Thru w B An nn cn At nt ct ns t g
  base : B ≤ F
  al : a ≤ t.length
  m0 : 0 ≤ M
  m1 : M ≤ 400000
/-- What a call leaves: f' is what was found. -/
def WayRet (w : World) (F : Nat) (ns : List Nod) (t : List UInt8) (a : Nat) (M : Int) (s : List Wy) (f : Fnd) (top : Int) (e : Ending) (w' : World) : Prop :=
  e = .returned (.tuple #[]) ∧ ∃ f', Held w' F 62 (fndC f' a M) ∧ w.grownBy w' (some F) ∧ Run ns t a M s f f' ∧ f.cost ≤ f'.cost ∧ f'.cost ≤ top
section
variable {w w' w1 : World} {F B : Nat} {An : Option Addr} {nn cn : Nat} {At : Option Addr} {nt ct : Nat} {ns : List Nod} {t : List UInt8} {g : Int} {a : Nat} {M : Int} {f f' f1 : Fnd}
theorem grown_low (hg : w.grownBy w' (some F)) (h1 : B ≤ F) (h2 : B ≤ w.heap.size) : Below B w w' := (Below.refl B w).grown hg h2 (fun k e => by cases e; exact h1)
theorem Fst.turned (h : Fst w F B An nn cn At nt ct ns t g a M f) (hg : w.grownBy w' (some F)) (hh : Held w' F 62 (fndC f' a M)) : Fst w' F B An nn cn At nt ct ns t g a M f' :=
  ⟨hh, h.thru.below (grown_low hg h.base h.thru.base), h.base, h.al, h.m0, h.m1⟩
theorem Fst.keep (h : Fst w F B An nn cn At nt ct ns t g a M f) (hb : Below w.heap.size w w') : Fst w' F B An nn cn At nt ct ns t g a M f := h.turned (grown_of hb _) (h.held.keep hb)
theorem Fst.spent (h : Fst w F B An nn cn At nt ct ns t g a M f) (c : Int) : Fst (w.setCell ⟨F, 21, none⟩ (.int .i64 c)) F B An nn cn At nt ct ns t g a M ⟨f.best, c⟩ := h.turned (grown_cell _ _ _ _) (h.held.put 21 _)
/-- The next ways done, the way is done. -/
theorem Run.next {tk : Tsk} {r : List Tsk} {p : Pt} {c : Int} (hc : c = f.cost + 1) (h : Run ns t a M ((nexts ns t tk p).map (ahead r)) ⟨f.best, c⟩ f') : Run ns t a M [(tk :: r, p)] f f' := by
  subst hc
  cases h with
  | @fin c hs h hc =>
    have := Run.fin (a := a) (M := M) (f := f) (Stk.step tk r p (s := []) (by rw [List.append_nil]; exact h)) (by simp at hc ⊢; omega)
    rw [show f.cost + ((c + 1 : Nat) : Int) = f.cost + 1 + (c : Int) by omega] at this
    exact this
  | over h hc => exact .over (Over.step (by rw [List.append_nil, show M - f.cost - 1 = M - (f.cost + 1) by omega]; exact h)) hc
theorem Run.none_ (h : f.cost ≤ M) : Run ns t a M [] f f := by
  have := Run.fin (a := a) (M := M) (f := f) (Stk.nil (ns := ns) (t := t)) (by simpa using h)
  cases hb : f.best <;> cases f <;> simpa [bestF, hb] using this
theorem Run.two {x y : Wy} (h : Run ns t a M [x] f f1) (j : Run ns t a M [y] f1 f') (hm : f1.cost ≤ f'.cost) : Run ns t a M [x, y] f f' := by
  cases h with
  | @fin c hs h hc =>
    cases j with
    | @fin d ks j jc =>
      have := Run.fin (a := a) (M := M) (f := f) (Stk.app h j) (by simp at hc jc ⊢; omega)
      rw [List.map_append, bestF_app, show f.cost + ((c + d : Nat) : Int) = f.cost + (c : Int) + d by omega] at this
      exact this
    | over j jc => exact .over (Over.right (a := [x]) h (by rw [show M - f.cost - (c : Int) = M - (f.cost + c) by omega]; exact j)) jc
  | over h hc => exact .over (Over.left (a := [x]) h) (by omega)
/-- A way that has matched, whatever it cost. -/
theorem Run.leaf {p : Pt} : Run ns t a M [([], p)] f ⟨bestF f.best [hitS a p], f.cost⟩ := by
  by_cases h : f.cost ≤ M
  · exact Run.hit h
  · exact .over (fun c hs _ => by omega) (by show M < f.cost; omega)
end
/-- All ways of a way, as long as D is enough. -/
def WaysOK (F B : Nat) (An : Option Addr) (nn cn : Nat) (At : Option Addr) (nt ct : Nat) (ns : List Nod) (t : List UInt8) (g : Int) (a : Nat) (M : Int) (D : Nat) : Prop :=
  ∀ (w : World) (f : Fnd) (A : Option Addr) (n c : Nat) (l : List Tsk) (p : Pt), Fst w F B An nn cn At nt ct ns t g a M f → WOK ns t g a (l, p) → Trow w F A l → n = l.length → n ≤ c → c ≤ maxLen → (n : Int) ≤ f.cost + 1 → (M + 1 - f.cost).toNat ≤ D → 0 ≤ f.cost → f.cost ≤ 2 * M + 1 →
    Calls Try.prog 24 #[.pointer (some ⟨F, 0, none⟩), .agg #[.slice An nn cn, .int .i64 g], .slice At nt ct, .int .i64 (p.i : Int), hitV p.sp, .slice A n c] w (WayRet w F ns t a M [(l, p)] f (max (f.cost + 1) (2 * M + 1 - f.cost)))
/-- A node's next ways, as long as D is enough. -/
def NodeOK (F B : Nat) (An : Option Addr) (nn cn : Nat) (At : Option Addr) (nt ct : Nat) (ns : List Nod) (t : List UInt8) (g : Int) (a : Nat) (M : Int) (D : Nat) : Prop :=
  ∀ (w : World) (f : Fnd) (A : Option Addr) (n c : Nat) (l : List Tsk) (p : Pt) (m : Nat), Fst w F B An nn cn At nt ct ns t g a M f → WOK ns t g a (.node (m : Int) :: l, p) → (ndA ns (m : Int)).kind ≠ 4 → Trow w F A l → n = l.length → n ≤ c → c ≤ maxLen → (n : Int) + 1 ≤ f.cost → (M + 1 - f.cost).toNat ≤ D → 1 ≤ f.cost → f.cost ≤ M →
    Calls Try.prog 37 #[.pointer (some ⟨F, 0, none⟩), .agg #[.slice An nn cn, .int .i64 g], .slice At nt ct, .int .i64 (p.i : Int), hitV p.sp, nodV (ndA ns (m : Int)), .slice A n c] w (WayRet w F ns t a M ((nexts ns t (.node (m : Int)) p).map (ahead l)) f (2 * M + 2 - f.cost))
end Go.Proofs.Ytjopmieaikgbcaa

set_option linter.unusedVariables false
set_option linter.unusedSimpArgs false
set_option maxRecDepth 100000
namespace Go.Proofs.Ytjopmieaikgbcaa
open Go.RowKit

/-- While a node is done: what the call's own blocks hold. -/
def SNd (H H1 H2 : Nat) (RE CS CN : Array Value) (w' : World) : Prop := Held w' H 24 RE ∧ Held w' H1 29 CS ∧ Held w' H2 54 CN
theorem SNd.below {H H1 H2 : Nat} {RE CS CN : Array Value} {w1 w2 : World} (h : SNd H H1 H2 RE CS CN w1) (hb : Below w1.heap.size w1 w2) : SNd H H1 H2 RE CS CN w2 := ⟨h.1.keep hb, h.2.1.keep hb, h.2.2.keep hb⟩
theorem snd_new (w : World) (RE CS CN : Array Value) : SNd w.heap.size (w.heap.size + 1) (w.heap.size + 1 + 1) RE CS CN (((w.alloc (.cells RE 24)).alloc (.cells CS 29)).alloc (.cells CN 54)) :=
  ⟨((held_new w _ RE).alloc _).alloc _, (held_new2 w _ _ CS).alloc _, by have := held_new ((w.alloc (.cells RE 24)).alloc (.cells CS 29)) 54 CN; simpa using this⟩
theorem nod_at (N : Nod) : (nodC N)[0]? = some (.int .i64 N.kind) ∧ (nodC N)[1]? = some (.int .i64 N.a) ∧ (nodC N)[2]? = some (.int .i64 N.b) ∧ (nodC N)[3]? = some (.int .i64 N.lo) ∧ (nodC N)[4]? = some (.int .i64 N.hi) ∧ (nodC N)[5]? = some (.int .i64 N.grp) := ⟨rfl, rfl, rfl, rfl, rfl, rfl⟩
section
variable {w w' w1 : World} {F B : Nat} {An : Option Addr} {nn cn : Nat} {At : Option Addr} {nt ct : Nat} {ns : List Nod} {t : List UInt8} {g : Int} {a : Nat} {M : Int} {f f' f1 : Fnd} {D : Nat} {A : Option Addr} {n c : Nat} {l : List Tsk} {p : Pt}
set_option maxHeartbeats 8000000 in
theorem rnode_0 (hW : WaysOK F B An nn cn At nt ct ns t g a M D) (m : Nat) (h : Fst w F B An nn cn At nt ct ns t g a M f) (hwk : WOK ns t g a (.node (m : Int) :: l, p)) (hk : (ndA ns (m : Int)).kind = 0) (hT : Trow w F A l) (hn : n = l.length) (hnc : n ≤ c) (hcm : c ≤ maxLen) (hn1 : (n : Int) + 1 ≤ f.cost) (hD : (M + 1 - f.cost).toNat ≤ D) (hf1 : 1 ≤ f.cost) (hM : f.cost ≤ M) :
    Calls Try.prog 37 #[.pointer (some ⟨F, 0, none⟩), .agg #[.slice An nn cn, .int .i64 g], .slice At nt ct, .int .i64 (p.i : Int), hitV p.sp, nodV (ndA ns (m : Int)), .slice A n c] w (WayRet w F ns t a M ((nexts ns t (.node (m : Int)) p).map (ahead l)) f (2 * M + 2 - f.cost)) := by
  show Calls Try.prog 37 #[.pointer (some ⟨F, 0, none⟩), .agg #[.slice An nn cn, .int .i64 g], .slice At nt ct, .int .i64 (p.i : Int), .agg (hitC p.sp), .agg (nodC (ndA ns (m : Int))), .slice A n c] w _
  obtain ⟨N0, N1, N2, N3, N4, N5⟩ := nod_at (ndA ns (m : Int))
  rw [hk] at N0
  have hok := Lib.hid hwk
  have hbd := Lib.hid (show 1 ≤ f.cost ∧ f.cost ≤ M ∧ M ≤ 400000 ∧ (n : Int) + 1 ≤ f.cost ∧ (M + 1 - f.cost).toNat ≤ D ∧ n = l.length ∧ n ≤ c ∧ c ≤ maxLen from ⟨hf1, hM, h.m1, hn1, hD, hn, hnc, hcm⟩)
  have hS2 := Lib.hid (snd_new w #[.slice An nn cn, .int .i64 g] (hitC p.sp) (nodC (ndA ns (m : Int))))
  have hb2 := Lib.hid ((((Below.refl w.heap.size w).alloc (Nat.le_refl _) (.cells #[.slice An nn cn, .int .i64 g] 24)).alloc (by simp) (.cells (hitC p.sp) 29)).alloc (by simp; omega) (.cells (nodC (ndA ns (m : Int))) 54))
  have h2 := Lib.hid (h.keep hb2.out)
  have hg2 := Lib.hid (grown_of hb2.out (some F))
  have hT2 := Lib.hid (hT.below hb2.out)
  have hCS := Lib.hid (hitC_size p.sp)
  have hFl := Lib.hid h.held.lt
  have htx := Lib.hid (show nt = t.length ∧ nt ≤ 1000000 ∧ p.i ≤ t.length from ⟨h.thru.nt_, h.thru.tl, hwk.hi⟩)
  clear h hT hn hnc hcm hn1 hD hf1 hM hwk
  have hWx := Lib.hid (show ∀ (w : World) (f : Fnd) (A : Option Addr) (n c : Nat) (l : List Tsk) (p : Pt), Fst w F B An nn cn At nt ct ns t g a M f → WOK ns t g a (l, p) → Trow w F A l → n = l.length → n ≤ c → c ≤ maxLen → (n : Int) ≤ f.cost + 1 → (M + 1 - f.cost).toNat ≤ D → 0 ≤ f.cost → f.cost ≤ 2 * M + 1 → Calls Try.prog 24 #[.pointer (some ⟨F, 0, none⟩), .agg #[.slice An nn cn, .int .i64 g], .slice At nt ct, .int .i64 (p.i : Int), .agg (hitC p.sp), .slice A n c] w (WayRet w F ns t a M [(l, p)] f (max (f.cost + 1) (2 * M + 1 - f.cost))) from hW)
  clear hW
  rw [next_empty hk]
  show Calls _ _ _ _ (WayRet w F ns t a M [(l, p)] f (2 * M + 2 - f.cost))
  have hCall := Lib.hid (fun w' hb => hWx.out w' f A n c l p (h2.out.keep hb) (⟨hok.out.lo, hok.out.hi, hok.out.lies, fun tk htk => hok.out.toks tk (List.mem_cons_of_mem _ htk)⟩) (hT2.out.below hb) hbd.out.2.2.2.2.2.1 hbd.out.2.2.2.2.2.2.1 hbd.out.2.2.2.2.2.2.2 (by have := hbd.out; omega) hbd.out.2.2.2.2.1 (by have := hbd.out; omega) (by have := hbd.out; omega))
  generalize hitC p.sp = CS at *
  generalize nodC (ndA ns (m : Int)) = CN at *
  replace hk := Lib.hid hk
  clear hWx
  go_enter Try.func37, Try.ntmps37
  go_upto_region 1 with fail
  generalize ((w.alloc (.cells #[.slice An nn cn, .int .i64 g] 24)).alloc (.cells CS 29)).alloc (.cells CN 54) = w2 at *
  clear hb2
  generalize w.heap.size + 1 + 1 = H2 at *
  generalize w.heap.size + 1 = H1 at *
  generalize w.heap.size = H0 at *
  have n0 : w2.cell? ⟨H2, 0, none⟩ = some (.int .i64 0) := hS2.out.2.2.at_ N0
  have r0 : w2.cell? ⟨H0, 0, none⟩ = some (.slice An nn cn) := hS2.out.1.at_ rfl
  have r1 : w2.cell? ⟨H0, 1, none⟩ = some (.int .i64 g) := hS2.out.1.at_ rfl
  clear N0 N1 N2 N3 N4 N5
  go_wp2_with (first
    | (refine wpList_load_row rfl 29 (.tmp 11) rfl H1 rfl 29 _ (0, 0) _ hS2.out.2.1 Try.underlying29 rfl (by rw [hCS.out]; exact size_ten) ?_)
    | (go_at_call 24; refine (hCall.out _ (Below.refl _ _)).mono ?_; rintro e w4 ⟨rfl, f', q1, q2, q3, q4, q5⟩))
  go_end0
  exact ⟨rfl, f', q1, grown_trans hg2.out q2, q3, q4, by have := hbd.out; omega⟩
end
end Go.Proofs.Ytjopmieaikgbcaa

set_option linter.unusedVariables false
set_option linter.unusedSimpArgs false
set_option maxRecDepth 100000
namespace Go.Proofs.Ytjopmieaikgbcaa
open Go.RowKit

section
variable {w w' w1 : World} {F B : Nat} {An : Option Addr} {nn cn : Nat} {At : Option Addr} {nt ct : Nat} {ns : List Nod} {t : List UInt8} {g : Int} {a : Nat} {M : Int} {f f' f1 : Fnd} {D : Nat} {A : Option Addr} {n c : Nat} {l : List Tsk} {p : Pt}
set_option maxHeartbeats 8000000 in
theorem rnode_7_y (hW : WaysOK F B An nn cn At nt ct ns t g a M D) (m : Nat) (h : Fst w F B An nn cn At nt ct ns t g a M f) (hwk : WOK ns t g a (.node (m : Int) :: l, p)) (hk : (ndA ns (m : Int)).kind = 7) (hT : Trow w F A l) (hn : n = l.length) (hnc : n ≤ c) (hcm : c ≤ maxLen) (hn1 : (n : Int) + 1 ≤ f.cost) (hD : (M + 1 - f.cost).toNat ≤ D) (hf1 : 1 ≤ f.cost) (hM : f.cost ≤ M) (hq : p.i = 0) :
    Calls Try.prog 37 #[.pointer (some ⟨F, 0, none⟩), .agg #[.slice An nn cn, .int .i64 g], .slice At nt ct, .int .i64 (p.i : Int), hitV p.sp, nodV (ndA ns (m : Int)), .slice A n c] w (WayRet w F ns t a M ((nexts ns t (.node (m : Int)) p).map (ahead l)) f (2 * M + 2 - f.cost)) := by
  show Calls Try.prog 37 #[.pointer (some ⟨F, 0, none⟩), .agg #[.slice An nn cn, .int .i64 g], .slice At nt ct, .int .i64 (p.i : Int), .agg (hitC p.sp), .agg (nodC (ndA ns (m : Int))), .slice A n c] w _
  obtain ⟨N0, N1, N2, N3, N4, N5⟩ := nod_at (ndA ns (m : Int))
  rw [hk] at N0
  have hok := Lib.hid hwk
  have hbd := Lib.hid (show 1 ≤ f.cost ∧ f.cost ≤ M ∧ M ≤ 400000 ∧ (n : Int) + 1 ≤ f.cost ∧ (M + 1 - f.cost).toNat ≤ D ∧ n = l.length ∧ n ≤ c ∧ c ≤ maxLen from ⟨hf1, hM, h.m1, hn1, hD, hn, hnc, hcm⟩)
  have hS2 := Lib.hid (snd_new w #[.slice An nn cn, .int .i64 g] (hitC p.sp) (nodC (ndA ns (m : Int))))
  have hb2 := Lib.hid ((((Below.refl w.heap.size w).alloc (Nat.le_refl _) (.cells #[.slice An nn cn, .int .i64 g] 24)).alloc (by simp) (.cells (hitC p.sp) 29)).alloc (by simp; omega) (.cells (nodC (ndA ns (m : Int))) 54))
  have h2 := Lib.hid (h.keep hb2.out)
  have hg2 := Lib.hid (grown_of hb2.out (some F))
  have hT2 := Lib.hid (hT.below hb2.out)
  have hCS := Lib.hid (hitC_size p.sp)
  have hFl := Lib.hid h.held.lt
  have htx := Lib.hid (show nt = t.length ∧ nt ≤ 1000000 ∧ p.i ≤ t.length from ⟨h.thru.nt_, h.thru.tl, hwk.hi⟩)
  clear h hT hn hnc hcm hn1 hD hf1 hM hwk
  have hWx := Lib.hid (show ∀ (w : World) (f : Fnd) (A : Option Addr) (n c : Nat) (l : List Tsk) (p : Pt), Fst w F B An nn cn At nt ct ns t g a M f → WOK ns t g a (l, p) → Trow w F A l → n = l.length → n ≤ c → c ≤ maxLen → (n : Int) ≤ f.cost + 1 → (M + 1 - f.cost).toNat ≤ D → 0 ≤ f.cost → f.cost ≤ 2 * M + 1 → Calls Try.prog 24 #[.pointer (some ⟨F, 0, none⟩), .agg #[.slice An nn cn, .int .i64 g], .slice At nt ct, .int .i64 (p.i : Int), .agg (hitC p.sp), .slice A n c] w (WayRet w F ns t a M [(l, p)] f (max (f.cost + 1) (2 * M + 1 - f.cost))) from hW)
  clear hW
  rw [next_bol hk, if_pos hq]
  show Calls _ _ _ _ (WayRet w F ns t a M [(l, p)] f (2 * M + 2 - f.cost))
  have hqd : ((p.i : Int) == 0) = true := by rw [beq_iff_eq]; have := htx.out; omega
  replace hq := Lib.hid hq
  have hCall := Lib.hid (fun w' hb => hWx.out w' f A n c l p (h2.out.keep hb) (⟨hok.out.lo, hok.out.hi, hok.out.lies, fun tk htk => hok.out.toks tk (List.mem_cons_of_mem _ htk)⟩) (hT2.out.below hb) hbd.out.2.2.2.2.2.1 hbd.out.2.2.2.2.2.2.1 hbd.out.2.2.2.2.2.2.2 (by have := hbd.out; omega) hbd.out.2.2.2.2.1 (by have := hbd.out; omega) (by have := hbd.out; omega))
  generalize hitC p.sp = CS at *
  generalize nodC (ndA ns (m : Int)) = CN at *
  replace hk := Lib.hid hk
  clear hWx
  go_enter Try.func37, Try.ntmps37
  go_upto_region 1 with fail
  generalize ((w.alloc (.cells #[.slice An nn cn, .int .i64 g] 24)).alloc (.cells CS 29)).alloc (.cells CN 54) = w2 at *
  clear hb2
  generalize w.heap.size + 1 + 1 = H2 at *
  generalize w.heap.size + 1 = H1 at *
  generalize w.heap.size = H0 at *
  have n0 : w2.cell? ⟨H2, 0, none⟩ = some (.int .i64 7) := hS2.out.2.2.at_ N0
  have r0 : w2.cell? ⟨H0, 0, none⟩ = some (.slice An nn cn) := hS2.out.1.at_ rfl
  have r1 : w2.cell? ⟨H0, 1, none⟩ = some (.int .i64 g) := hS2.out.1.at_ rfl
  clear N0 N1 N2 N3 N4 N5
  go_wp2_with (first
    | (refine wpList_load_row rfl 29 (.tmp 11) rfl H1 rfl 29 _ (0, 0) _ hS2.out.2.1 Try.underlying29 rfl (by rw [hCS.out]; exact size_ten) ?_)
    | (go_at_call 24; refine (hCall.out _ (Below.refl _ _)).mono ?_; rintro e w4 ⟨rfl, f', q1, q2, q3, q4, q5⟩))
  go_end0
  exact ⟨rfl, f', q1, grown_trans hg2.out q2, q3, q4, by have := hbd.out; omega⟩
set_option maxHeartbeats 8000000 in
theorem rnode_7_n (hW : WaysOK F B An nn cn At nt ct ns t g a M D) (m : Nat) (h : Fst w F B An nn cn At nt ct ns t g a M f) (hwk : WOK ns t g a (.node (m : Int) :: l, p)) (hk : (ndA ns (m : Int)).kind = 7) (hT : Trow w F A l) (hn : n = l.length) (hnc : n ≤ c) (hcm : c ≤ maxLen) (hn1 : (n : Int) + 1 ≤ f.cost) (hD : (M + 1 - f.cost).toNat ≤ D) (hf1 : 1 ≤ f.cost) (hM : f.cost ≤ M) (hq : ¬ p.i = 0) :
    Calls Try.prog 37 #[.pointer (some ⟨F, 0, none⟩), .agg #[.slice An nn cn, .int .i64 g], .slice At nt ct, .int .i64 (p.i : Int), hitV p.sp, nodV (ndA ns (m : Int)), .slice A n c] w (WayRet w F ns t a M ((nexts ns t (.node (m : Int)) p).map (ahead l)) f (2 * M + 2 - f.cost)) := by
  show Calls Try.prog 37 #[.pointer (some ⟨F, 0, none⟩), .agg #[.slice An nn cn, .int .i64 g], .slice At nt ct, .int .i64 (p.i : Int), .agg (hitC p.sp), .agg (nodC (ndA ns (m : Int))), .slice A n c] w _
  obtain ⟨N0, N1, N2, N3, N4, N5⟩ := nod_at (ndA ns (m : Int))
  rw [hk] at N0
  have hok := Lib.hid hwk
  have hbd := Lib.hid (show 1 ≤ f.cost ∧ f.cost ≤ M ∧ M ≤ 400000 ∧ (n : Int) + 1 ≤ f.cost ∧ (M + 1 - f.cost).toNat ≤ D ∧ n = l.length ∧ n ≤ c ∧ c ≤ maxLen from ⟨hf1, hM, h.m1, hn1, hD, hn, hnc, hcm⟩)
  have hS2 := Lib.hid (snd_new w #[.slice An nn cn, .int .i64 g] (hitC p.sp) (nodC (ndA ns (m : Int))))
  have hb2 := Lib.hid ((((Below.refl w.heap.size w).alloc (Nat.le_refl _) (.cells #[.slice An nn cn, .int .i64 g] 24)).alloc (by simp) (.cells (hitC p.sp) 29)).alloc (by simp; omega) (.cells (nodC (ndA ns (m : Int))) 54))
  have h2 := Lib.hid (h.keep hb2.out)
  have hg2 := Lib.hid (grown_of hb2.out (some F))
  have hT2 := Lib.hid (hT.below hb2.out)
  have hCS := Lib.hid (hitC_size p.sp)
  have hFl := Lib.hid h.held.lt
  have htx := Lib.hid (show nt = t.length ∧ nt ≤ 1000000 ∧ p.i ≤ t.length from ⟨h.thru.nt_, h.thru.tl, hwk.hi⟩)
  clear h hT hn hnc hcm hn1 hD hf1 hM hwk
  have hWx := Lib.hid (show ∀ (w : World) (f : Fnd) (A : Option Addr) (n c : Nat) (l : List Tsk) (p : Pt), Fst w F B An nn cn At nt ct ns t g a M f → WOK ns t g a (l, p) → Trow w F A l → n = l.length → n ≤ c → c ≤ maxLen → (n : Int) ≤ f.cost + 1 → (M + 1 - f.cost).toNat ≤ D → 0 ≤ f.cost → f.cost ≤ 2 * M + 1 → Calls Try.prog 24 #[.pointer (some ⟨F, 0, none⟩), .agg #[.slice An nn cn, .int .i64 g], .slice At nt ct, .int .i64 (p.i : Int), .agg (hitC p.sp), .slice A n c] w (WayRet w F ns t a M [(l, p)] f (max (f.cost + 1) (2 * M + 1 - f.cost))) from hW)
  clear hW
  rw [next_bol hk, if_neg hq]
  show Calls _ _ _ _ (WayRet w F ns t a M [] f (2 * M + 2 - f.cost))
  have hqd : ((p.i : Int) == 0) = false := by rw [beq_eq_false_iff_ne]; have := htx.out; omega
  replace hq := Lib.hid hq
  generalize hitC p.sp = CS at *
  generalize nodC (ndA ns (m : Int)) = CN at *
  replace hk := Lib.hid hk
  clear hWx
  go_enter Try.func37, Try.ntmps37
  go_upto_region 1 with fail
  generalize ((w.alloc (.cells #[.slice An nn cn, .int .i64 g] 24)).alloc (.cells CS 29)).alloc (.cells CN 54) = w2 at *
  clear hb2
  generalize w.heap.size + 1 + 1 = H2 at *
  generalize w.heap.size + 1 = H1 at *
  generalize w.heap.size = H0 at *
  have n0 : w2.cell? ⟨H2, 0, none⟩ = some (.int .i64 7) := hS2.out.2.2.at_ N0
  have r0 : w2.cell? ⟨H0, 0, none⟩ = some (.slice An nn cn) := hS2.out.1.at_ rfl
  have r1 : w2.cell? ⟨H0, 1, none⟩ = some (.int .i64 g) := hS2.out.1.at_ rfl
  clear N0 N1 N2 N3 N4 N5
  go_wp2
  go_end0
  exact ⟨rfl, f, h2.out.held, hg2.out, Run.none_ hbd.out.2.1, Int.le_refl _, by have := hbd.out; omega⟩
set_option maxHeartbeats 8000000 in
theorem rnode_8_y (hW : WaysOK F B An nn cn At nt ct ns t g a M D) (m : Nat) (h : Fst w F B An nn cn At nt ct ns t g a M f) (hwk : WOK ns t g a (.node (m : Int) :: l, p)) (hk : (ndA ns (m : Int)).kind = 8) (hT : Trow w F A l) (hn : n = l.length) (hnc : n ≤ c) (hcm : c ≤ maxLen) (hn1 : (n : Int) + 1 ≤ f.cost) (hD : (M + 1 - f.cost).toNat ≤ D) (hf1 : 1 ≤ f.cost) (hM : f.cost ≤ M) (hq : p.i = t.length) :
    Calls Try.prog 37 #[.pointer (some ⟨F, 0, none⟩), .agg #[.slice An nn cn, .int .i64 g], .slice At nt ct, .int .i64 (p.i : Int), hitV p.sp, nodV (ndA ns (m : Int)), .slice A n c] w (WayRet w F ns t a M ((nexts ns t (.node (m : Int)) p).map (ahead l)) f (2 * M + 2 - f.cost)) := by
  show Calls Try.prog 37 #[.pointer (some ⟨F, 0, none⟩), .agg #[.slice An nn cn, .int .i64 g], .slice At nt ct, .int .i64 (p.i : Int), .agg (hitC p.sp), .agg (nodC (ndA ns (m : Int))), .slice A n c] w _
  obtain ⟨N0, N1, N2, N3, N4, N5⟩ := nod_at (ndA ns (m : Int))
  rw [hk] at N0
  have hok := Lib.hid hwk
  have hbd := Lib.hid (show 1 ≤ f.cost ∧ f.cost ≤ M ∧ M ≤ 400000 ∧ (n : Int) + 1 ≤ f.cost ∧ (M + 1 - f.cost).toNat ≤ D ∧ n = l.length ∧ n ≤ c ∧ c ≤ maxLen from ⟨hf1, hM, h.m1, hn1, hD, hn, hnc, hcm⟩)
  have hS2 := Lib.hid (snd_new w #[.slice An nn cn, .int .i64 g] (hitC p.sp) (nodC (ndA ns (m : Int))))
  have hb2 := Lib.hid ((((Below.refl w.heap.size w).alloc (Nat.le_refl _) (.cells #[.slice An nn cn, .int .i64 g] 24)).alloc (by simp) (.cells (hitC p.sp) 29)).alloc (by simp; omega) (.cells (nodC (ndA ns (m : Int))) 54))
  have h2 := Lib.hid (h.keep hb2.out)
  have hg2 := Lib.hid (grown_of hb2.out (some F))
  have hT2 := Lib.hid (hT.below hb2.out)
  have hCS := Lib.hid (hitC_size p.sp)
  have hFl := Lib.hid h.held.lt
  have htx := Lib.hid (show nt = t.length ∧ nt ≤ 1000000 ∧ p.i ≤ t.length from ⟨h.thru.nt_, h.thru.tl, hwk.hi⟩)
  clear h hT hn hnc hcm hn1 hD hf1 hM hwk
  have hWx := Lib.hid (show ∀ (w : World) (f : Fnd) (A : Option Addr) (n c : Nat) (l : List Tsk) (p : Pt), Fst w F B An nn cn At nt ct ns t g a M f → WOK ns t g a (l, p) → Trow w F A l → n = l.length → n ≤ c → c ≤ maxLen → (n : Int) ≤ f.cost + 1 → (M + 1 - f.cost).toNat ≤ D → 0 ≤ f.cost → f.cost ≤ 2 * M + 1 → Calls Try.prog 24 #[.pointer (some ⟨F, 0, none⟩), .agg #[.slice An nn cn, .int .i64 g], .slice At nt ct, .int .i64 (p.i : Int), .agg (hitC p.sp), .slice A n c] w (WayRet w F ns t a M [(l, p)] f (max (f.cost + 1) (2 * M + 1 - f.cost))) from hW)
  clear hW
  rw [next_eol hk, if_pos hq]
  show Calls _ _ _ _ (WayRet w F ns t a M [(l, p)] f (2 * M + 2 - f.cost))
  have hqd : ((p.i : Int) == (nt : Int)) = true := by rw [beq_iff_eq]; have := htx.out; omega
  replace hq := Lib.hid hq
  have hCall := Lib.hid (fun w' hb => hWx.out w' f A n c l p (h2.out.keep hb) (⟨hok.out.lo, hok.out.hi, hok.out.lies, fun tk htk => hok.out.toks tk (List.mem_cons_of_mem _ htk)⟩) (hT2.out.below hb) hbd.out.2.2.2.2.2.1 hbd.out.2.2.2.2.2.2.1 hbd.out.2.2.2.2.2.2.2 (by have := hbd.out; omega) hbd.out.2.2.2.2.1 (by have := hbd.out; omega) (by have := hbd.out; omega))
  generalize hitC p.sp = CS at *
  generalize nodC (ndA ns (m : Int)) = CN at *
  replace hk := Lib.hid hk
  clear hWx
  go_enter Try.func37, Try.ntmps37
  go_upto_region 1 with fail
  generalize ((w.alloc (.cells #[.slice An nn cn, .int .i64 g] 24)).alloc (.cells CS 29)).alloc (.cells CN 54) = w2 at *
  clear hb2
  generalize w.heap.size + 1 + 1 = H2 at *
  generalize w.heap.size + 1 = H1 at *
  generalize w.heap.size = H0 at *
  have n0 : w2.cell? ⟨H2, 0, none⟩ = some (.int .i64 8) := hS2.out.2.2.at_ N0
  have r0 : w2.cell? ⟨H0, 0, none⟩ = some (.slice An nn cn) := hS2.out.1.at_ rfl
  have r1 : w2.cell? ⟨H0, 1, none⟩ = some (.int .i64 g) := hS2.out.1.at_ rfl
  clear N0 N1 N2 N3 N4 N5
  go_wp2_with (first
    | (refine wpList_load_row rfl 29 (.tmp 11) rfl H1 rfl 29 _ (0, 0) _ hS2.out.2.1 Try.underlying29 rfl (by rw [hCS.out]; exact size_ten) ?_)
    | (go_at_call 24; refine (hCall.out _ (Below.refl _ _)).mono ?_; rintro e w4 ⟨rfl, f', q1, q2, q3, q4, q5⟩))
  go_end0
  exact ⟨rfl, f', q1, grown_trans hg2.out q2, q3, q4, by have := hbd.out; omega⟩
set_option maxHeartbeats 8000000 in
theorem rnode_8_n (hW : WaysOK F B An nn cn At nt ct ns t g a M D) (m : Nat) (h : Fst w F B An nn cn At nt ct ns t g a M f) (hwk : WOK ns t g a (.node (m : Int) :: l, p)) (hk : (ndA ns (m : Int)).kind = 8) (hT : Trow w F A l) (hn : n = l.length) (hnc : n ≤ c) (hcm : c ≤ maxLen) (hn1 : (n : Int) + 1 ≤ f.cost) (hD : (M + 1 - f.cost).toNat ≤ D) (hf1 : 1 ≤ f.cost) (hM : f.cost ≤ M) (hq : ¬ p.i = t.length) :
    Calls Try.prog 37 #[.pointer (some ⟨F, 0, none⟩), .agg #[.slice An nn cn, .int .i64 g], .slice At nt ct, .int .i64 (p.i : Int), hitV p.sp, nodV (ndA ns (m : Int)), .slice A n c] w (WayRet w F ns t a M ((nexts ns t (.node (m : Int)) p).map (ahead l)) f (2 * M + 2 - f.cost)) := by
  show Calls Try.prog 37 #[.pointer (some ⟨F, 0, none⟩), .agg #[.slice An nn cn, .int .i64 g], .slice At nt ct, .int .i64 (p.i : Int), .agg (hitC p.sp), .agg (nodC (ndA ns (m : Int))), .slice A n c] w _
  obtain ⟨N0, N1, N2, N3, N4, N5⟩ := nod_at (ndA ns (m : Int))
  rw [hk] at N0
  have hok := Lib.hid hwk
  have hbd := Lib.hid (show 1 ≤ f.cost ∧ f.cost ≤ M ∧ M ≤ 400000 ∧ (n : Int) + 1 ≤ f.cost ∧ (M + 1 - f.cost).toNat ≤ D ∧ n = l.length ∧ n ≤ c ∧ c ≤ maxLen from ⟨hf1, hM, h.m1, hn1, hD, hn, hnc, hcm⟩)
  have hS2 := Lib.hid (snd_new w #[.slice An nn cn, .int .i64 g] (hitC p.sp) (nodC (ndA ns (m : Int))))
  have hb2 := Lib.hid ((((Below.refl w.heap.size w).alloc (Nat.le_refl _) (.cells #[.slice An nn cn, .int .i64 g] 24)).alloc (by simp) (.cells (hitC p.sp) 29)).alloc (by simp; omega) (.cells (nodC (ndA ns (m : Int))) 54))
  have h2 := Lib.hid (h.keep hb2.out)
  have hg2 := Lib.hid (grown_of hb2.out (some F))
  have hT2 := Lib.hid (hT.below hb2.out)
  have hCS := Lib.hid (hitC_size p.sp)
  have hFl := Lib.hid h.held.lt
  have htx := Lib.hid (show nt = t.length ∧ nt ≤ 1000000 ∧ p.i ≤ t.length from ⟨h.thru.nt_, h.thru.tl, hwk.hi⟩)
  clear h hT hn hnc hcm hn1 hD hf1 hM hwk
  have hWx := Lib.hid (show ∀ (w : World) (f : Fnd) (A : Option Addr) (n c : Nat) (l : List Tsk) (p : Pt), Fst w F B An nn cn At nt ct ns t g a M f → WOK ns t g a (l, p) → Trow w F A l → n = l.length → n ≤ c → c ≤ maxLen → (n : Int) ≤ f.cost + 1 → (M + 1 - f.cost).toNat ≤ D → 0 ≤ f.cost → f.cost ≤ 2 * M + 1 → Calls Try.prog 24 #[.pointer (some ⟨F, 0, none⟩), .agg #[.slice An nn cn, .int .i64 g], .slice At nt ct, .int .i64 (p.i : Int), .agg (hitC p.sp), .slice A n c] w (WayRet w F ns t a M [(l, p)] f (max (f.cost + 1) (2 * M + 1 - f.cost))) from hW)
  clear hW
  rw [next_eol hk, if_neg hq]
  show Calls _ _ _ _ (WayRet w F ns t a M [] f (2 * M + 2 - f.cost))
  have hqd : ((p.i : Int) == (nt : Int)) = false := by rw [beq_eq_false_iff_ne]; have := htx.out; omega
  replace hq := Lib.hid hq
  generalize hitC p.sp = CS at *
  generalize nodC (ndA ns (m : Int)) = CN at *
  replace hk := Lib.hid hk
  clear hWx
  go_enter Try.func37, Try.ntmps37
  go_upto_region 1 with fail
  generalize ((w.alloc (.cells #[.slice An nn cn, .int .i64 g] 24)).alloc (.cells CS 29)).alloc (.cells CN 54) = w2 at *
  clear hb2
  generalize w.heap.size + 1 + 1 = H2 at *
  generalize w.heap.size + 1 = H1 at *
  generalize w.heap.size = H0 at *
  have n0 : w2.cell? ⟨H2, 0, none⟩ = some (.int .i64 8) := hS2.out.2.2.at_ N0
  have r0 : w2.cell? ⟨H0, 0, none⟩ = some (.slice An nn cn) := hS2.out.1.at_ rfl
  have r1 : w2.cell? ⟨H0, 1, none⟩ = some (.int .i64 g) := hS2.out.1.at_ rfl
  clear N0 N1 N2 N3 N4 N5
  go_wp2
  go_end0
  exact ⟨rfl, f, h2.out.held, hg2.out, Run.none_ hbd.out.2.1, Int.le_refl _, by have := hbd.out; omega⟩
end
end Go.Proofs.Ytjopmieaikgbcaa
