/- Contracts and plain facts: M45. -/
import Derived.Test.YtbdfhmefjfaofaaM42
set_option linter.unusedVariables false
set_option linter.unusedSimpArgs false
set_option maxRecDepth 100000
set_option maxHeartbeats 32000000
namespace Go.Proofs.Ytbdfhmefjfaofaa
open Go.RowKit
def fndL (f : Fnd) (a : Nat) (M : Int) : List Value:=.bool f.best.isSome :: (hitL (ansS f.best) ++ [.int .i64 f.cost,.int .i64 M,.int .i64 (a : Int)])
def fndC (f : Fnd) (a : Nat) (M : Int) : Array Value:=(fndL f a M).toArray
structure Fst (w : World) (F B : Nat) (An : Option Addr) (nn cn : Nat) (At : Option Addr) (nt ct : Nat) (ns : List Nod) (t : List UInt8) (g : Int) (a : Nat) (M : Int) (f : Fnd) : Prop where
 held : Held w F 62 (fndC f a M)
 thru : Thru w B An nn cn At nt ct ns t g
 base : B ≤ F
 al : a ≤ t.length
 m0 : 0 ≤ M
 m1 : M ≤ 400000
section
variable {w w' w1 : World} {F B : Nat} {An : Option Addr} {nn cn : Nat} {At : Option Addr} {nt ct : Nat} {ns : List Nod} {t : List UInt8} {g : Int} {a : Nat} {M : Int} {f f' f1 : Fnd}
theorem grown_low (hg : w.grownBy w' (some F)) (h1 : B ≤ F) (h2 : B ≤ w.heap.size) : Below B w w':=(Below.refl B w).grown hg h2 (fun k e => by cases e;exact h1)
theorem Fst.turned (h : Fst w F B An nn cn At nt ct ns t g a M f) (hg : w.grownBy w' (some F)) (hh : Held w' F 62 (fndC f' a M)) : Fst w' F B An nn cn At nt ct ns t g a M f' :=
 ⟨hh,h.thru.below (grown_low hg h.base h.thru.base),h.base,h.al,h.m0,h.m1⟩
theorem Fst.keep (h : Fst w F B An nn cn At nt ct ns t g a M f) (hb : Below w.heap.size w w') : Fst w' F B An nn cn At nt ct ns t g a M f:=h.turned (grown_of hb _) (h.held.keep hb)
theorem Fst.spent (h : Fst w F B An nn cn At nt ct ns t g a M f) (c : Int) : Fst (w.setCell ⟨F,21,none⟩ (.int .i64 c)) F B An nn cn At nt ct ns t g a M ⟨f.best,c⟩:=h.turned (grown_cell _ _ _ _) (h.held.put 21 _)
theorem Run.next {tk : Tsk} {r : List Tsk} {p : Pt} {c : Int} (hc : c = f.cost + 1) (h : Run ns t a M ((nexts ns t tk p).map (ahead r)) ⟨f.best,c⟩ f') : Run ns t a M [(tk :: r,p)] f f':=by
 subst hc
 cases h with
 | @fin c hs h hc =>
  have:=Run.fin (a:=a) (M:=M) (f:=f) (Stk.step tk r p (s:=[]) (by rw [List.append_nil];exact h)) (by simp at hc ⊢;omega)
  rw [show f.cost + ((c + 1 : Nat) : Int) = f.cost + 1 + (c : Int) by omega] at this
  exact this
 | over h hc => exact .over (Over.step (by rw [List.append_nil,show M - f.cost - 1 = M - (f.cost + 1) by omega];exact h)) hc
theorem Run.none_ (h : f.cost ≤ M) : Run ns t a M [] f f:=by
 have:=Run.fin (a:=a) (M:=M) (f:=f) (Stk.nil (ns:=ns) (t:=t)) (by simpa using h)
 cases hb : f.best <;> cases f <;> simpa [bestF,hb] using this
theorem Run.two {x y : Wy} (h : Run ns t a M [x] f f1) (j : Run ns t a M [y] f1 f') (hm : f1.cost ≤ f'.cost) : Run ns t a M [x,y] f f':=by
 cases h with
 | @fin c hs h hc =>
  cases j with
  | @fin d ks j jc =>
   have:=Run.fin (a:=a) (M:=M) (f:=f) (Stk.app h j) (by simp at hc jc ⊢;omega)
   rw [List.map_append,bestF_app,show f.cost + ((c + d : Nat) : Int) = f.cost + (c : Int) + d by omega] at this
   exact this
  | over j jc => exact .over (Over.right (a:=[x]) h (by rw [show M - f.cost - (c : Int) = M - (f.cost + c) by omega];exact j)) jc
 | over h hc => exact .over (Over.left (a:=[x]) h) (by omega)
end
def SNd (H H1 H2 : Nat) (RE CS CN : Array Value) (w' : World) : Prop:=Held w' H 24 RE ∧ Held w' H1 29 CS ∧ Held w' H2 54 CN
theorem SNd.below {H H1 H2 : Nat} {RE CS CN : Array Value} {w1 w2 : World} (h : SNd H H1 H2 RE CS CN w1) (hb : Below w1.heap.size w1 w2) : SNd H H1 H2 RE CS CN w2:=⟨h.1.keep hb,h.2.1.keep hb,h.2.2.keep hb⟩
theorem nod_at (N : Nod) : (nodC N)[0]? = some (.int .i64 N.kind) ∧ (nodC N)[1]? = some (.int .i64 N.a) ∧ (nodC N)[2]? = some (.int .i64 N.b) ∧ (nodC N)[3]? = some (.int .i64 N.lo) ∧ (nodC N)[4]? = some (.int .i64 N.hi) ∧ (nodC N)[5]? = some (.int .i64 N.grp):=⟨rfl,rfl,rfl,rfl,rfl,rfl⟩
section
variable {w w' w1 : World} {F B : Nat} {An : Option Addr} {nn cn : Nat} {At : Option Addr} {nt ct : Nat} {ns : List Nod} {t : List UInt8} {g : Int} {a : Nat} {M : Int} {f f' f1 : Fnd} {D : Nat} {A : Option Addr} {n c : Nat} {l : List Tsk} {p : Pt}
end
end Go.Proofs.Ytbdfhmefjfaofaa
