/- Contracts and plain facts: M14. -/
import Derived.Test.YtbdfhmefjfaofaaM13
set_option linter.unusedVariables false
set_option linter.unusedSimpArgs false
set_option maxRecDepth 100000
set_option maxHeartbeats 32000000
namespace Go.Proofs.Ytbdfhmefjfaofaa
open Go.RowKit
section
variable {ns : List Nod} {t : List UInt8}
theorem backAt_neg {s : Int × Int} {i : Nat} (h : s.1 < 0) : backAt t s i = none:=by unfold backAt;rw [if_pos (.inl h)]
theorem backAt_far {s : Int × Int} {i : Nat} (h : (t.length : Int) - i < s.2 - s.1) : backAt t s i = none:=by unfold backAt;rw [if_pos (.inr h)]
theorem take_drop_at (a d k : Nat) : ((t.drop a).take d)[k]? = if k < d then t[a + k]? else none:=by
 rw [List.getElem?_take,List.getElem?_drop]
theorem backAt_no {s : Int × Int} {i k : Nat} (hk : k < (s.2 - s.1).toNat) (h : t[s.1.toNat + k]? ≠ t[i + k]?) : backAt t s i = none:=by
 unfold backAt
 split
 · rfl
 · rw [if_neg]
   intro e
   have:=congrArg (fun l => l[k]?) e
   simp only [take_drop_at,if_pos hk] at this
   exact h this
theorem backAt_yes {s : Int × Int} {i : Nat} (h0 : 0 ≤ s.1) (h1 : s.2 - s.1 ≤ (t.length : Int) - i) (h : ∀ k,k < (s.2 - s.1).toNat → t[s.1.toNat + k]? = t[i + k]?) : backAt t s i = some (i + (s.2 - s.1).toNat):=by
 unfold backAt
 rw [if_neg (by omega),if_pos]
 apply List.ext_getElem?
 intro k
 rw [take_drop_at,take_drop_at]
 split
 · exact h k (by assumption)
 · rfl
theorem next_set {n : Int} {p : Pt} (h : (ndA ns n).kind = 1) {c : UInt8} (hc : t[p.i]? = some c) : nexts ns t (.node n) p = if (ndA ns n).set c.toNat then [([],⟨p.i + 1,p.sp⟩)] else []:=by simp [nexts,h,hc]
theorem next_set_end {n : Int} {p : Pt} (h : (ndA ns n).kind = 1) (hc : t.length ≤ p.i) : nexts ns t (.node n) p = []:=by simp [nexts,h,hc]
theorem next_cat {n : Int} {p : Pt} (h : (ndA ns n).kind = 2) : nexts ns t (.node n) p = [([.node (ndA ns n).a,.node (ndA ns n).b],p)]:=by simp [nexts,h]
theorem next_alt {n : Int} {p : Pt} (h : (ndA ns n).kind = 3) : nexts ns t (.node n) p = [([.node (ndA ns n).a],p),([.node (ndA ns n).b],p)]:=by simp [nexts,h]
theorem next_rep {n : Int} {p : Pt} (h : (ndA ns n).kind = 4) : nexts ns t (.node n) p = (if (ndA ns n).hi = -1 ∨ 0 < (ndA ns n).hi then [([.node (ndA ns n).a,.times n 1 p.i],p)] else []) ++ (if (ndA ns n).lo ≤ 0 then [([],p)] else []):=by simp only [nexts,h];rw [if_neg (by decide),if_neg (by decide),if_neg (by decide),if_pos trivial]
theorem next_grp {n : Int} {p : Pt} (h : (ndA ns n).kind = 5) : nexts ns t (.node n) p = [([.node (ndA ns n).a,.gend (ndA ns n).grp p.i],p)]:=by simp [nexts,h]
theorem next_back {n : Int} {p : Pt} (h : (ndA ns n).kind = 6) {j : Nat} (hb : backAt t (p.sp (ndA ns n).grp.toNat) p.i = some j) : nexts ns t (.node n) p = [([],⟨j,p.sp⟩)]:=by simp [nexts,h,hb]
theorem next_back_no {n : Int} {p : Pt} (h : (ndA ns n).kind = 6) (hb : backAt t (p.sp (ndA ns n).grp.toNat) p.i = none) : nexts ns t (.node n) p = []:=by simp [nexts,h,hb]
theorem next_bol {n : Int} {p : Pt} (h : (ndA ns n).kind = 7) : nexts ns t (.node n) p = if p.i = 0 then [([],p)] else []:=by simp [nexts,h]
theorem next_eol {n : Int} {p : Pt} (h : (ndA ns n).kind = 8) : nexts ns t (.node n) p = if p.i = t.length then [([],p)] else []:=by simp [nexts,h]
theorem next_empty {n : Int} {p : Pt} (h : (ndA ns n).kind = 0) : nexts ns t (.node n) p = [([],p)]:=by simp [nexts,h]
theorem next_same {n k : Int} {p : Pt} : nexts ns t (.times n k p.i) p = if k ≤ (ndA ns n).lo then [([],p)] else []:=by simp [nexts]
theorem next_on {n k : Int} {q : Nat} {p : Pt} (h : p.i ≠ q) : nexts ns t (.times n k q) p = (if (ndA ns n).hi = -1 ∨ k < (ndA ns n).hi then [([.node (ndA ns n).a,.times n (k + 1) p.i],p)] else []) ++ (if (ndA ns n).lo ≤ k then [([],p)] else []):=by simp only [nexts];rw [if_neg h]
theorem Stk.go0 {tk : Tsk} {r : List Tsk} {p : Pt} (e : nexts ns t tk p = []) : Stk ns t [(tk :: r,p)] 1 []:=.step tk r p (by rw [e];exact .nil)
theorem Stk.go1 {tk : Tsk} {r ah : List Tsk} {p m : Pt} (e : nexts ns t tk p = [(ah,m)]) {c : Nat} {hs : List Pt} (h : Stk ns t [(ah ++ r,m)] c hs) : Stk ns t [(tk :: r,p)] (c + 1) hs:=.step tk r p (by rw [e];exact h)
theorem Stk.go2 {tk : Tsk} {r ah bh : List Tsk} {p m k : Pt} (e : nexts ns t tk p = [(ah,m),(bh,k)]) {c d : Nat} {hs ks : List Pt} (h : Stk ns t [(ah ++ r,m)] c hs) (j : Stk ns t [(bh ++ r,k)] d ks) : Stk ns t [(tk :: r,p)] (c + d + 1) (hs ++ ks):=.step tk r p (by rw [e];exact Stk.app (a:=[_]) h j)
theorem Over.go1 {tk : Tsk} {r ah : List Tsk} {p m : Pt} (e : nexts ns t tk p = [(ah,m)]) {M : Int} (h : Over ns t [(ah ++ r,m)] (M - 1)) : Over ns t [(tk :: r,p)] M:=Over.step (by rw [e];exact h)
theorem Over.go2a {tk : Tsk} {r ah bh : List Tsk} {p m k : Pt} (e : nexts ns t tk p = [(ah,m),(bh,k)]) {M : Int} (h : Over ns t [(ah ++ r,m)] (M - 1)) : Over ns t [(tk :: r,p)] M:=Over.step (by rw [e];exact Over.left (a:=[_]) h)
theorem Over.go2b {tk : Tsk} {r ah bh : List Tsk} {p m k : Pt} (e : nexts ns t tk p = [(ah,m),(bh,k)]) {M : Int} {c : Nat} {hs : List Pt} (h : Stk ns t [(ah ++ r,m)] c hs) (j : Over ns t [(bh ++ r,k)] (M - 1 - c)) : Over ns t [(tk :: r,p)] M:=Over.step (by rw [e];exact Over.right (a:=[_]) h j)
end
structure Fnd where
 best : Option Spn
 cost : Int
inductive Run (ns : List Nod) (t : List UInt8) (a : Nat) (M : Int) (s : List Wy) (f : Fnd) : Fnd → Prop
 | fin {c : Nat} {hs : List Pt} (h : Stk ns t s c hs) (hc : f.cost + c ≤ M) : Run ns t a M s f ⟨bestF f.best (hs.map (hitS a)),f.cost + c⟩
 | over {f' : Fnd} (h : Over ns t s (M - f.cost)) (hc : M < f'.cost) : Run ns t a M s f f'
section
variable {ns : List Nod} {t : List UInt8} {a : Nat} {M : Int}
theorem Run.hit {p : Pt} {f : Fnd} (h : f.cost ≤ M) : Run ns t a M [([],p)] f ⟨bestF f.best [hitS a p],f.cost⟩:=by
 have:=Run.fin (a:=a) (M:=M) (f:=f) (Stk.hit (ns:=ns) (t:=t) p .nil) (by simpa using h)
 simpa using this
theorem Run.out {tk : Tsk} {r : List Tsk} {p : Pt} {f : Fnd} {f' : Fnd} (h : M < f.cost + 1) (h' : M < f'.cost) : Run ns t a M [(tk :: r,p)] f f':=.over (Over.zero (by omega)) h'
theorem Run.go0 {tk : Tsk} {r : List Tsk} {p : Pt} {f : Fnd} (e : nexts ns t tk p = []) (h : f.cost + 1 ≤ M) : Run ns t a M [(tk :: r,p)] f ⟨f.best,f.cost + 1⟩:=by
 have:=Run.fin (a:=a) (M:=M) (f:=f) (Stk.go0 (r:=r) e) (by simpa using h)
 cases hb : f.best <;> simpa [bestF,hb] using this
theorem Run.go1 {tk : Tsk} {r ah : List Tsk} {p m : Pt} {f f' : Fnd} (e : nexts ns t tk p = [(ah,m)]) (h : Run ns t a M [(ah ++ r,m)] ⟨f.best,f.cost + 1⟩ f') : Run ns t a M [(tk :: r,p)] f f':=by
 cases h with
 | @fin c hs h hc =>
  have:=Run.fin (a:=a) (M:=M) (f:=f) (Stk.go1 e h) (by simp at hc ⊢;omega)
  rw [show f.cost + ((c + 1 : Nat) : Int) = f.cost + 1 + (c : Int) by omega] at this
  exact this
 | over h hc => exact .over (Over.go1 e (by rw [show M - f.cost - 1 = M - (f.cost + 1) by omega];exact h)) hc
theorem Run.go2 {tk : Tsk} {r ah bh : List Tsk} {p m k : Pt} {f f1 f' : Fnd} (e : nexts ns t tk p = [(ah,m),(bh,k)]) (h : Run ns t a M [(ah ++ r,m)] ⟨f.best,f.cost + 1⟩ f1) (j : Run ns t a M [(bh ++ r,k)] f1 f') (hm : f1.cost ≤ f'.cost) : Run ns t a M [(tk :: r,p)] f f':=by
 cases h with
 | @fin c hs h hc =>
  cases j with
  | @fin d ks j jc =>
   have:=Run.fin (a:=a) (M:=M) (f:=f) (Stk.go2 e h j) (by simp at hc jc ⊢;omega)
   rw [List.map_append,bestF_app,show f.cost + ((c + d + 1 : Nat) : Int) = f.cost + 1 + (c : Int) + d by omega] at this
   exact this
  | over j jc => exact .over (Over.go2b e h (by rw [show M - f.cost - 1 - (c : Int) = M - (f.cost + 1 + c) by omega];exact j)) jc
 | over h hc => exact .over (Over.go2a e (by rw [show M - f.cost - 1 = M - (f.cost + 1) by omega];exact h)) (by omega)
theorem Run.told {n : Int} {f' : Fnd} (h : Run ns t a M [([.node n],pt0 a)] ⟨none,0⟩ f') : (f'.cost ≤ M → Told11 ns t n a M (some (f'.best,M - f'.cost))) ∧ (M < f'.cost → Told11 ns t n a M none):=by
 cases h with
 | @fin c hs h hc =>
  simp only [Int.zero_add] at hc ⊢
  exact ⟨fun _ => .fin h hc,fun h2 => absurd h2 (by omega)⟩
 | over h hc =>
  simp only [Int.sub_zero] at h
  exact ⟨fun h2 => absurd h2 (by omega),fun _ => .over h⟩
end
end Go.Proofs.Ytbdfhmefjfaofaa
