/- Contracts and plain facts: M13. -/
import Derived.Test.YtbdfhmefjfaofaaM12
set_option linter.unusedVariables false
set_option linter.unusedSimpArgs false
set_option maxRecDepth 100000
set_option maxHeartbeats 32000000
namespace Go.Proofs.Ytbdfhmefjfaofaa
open Go.RowKit
section
variable {ns : List Nod} {t : List UInt8}
theorem backAt_neg {s : Int × Int} {i : Nat} (h : s.1 < 0) : backAt t s i = none:=by unfold backAt;rw [if_pos (.inl h)]
theorem backAt_far {s : Int × Int} {i : Nat} (h : (t.length : Int) - i < s.2 - s.1) : backAt t s i = none:=by unfold backAt;rw [if_pos (.inr h)]
theorem take_drop_at (a d k : Nat) : ((t.drop a).take d)[k]? = if k < d then t[a + k]? else none:=by
 rw [List.getElem?_take,List.getElem?_drop]
theorem backAt_no {s : Int × Int} {i k : Nat} (hk : k < (s.2 - s.1).toNat) (h : t[s.1.toNat + k]? ≠ t[i + k]?) : backAt t s i = none:=by
 unfold backAt
 split
 · rfl
 · rw [if_neg]
   intro e
   have:=congrArg (fun l => l[k]?) e
   simp only [take_drop_at,if_pos hk] at this
   exact h this
theorem backAt_yes {s : Int × Int} {i : Nat} (h0 : 0 ≤ s.1) (h1 : s.2 - s.1 ≤ (t.length : Int) - i) (h : ∀ k,k < (s.2 - s.1).toNat → t[s.1.toNat + k]? = t[i + k]?) : backAt t s i = some (i + (s.2 - s.1).toNat):=by
 unfold backAt
 rw [if_neg (by omega),if_pos]
 apply List.ext_getElem?
 intro k
 rw [take_drop_at,take_drop_at]
 split
 · exact h k (by assumption)
 · rfl
theorem next_set {n : Int} {p : Pt} (h : (ndA ns n).kind = 1) {c : UInt8} (hc : t[p.i]? = some c) : nexts ns t (.node n) p = if (ndA ns n).set c.toNat then [([],⟨p.i + 1,p.sp⟩)] else []:=by simp [nexts,h,hc]
theorem next_set_end {n : Int} {p : Pt} (h : (ndA ns n).kind = 1) (hc : t.length ≤ p.i) : nexts ns t (.node n) p = []:=by simp [nexts,h,hc]
theorem next_cat {n : Int} {p : Pt} (h : (ndA ns n).kind = 2) : nexts ns t (.node n) p = [([.node (ndA ns n).a,.node (ndA ns n).b],p)]:=by simp [nexts,h]
theorem next_alt {n : Int} {p : Pt} (h : (ndA ns n).kind = 3) : nexts ns t (.node n) p = [([.node (ndA ns n).a],p),([.node (ndA ns n).b],p)]:=by simp [nexts,h]
theorem next_rep {n : Int} {p : Pt} (h : (ndA ns n).kind = 4) : nexts ns t (.node n) p = (if (ndA ns n).hi = -1 ∨ 0 < (ndA ns n).hi then [([.node (ndA ns n).a,.times n 1 p.i],p)] else []) ++ (if (ndA ns n).lo ≤ 0 then [([],p)] else []):=by simp only [nexts,h];rw [if_neg (by decide),if_neg (by decide),if_neg (by decide),if_pos trivial]
theorem next_grp {n : Int} {p : Pt} (h : (ndA ns n).kind = 5) : nexts ns t (.node n) p = [([.node (ndA ns n).a,.gend (ndA ns n).grp p.i],p)]:=by simp [nexts,h]
theorem next_back {n : Int} {p : Pt} (h : (ndA ns n).kind = 6) {j : Nat} (hb : backAt t (p.sp (ndA ns n).grp.toNat) p.i = some j) : nexts ns t (.node n) p = [([],⟨j,p.sp⟩)]:=by simp [nexts,h,hb]
theorem next_back_no {n : Int} {p : Pt} (h : (ndA ns n).kind = 6) (hb : backAt t (p.sp (ndA ns n).grp.toNat) p.i = none) : nexts ns t (.node n) p = []:=by simp [nexts,h,hb]
theorem next_bol {n : Int} {p : Pt} (h : (ndA ns n).kind = 7) : nexts ns t (.node n) p = if p.i = 0 then [([],p)] else []:=by simp [nexts,h]
theorem next_eol {n : Int} {p : Pt} (h : (ndA ns n).kind = 8) : nexts ns t (.node n) p = if p.i = t.length then [([],p)] else []:=by simp [nexts,h]
theorem next_empty {n : Int} {p : Pt} (h : (ndA ns n).kind = 0) : nexts ns t (.node n) p = [([],p)]:=by simp [nexts,h]
theorem next_same {n k : Int} {p : Pt} : nexts ns t (.times n k p.i) p = if k ≤ (ndA ns n).lo then [([],p)] else []:=by simp [nexts]
theorem next_on {n k : Int} {q : Nat} {p : Pt} (h : p.i ≠ q) : nexts ns t (.times n k q) p = (if (ndA ns n).hi = -1 ∨ k < (ndA ns n).hi then [([.node (ndA ns n).a,.times n (k + 1) p.i],p)] else []) ++ (if (ndA ns n).lo ≤ k then [([],p)] else []):=by simp only [nexts];rw [if_neg h]
theorem Stk.go0 {tk : Tsk} {r : List Tsk} {p : Pt} (e : nexts ns t tk p = []) : Stk ns t [(tk :: r,p)] 1 []:=.step tk r p (by rw [e];exact .nil)
theorem Stk.go1 {tk : Tsk} {r ah : List Tsk} {p m : Pt} (e : nexts ns t tk p = [(ah,m)]) {c : Nat} {hs : List Pt} (h : Stk ns t [(ah ++ r,m)] c hs) : Stk ns t [(tk :: r,p)] (c + 1) hs:=.step tk r p (by rw [e];exact h)
theorem Stk.go2 {tk : Tsk} {r ah bh : List Tsk} {p m k : Pt} (e : nexts ns t tk p = [(ah,m),(bh,k)]) {c d : Nat} {hs ks : List Pt} (h : Stk ns t [(ah ++ r,m)] c hs) (j : Stk ns t [(bh ++ r,k)] d ks) : Stk ns t [(tk :: r,p)] (c + d + 1) (hs ++ ks):=.step tk r p (by rw [e];exact Stk.app (a:=[_]) h j)
theorem Over.go1 {tk : Tsk} {r ah : List Tsk} {p m : Pt} (e : nexts ns t tk p = [(ah,m)]) {M : Int} (h : Over ns t [(ah ++ r,m)] (M - 1)) : Over ns t [(tk :: r,p)] M:=Over.step (by rw [e];exact h)
theorem Over.go2a {tk : Tsk} {r ah bh : List Tsk} {p m k : Pt} (e : nexts ns t tk p = [(ah,m),(bh,k)]) {M : Int} (h : Over ns t [(ah ++ r,m)] (M - 1)) : Over ns t [(tk :: r,p)] M:=Over.step (by rw [e];exact Over.left (a:=[_]) h)
theorem Over.go2b {tk : Tsk} {r ah bh : List Tsk} {p m k : Pt} (e : nexts ns t tk p = [(ah,m),(bh,k)]) {M : Int} {c : Nat} {hs : List Pt} (h : Stk ns t [(ah ++ r,m)] c hs) (j : Over ns t [(bh ++ r,k)] (M - 1 - c)) : Over ns t [(tk :: r,p)] M:=Over.step (by rw [e];exact Over.right (a:=[_]) h j)
end
structure Fnd where
 best : Option Spn
 cost : Int
inductive Run (ns : List Nod) (t : List UInt8) (a : Nat) (M : Int) (s : List Wy) (f : Fnd) : Fnd → Prop
 | fin {c : Nat} {hs : List Pt} (h : Stk ns t s c hs) (hc : f.cost + c ≤ M) : Run ns t a M s f ⟨bestF f.best (hs.map (hitS a)),f.cost + c⟩
 | over {f' : Fnd} (h : Over ns t s (M - f.cost)) (hc : M < f'.cost) : Run ns t a M s f f'
section
variable {ns : List Nod} {t : List UInt8} {a : Nat} {M : Int}
theorem Run.hit {p : Pt} {f : Fnd} (h : f.cost ≤ M) : Run ns t a M [([],p)] f ⟨bestF f.best [hitS a p],f.cost⟩:=by
 have:=Run.fin (a:=a) (M:=M) (f:=f) (Stk.hit (ns:=ns) (t:=t) p .nil) (by simpa using h)
 simpa using this
theorem Run.out {tk : Tsk} {r : List Tsk} {p : Pt} {f : Fnd} {f' : Fnd} (h : M < f.cost + 1) (h' : M < f'.cost) : Run ns t a M [(tk :: r,p)] f f':=.over (Over.zero (by omega)) h'
theorem Run.go0 {tk : Tsk} {r : List Tsk} {p : Pt} {f : Fnd} (e : nexts ns t tk p = []) (h : f.cost + 1 ≤ M) : Run ns t a M [(tk :: r,p)] f ⟨f.best,f.cost + 1⟩:=by
 have:=Run.fin (a:=a) (M:=M) (f:=f) (Stk.go0 (r:=r) e) (by simpa using h)
 cases hb : f.best <;> simpa [bestF,hb] using this
theorem Run.go1 {tk : Tsk} {r ah : List Tsk} {p m : Pt} {f f' : Fnd} (e : nexts ns t tk p = [(ah,m)]) (h : Run ns t a M [(ah ++ r,m)] ⟨f.best,f.cost + 1⟩ f') : Run ns t a M [(tk :: r,p)] f f':=by
 cases h with
 | @fin c hs h hc =>
  have:=Run.fin (a:=a) (M:=M) (f:=f) (Stk.go1 e h) (by simp at hc ⊢;omega)
  rw [show f.cost + ((c + 1 : Nat) : Int) = f.cost + 1 + (c : Int) by omega] at this
  exact this
 | over h hc => exact .over (Over.go1 e (by rw [show M - f.cost - 1 = M - (f.cost + 1) by omega];exact h)) hc
theorem Run.go2 {tk : Tsk} {r ah bh : List Tsk} {p m k : Pt} {f f1 f' : Fnd} (e : nexts ns t tk p = [(ah,m),(bh,k)]) (h : Run ns t a M [(ah ++ r,m)] ⟨f.best,f.cost + 1⟩ f1) (j : Run ns t a M [(bh ++ r,k)] f1 f') (hm : f1.cost ≤ f'.cost) : Run ns t a M [(tk :: r,p)] f f':=by
 cases h with
 | @fin c hs h hc =>
  cases j with
  | @fin d ks j jc =>
   have:=Run.fin (a:=a) (M:=M) (f:=f) (Stk.go2 e h j) (by simp at hc jc ⊢;omega)
   rw [List.map_append,bestF_app,show f.cost + ((c + d + 1 : Nat) : Int) = f.cost + 1 + (c : Int) + d by omega] at this
   exact this
  | over j jc => exact .over (Over.go2b e h (by rw [show M - f.cost - 1 - (c : Int) = M - (f.cost + 1 + c) by omega];exact j)) jc
 | over h hc => exact .over (Over.go2a e (by rw [show M - f.cost - 1 = M - (f.cost + 1) by omega];exact h)) (by omega)
theorem Run.told {n : Int} {f' : Fnd} (h : Run ns t a M [([.node n],pt0 a)] ⟨none,0⟩ f') : (f'.cost ≤ M → Told11 ns t n a M (some (f'.best,M - f'.cost))) ∧ (M < f'.cost → Told11 ns t n a M none):=by
 cases h with
 | @fin c hs h hc =>
  simp only [Int.zero_add] at hc ⊢
  exact ⟨fun _ => .fin h hc,fun h2 => absurd h2 (by omega)⟩
 | over h hc =>
  simp only [Int.sub_zero] at h
  exact ⟨fun h2 => absurd h2 (by omega),fun _ => .over h⟩
end
def Eqv (ns : List Nod) (t : List UInt8) (x y : List Wy) (c : Nat) (hs : List Pt) : Prop :=
 (∀ d ks,Stk ns t y d ks → ∃ ms,(hs ++ ks).Perm ms ∧ Stk ns t x (c + d) ms) ∧ (∀ d ms,Stk ns t x d ms → ∃ e ks,d = c + e ∧ (hs ++ ks).Perm ms ∧ Stk ns t y e ks)
section
variable {ns : List Nod} {t : List UInt8}
theorem Eqv.refl (x : List Wy) : Eqv ns t x x 0 []:=⟨fun d ks h => ⟨ks,.refl _,by rw [Nat.zero_add];exact h⟩,fun d ms h => ⟨d,ms,by omega,.refl _,h⟩⟩
theorem Eqv.trans {x y z : List Wy} {c d : Nat} {hs ks : List Pt} (h : Eqv ns t x y c hs) (k : Eqv ns t y z d ks) : Eqv ns t x z (c + d) (hs ++ ks):=by
 refine ⟨fun e js hz => ?_,fun e ms hx => ?_⟩
 · obtain ⟨m1,p1,s1⟩:=k.1 e js hz
   obtain ⟨m2,p2,s2⟩:=h.1 _ _ s1
   exact ⟨m2,by rw [List.append_assoc];exact (p1.append_left hs).trans p2,by rw [Nat.add_assoc];exact s2⟩
 · obtain ⟨e1,k1,q1,p1,s1⟩:=h.2 e ms hx
   obtain ⟨e2,k2,q2,p2,s2⟩:=k.2 e1 k1 s1
   exact ⟨e2,k2,by omega,by rw [List.append_assoc];exact (p2.append_left hs).trans p1,s2⟩
theorem Eqv.perm {x y : List Wy} (h : x.Perm y) : Eqv ns t x y 0 []:=by
 refine ⟨fun d ks hy => ?_,fun d ms hx => ?_⟩
 · obtain ⟨ms,p,s⟩:=Stk.perm h.symm hy
   exact ⟨ms,p,by rw [Nat.zero_add];exact s⟩
 · obtain ⟨ks,p,s⟩:=Stk.perm h hx
   exact ⟨d,ks,by omega,p.symm,s⟩
theorem Eqv.step {tk : Tsk} {r : List Tsk} {p : Pt} {s : List Wy} : Eqv ns t ((tk :: r,p) :: s) ((nexts ns t tk p).map (ahead r) ++ s) 1 []:=by
 refine ⟨fun d ks h => ⟨ks,.refl _,by rw [Nat.add_comm];exact .step tk r p h⟩,fun d ms h => ?_⟩
 cases h with
 | @step _ _ _ _ c _ k => exact ⟨c,ms,by omega,.refl _,k⟩
theorem Eqv.hit {p : Pt} {s : List Wy} : Eqv ns t (([],p) :: s) s 0 [p]:=by
 refine ⟨fun d ks h => ⟨p :: ks,.refl _,by rw [Nat.zero_add];exact .hit p h⟩,fun d ms h => ?_⟩
 cases h with
 | @hit _ _ c ks k => exact ⟨d,ks,by omega,.refl _,k⟩
theorem Eqv.over {x y : List Wy} {c : Nat} {hs : List Pt} {M : Int} (h : Eqv ns t x y c hs) (k : Over ns t y (M - c)) : Over ns t x M:=fun d ms hx => by
 obtain ⟨e,ks,q,_,s⟩:=h.2 d ms hx
 have:=k e ks s
 omega
theorem Eqv.told {g : Int} (hr : Rt ns g) {n : Int} (h0 : 0 ≤ n) (h1 : n < ns.length) {a c : Nat} {hs : List Pt} {M : Int} (h : Eqv ns t [([.node n],pt0 a)] [] c hs) (hc : (c : Int) ≤ M) : Told11 ns t n a M (some (bestF none (hs.map (hitS a)),M - c)):=by
 obtain ⟨ms,p,s⟩:=h.1 0 [] .nil
 rw [List.append_nil] at p
 rw [← perm_best hr h0 h1 s p.symm]
 have:=Told11.fin (M:=M) s (by omega)
 simpa using this
end
def TOK (ns : List Nod) (g : Int) (a i : Nat) : Tsk → Prop
 | .node n => 0 ≤ n ∧ n < ns.length
 | .gend d q => (1 ≤ d ∧ d ≤ g) ∧ a ≤ q ∧ q ≤ i
 | .times n k q => (0 ≤ n ∧ n < ns.length) ∧ (ndA ns n).kind = 4 ∧ 0 ≤ k ∧ k ≤ (q : Int) + 1 ∧ q ≤ i
structure WOK (ns : List Nod) (t : List UInt8) (g : Int) (a : Nat) (x : Wy) : Prop where
 lo : a ≤ x.2.i
 hi : x.2.i ≤ t.length
 lies : Lies a g x.2
 toks : ∀ tk ∈ x.1,TOK ns g a x.2.i tk
section
variable {ns : List Nod} {t : List UInt8} {g : Int} {a : Nat}
theorem TOK.more {i j : Nat} {tk : Tsk} (h : TOK ns g a i tk) (hj : i ≤ j) : TOK ns g a j tk:=by
 cases tk with
 | node n => exact h
 | gend d q => exact ⟨h.1,h.2.1,Nat.le_trans h.2.2 hj⟩
 | times n k q => exact ⟨h.1,h.2.1,h.2.2.1,h.2.2.2.1,Nat.le_trans h.2.2.2.2 hj⟩
theorem wok0 (hr : Rt ns g) (h1 : 1 ≤ ns.length) (ha : a ≤ t.length) : WOK ns t g a ([.node ((ns.length : Int) - 1)],pt0 a) where
 lo:=nlr _
 hi:=ha
 lies:=pt0_lies _ _ _
 toks tk h:=by
  simp only [List.mem_singleton] at h
  subst h
  exact ⟨by omega,by omega⟩
theorem WOK.of {r ah : List Tsk} {p m : Pt} {tk : Tsk} (h : WOK ns t g a (tk :: r,p)) (hlo : p.i ≤ m.i) (hhi : m.i ≤ t.length) (hl : Lies a g m) (ht : ∀ tk ∈ ah,TOK ns g a m.i tk) : WOK ns t g a (ah ++ r,m) where
 lo:=Nat.le_trans h.lo hlo
 hi:=hhi
 lies:=hl
 toks x hx:=by
  rcases List.mem_append.1 hx with hx | hx
  · exact ht x hx
  · exact (h.toks x (List.mem_cons_of_mem _ hx)).more hlo
theorem WOK.next (hr : Rt ns g) {tk : Tsk} {r : List Tsk} {p : Pt} (h : WOK ns t g a (tk :: r,p)) : ∀ x ∈ (nexts ns t tk p).map (ahead r),WOK ns t g a x:=by
 intro x hx
 obtain ⟨⟨ah,m⟩,hm,rfl⟩:=List.mem_map.1 hx
 have hs:=(nexts_mem (hr.kind tk)).1 hm
 have ht:=h.toks tk List.mem_cons_self
 have hself : ∀ n : Int,0 ≤ n → n < ns.length → (0 ≤ (ndA ns n).kind ∧ (ndA ns n).kind ≤ 8) ∧ _:=hr.2.2
 cases hs with
 | empty n _ hk => exact h.of (nlr _) h.hi h.lies fun _ hx => nomatch hx
 | set n _ c hk hc hs =>
  refine h.of (Nat.le_succ _) ?_ (h.lies.on (Nat.le_succ _)) fun _ hx => nomatch hx
  have:=(List.getElem?_eq_some_iff.1 hc).1
  exact this
 | cat n _ hk =>
  obtain ⟨h1,h2⟩:=(hr.2.2 n ht.1 ht.2).2.1 (.inl hk)
  have:=ht.2
  refine h.of (nlr _) h.hi h.lies fun x hx => ?_
  simp only [List.mem_cons,List.not_mem_nil,or_false] at hx
  rcases hx with rfl | rfl
  · exact ⟨h1.1,by omega⟩
  · exact ⟨h2.1,by omega⟩
 | altA n _ hk =>
  obtain ⟨h1,h2⟩:=(hr.2.2 n ht.1 ht.2).2.1 (.inr hk)
  have:=ht.2
  refine h.of (nlr _) h.hi h.lies fun x hx => ?_
  simp only [List.mem_singleton] at hx
  subst hx
  exact ⟨h1.1,by omega⟩
 | altB n _ hk =>
  obtain ⟨h1,h2⟩:=(hr.2.2 n ht.1 ht.2).2.1 (.inr hk)
  have:=ht.2
  refine h.of (nlr _) h.hi h.lies fun x hx => ?_
  simp only [List.mem_singleton] at hx
  subst hx
  exact ⟨h2.1,by omega⟩
 | repOn n _ hk hh =>
  have h1:=(hr.2.2 n ht.1 ht.2).2.2.1 (.inl hk)
  have:=ht.2
  refine h.of (nlr _) h.hi h.lies fun x hx => ?_
  simp only [List.mem_cons,List.not_mem_nil,or_false] at hx
  rcases hx with rfl | rfl
  · exact ⟨h1.1,by omega⟩
  · exact ⟨ht,hk,by omega,by omega,nlr _⟩
 | repOff n _ hk hh => exact h.of (nlr _) h.hi h.lies fun _ hx => nomatch hx
 | group n _ hk =>
  have h1:=(hr.2.2 n ht.1 ht.2).2.2.1 (.inr hk)
  have hg:=(hr.2.2 n ht.1 ht.2).2.2.2.2 (.inl hk)
  have:=ht.2
  refine h.of (nlr _) h.hi h.lies fun x hx => ?_
  simp only [List.mem_cons,List.not_mem_nil,or_false] at hx
  rcases hx with rfl | rfl
  · exact ⟨h1.1,by omega⟩
  · exact ⟨hg,h.lo,nlr _⟩
 | back n _ j hk hb =>
  obtain ⟨h1,h2,_⟩:=backAt_le hb
  exact h.of h1 (h2 h.hi) (h.lies.on h1) fun _ hx => nomatch hx
 | bol n _ hk hp => exact h.of (nlr _) h.hi h.lies fun _ hx => nomatch hx
 | eol n _ hk hp => exact h.of (nlr _) h.hi h.lies fun _ hx => nomatch hx
 | gend d q _ =>
  obtain ⟨⟨d1,d2⟩,q1,q2⟩:=ht
  exact h.of (m:=⟨p.i,setSp p.sp d.toNat ((q : Int),(p.i : Int))⟩) (nlr _) h.hi (Lies.set (p:=⟨q,p.sp⟩) h.lies (by show (a : Int) ≤ (q : Int);omega) q2 d1 d2) fun _ hx => nomatch hx
 | same n k _ hk => exact h.of (nlr _) h.hi h.lies fun _ hx => nomatch hx
 | on n k q _ hq hk =>
  obtain ⟨t1,t2,t3,t4,t5⟩:=ht
  replace t5 : q ≤ p.i:=t5
  have h1:=(hr.2.2 n t1.1 t1.2).2.2.1 (.inl t2)
  have:=t1.2
  refine h.of (nlr _) h.hi h.lies fun x hx => ?_
  simp only [List.mem_cons,List.not_mem_nil,or_false] at hx
  rcases hx with rfl | rfl
  · exact ⟨h1.1,by omega⟩
  · exact ⟨t1,t2,by omega,by omega,nlr _⟩
 | off n k q _ hq hk => exact h.of (nlr _) h.hi h.lies fun _ hx => nomatch hx
theorem WOK.span {x : Wy} (h : WOK ns t g a x) (k : Nat) : x.2.sp k = (-1,-1) ∨ (0 ≤ (x.2.sp k).1 ∧ (x.2.sp k).1 ≤ (x.2.sp k).2 ∧ (x.2.sp k).2 ≤ x.2.i ∧ (x.2.i : Int) ≤ t.length):=by
 rcases h.lies k with h1 | ⟨_,h1,h2,h3⟩
 · exact .inl h1
 · have:=h.hi
   exact .inr ⟨by omega,h2,h3,by omega⟩
end
end Go.Proofs.Ytbdfhmefjfaofaa
