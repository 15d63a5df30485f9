/- Contracts and plain facts: M09. -/
import Derived.Test.YtjopmieaikgbcaaM08
set_option linter.unusedVariables false
set_option linter.unusedSimpArgs false
set_option maxRecDepth 100000
set_option maxHeartbeats 32000000
namespace Go.Proofs.Ytjopmieaikgbcaa
open Go.RowKit
def Eqv (ns : List Nod) (t : List UInt8) (x y : List Wy) (c : Nat) (hs : List Pt) : Prop :=
 (∀ d ks,Stk ns t y d ks → ∃ ms,(hs ++ ks).Perm ms ∧ Stk ns t x (c + d) ms) ∧ (∀ d ms,Stk ns t x d ms → ∃ e ks,d = c + e ∧ (hs ++ ks).Perm ms ∧ Stk ns t y e ks)
section
variable {ns : List Nod} {t : List UInt8}
theorem Eqv.refl (x : List Wy) : Eqv ns t x x 0 []:=⟨fun d ks h => ⟨ks,.refl _,by rw [Nat.zero_add];exact h⟩,fun d ms h => ⟨d,ms,by omega,.refl _,h⟩⟩
theorem Eqv.trans {x y z : List Wy} {c d : Nat} {hs ks : List Pt} (h : Eqv ns t x y c hs) (k : Eqv ns t y z d ks) : Eqv ns t x z (c + d) (hs ++ ks):=by
 refine ⟨fun e js hz => ?_,fun e ms hx => ?_⟩
 · obtain ⟨m1,p1,s1⟩:=k.1 e js hz
   obtain ⟨m2,p2,s2⟩:=h.1 _ _ s1
   exact ⟨m2,by rw [List.append_assoc];exact (p1.append_left hs).trans p2,by rw [Nat.add_assoc];exact s2⟩
 · obtain ⟨e1,k1,q1,p1,s1⟩:=h.2 e ms hx
   obtain ⟨e2,k2,q2,p2,s2⟩:=k.2 e1 k1 s1
   exact ⟨e2,k2,by omega,by rw [List.append_assoc];exact (p2.append_left hs).trans p1,s2⟩
theorem Eqv.perm {x y : List Wy} (h : x.Perm y) : Eqv ns t x y 0 []:=by
 refine ⟨fun d ks hy => ?_,fun d ms hx => ?_⟩
 · obtain ⟨ms,p,s⟩:=Stk.perm h.symm hy
   exact ⟨ms,p,by rw [Nat.zero_add];exact s⟩
 · obtain ⟨ks,p,s⟩:=Stk.perm h hx
   exact ⟨d,ks,by omega,p.symm,s⟩
theorem Eqv.step {tk : Tsk} {r : List Tsk} {p : Pt} {s : List Wy} : Eqv ns t ((tk :: r,p) :: s) ((nexts ns t tk p).map (ahead r) ++ s) 1 []:=by
 refine ⟨fun d ks h => ⟨ks,.refl _,by rw [Nat.add_comm];exact .step tk r p h⟩,fun d ms h => ?_⟩
 cases h with
 | @step _ _ _ _ c _ k => exact ⟨c,ms,by omega,.refl _,k⟩
theorem Eqv.hit {p : Pt} {s : List Wy} : Eqv ns t (([],p) :: s) s 0 [p]:=by
 refine ⟨fun d ks h => ⟨p :: ks,.refl _,by rw [Nat.zero_add];exact .hit p h⟩,fun d ms h => ?_⟩
 cases h with
 | @hit _ _ c ks k => exact ⟨d,ks,by omega,.refl _,k⟩
theorem Eqv.over {x y : List Wy} {c : Nat} {hs : List Pt} {M : Int} (h : Eqv ns t x y c hs) (k : Over ns t y (M - c)) : Over ns t x M:=fun d ms hx => by
 obtain ⟨e,ks,q,_,s⟩:=h.2 d ms hx
 have:=k e ks s
 omega
theorem Eqv.told {g : Int} (hr : Rt ns g) {n : Int} (h0 : 0 ≤ n) (h1 : n < ns.length) {a c : Nat} {hs : List Pt} {M : Int} (h : Eqv ns t [([.node n],pt0 a)] [] c hs) (hc : (c : Int) ≤ M) : Told11 ns t n a M (some (bestF none (hs.map (hitS a)),M - c)):=by
 obtain ⟨ms,p,s⟩:=h.1 0 [] .nil
 rw [List.append_nil] at p
 rw [← perm_best hr h0 h1 s p.symm]
 have:=Told11.fin (M:=M) s (by omega)
 simpa using this
end
def TOK (ns : List Nod) (g : Int) (a i : Nat) : Tsk → Prop
 | .node n => 0 ≤ n ∧ n < ns.length
 | .gend d q => (1 ≤ d ∧ d ≤ g) ∧ a ≤ q ∧ q ≤ i
 | .times n k q => (0 ≤ n ∧ n < ns.length) ∧ (ndA ns n).kind = 4 ∧ 0 ≤ k ∧ k ≤ (q : Int) + 1 ∧ q ≤ i
structure WOK (ns : List Nod) (t : List UInt8) (g : Int) (a : Nat) (x : Wy) : Prop where
 lo : a ≤ x.2.i
 hi : x.2.i ≤ t.length
 lies : Lies a g x.2
 toks : ∀ tk ∈ x.1,TOK ns g a x.2.i tk
section
variable {ns : List Nod} {t : List UInt8} {g : Int} {a : Nat}
theorem TOK.more {i j : Nat} {tk : Tsk} (h : TOK ns g a i tk) (hj : i ≤ j) : TOK ns g a j tk:=by
 cases tk with
 | node n => exact h
 | gend d q => exact ⟨h.1,h.2.1,Nat.le_trans h.2.2 hj⟩
 | times n k q => exact ⟨h.1,h.2.1,h.2.2.1,h.2.2.2.1,Nat.le_trans h.2.2.2.2 hj⟩
theorem wok0 (hr : Rt ns g) (h1 : 1 ≤ ns.length) (ha : a ≤ t.length) : WOK ns t g a ([.node ((ns.length : Int) - 1)],pt0 a) where
 lo:=nlr _
 hi:=ha
 lies:=pt0_lies _ _ _
 toks tk h:=by
  simp only [List.mem_singleton] at h
  subst h
  exact ⟨by omega,by omega⟩
theorem WOK.of {r ah : List Tsk} {p m : Pt} {tk : Tsk} (h : WOK ns t g a (tk :: r,p)) (hlo : p.i ≤ m.i) (hhi : m.i ≤ t.length) (hl : Lies a g m) (ht : ∀ tk ∈ ah,TOK ns g a m.i tk) : WOK ns t g a (ah ++ r,m) where
 lo:=Nat.le_trans h.lo hlo
 hi:=hhi
 lies:=hl
 toks x hx:=by
  rcases List.mem_append.1 hx with hx | hx
  · exact ht x hx
  · exact (h.toks x (List.mem_cons_of_mem _ hx)).more hlo
theorem WOK.next (hr : Rt ns g) {tk : Tsk} {r : List Tsk} {p : Pt} (h : WOK ns t g a (tk :: r,p)) : ∀ x ∈ (nexts ns t tk p).map (ahead r),WOK ns t g a x:=by
 intro x hx
 obtain ⟨⟨ah,m⟩,hm,rfl⟩:=List.mem_map.1 hx
 have hs:=(nexts_mem (hr.kind tk)).1 hm
 have ht:=h.toks tk List.mem_cons_self
 have hself : ∀ n : Int,0 ≤ n → n < ns.length → (0 ≤ (ndA ns n).kind ∧ (ndA ns n).kind ≤ 8) ∧ _:=hr.2.2
 cases hs with
 | empty n _ hk => exact h.of (nlr _) h.hi h.lies fun _ hx => nomatch hx
 | set n _ c hk hc hs =>
  refine h.of (Nat.le_succ _) ?_ (h.lies.on (Nat.le_succ _)) fun _ hx => nomatch hx
  have:=(List.getElem?_eq_some_iff.1 hc).1
  exact this
 | cat n _ hk =>
  obtain ⟨h1,h2⟩:=(hr.2.2 n ht.1 ht.2).2.1 (.inl hk)
  have:=ht.2
  refine h.of (nlr _) h.hi h.lies fun x hx => ?_
  simp only [List.mem_cons,List.not_mem_nil,or_false] at hx
  rcases hx with rfl | rfl
  · exact ⟨h1.1,by omega⟩
  · exact ⟨h2.1,by omega⟩
 | altA n _ hk =>
  obtain ⟨h1,h2⟩:=(hr.2.2 n ht.1 ht.2).2.1 (.inr hk)
  have:=ht.2
  refine h.of (nlr _) h.hi h.lies fun x hx => ?_
  simp only [List.mem_singleton] at hx
  subst hx
  exact ⟨h1.1,by omega⟩
 | altB n _ hk =>
  obtain ⟨h1,h2⟩:=(hr.2.2 n ht.1 ht.2).2.1 (.inr hk)
  have:=ht.2
  refine h.of (nlr _) h.hi h.lies fun x hx => ?_
  simp only [List.mem_singleton] at hx
  subst hx
  exact ⟨h2.1,by omega⟩
 | repOn n _ hk hh =>
  have h1:=(hr.2.2 n ht.1 ht.2).2.2.1 (.inl hk)
  have:=ht.2
  refine h.of (nlr _) h.hi h.lies fun x hx => ?_
  simp only [List.mem_cons,List.not_mem_nil,or_false] at hx
  rcases hx with rfl | rfl
  · exact ⟨h1.1,by omega⟩
  · exact ⟨ht,hk,by omega,by omega,nlr _⟩
 | repOff n _ hk hh => exact h.of (nlr _) h.hi h.lies fun _ hx => nomatch hx
 | group n _ hk =>
  have h1:=(hr.2.2 n ht.1 ht.2).2.2.1 (.inr hk)
  have hg:=(hr.2.2 n ht.1 ht.2).2.2.2.2 (.inl hk)
  have:=ht.2
  refine h.of (nlr _) h.hi h.lies fun x hx => ?_
  simp only [List.mem_cons,List.not_mem_nil,or_false] at hx
  rcases hx with rfl | rfl
  · exact ⟨h1.1,by omega⟩
  · exact ⟨hg,h.lo,nlr _⟩
 | back n _ j hk hb =>
  obtain ⟨h1,h2,_⟩:=backAt_le hb
  exact h.of h1 (h2 h.hi) (h.lies.on h1) fun _ hx => nomatch hx
 | bol n _ hk hp => exact h.of (nlr _) h.hi h.lies fun _ hx => nomatch hx
 | eol n _ hk hp => exact h.of (nlr _) h.hi h.lies fun _ hx => nomatch hx
 | gend d q _ =>
  obtain ⟨⟨d1,d2⟩,q1,q2⟩:=ht
  exact h.of (m:=⟨p.i,setSp p.sp d.toNat ((q : Int),(p.i : Int))⟩) (nlr _) h.hi (Lies.set (p:=⟨q,p.sp⟩) h.lies (by show (a : Int) ≤ (q : Int);omega) q2 d1 d2) fun _ hx => nomatch hx
 | same n k _ hk => exact h.of (nlr _) h.hi h.lies fun _ hx => nomatch hx
 | on n k q _ hq hk =>
  obtain ⟨t1,t2,t3,t4,t5⟩:=ht
  replace t5 : q ≤ p.i:=t5
  have h1:=(hr.2.2 n t1.1 t1.2).2.2.1 (.inl t2)
  have:=t1.2
  refine h.of (nlr _) h.hi h.lies fun x hx => ?_
  simp only [List.mem_cons,List.not_mem_nil,or_false] at hx
  rcases hx with rfl | rfl
  · exact ⟨h1.1,by omega⟩
  · exact ⟨t1,t2,by omega,by omega,nlr _⟩
 | off n k q _ hq hk => exact h.of (nlr _) h.hi h.lies fun _ hx => nomatch hx
theorem WOK.span {x : Wy} (h : WOK ns t g a x) (k : Nat) : x.2.sp k = (-1,-1) ∨ (0 ≤ (x.2.sp k).1 ∧ (x.2.sp k).1 ≤ (x.2.sp k).2 ∧ (x.2.sp k).2 ≤ x.2.i ∧ (x.2.i : Int) ≤ t.length):=by
 rcases h.lies k with h1 | ⟨_,h1,h2,h3⟩
 · exact .inl h1
 · have:=h.hi
   exact .inr ⟨by omega,h2,h3,by omega⟩
end
inductive Fst12 (ns : List Nod) (t : List UInt8) (n : Int) (last : Int) : Nat → Int → Option (Option Spn × Int) → Prop
 | over {a : Nat} {M : Int} (hl : (a : Int) ≤ last) (hx : Told11 ns t n a M none) : Fst12 ns t n last a M none
 | hit {a : Nat} {M left : Int} {s : Spn} (hl : (a : Int) ≤ last) (hx : Told11 ns t n a M (some (some s,left))) : Fst12 ns t n last a M (some (some s,left))
 | miss {a : Nat} {M left : Int} {r : Option (Option Spn × Int)} (hl : (a : Int) ≤ last) (hx : Told11 ns t n a M (some (none,left))) (hr : Fst12 ns t n last (a + 1) left r) : Fst12 ns t n last a M r
 | ends {a : Nat} {M : Int} (hl : last < (a : Int)) : Fst12 ns t n last a M (some (none,M))
inductive All12 (ns : List Nod) (t : List UInt8) (n : Int) (last : Int) : Nat → Int → Int → Option (List Spn × Int) → Prop
 | over {a : Nat} {e M : Int} (hl : (a : Int) ≤ last) (hx : Told11 ns t n a M none) : All12 ns t n last a e M none
 | miss {a : Nat} {e M left : Int} {r : Option (List Spn × Int)} (hl : (a : Int) ≤ last) (hx : Told11 ns t n a M (some (none,left))) (hr : All12 ns t n last (a + 1) e left r) : All12 ns t n last a e M r
 | drop {a : Nat} {e M left : Int} {s : Spn} {r : Option (List Spn × Int)} (hl : (a : Int) ≤ last) (hx : Told11 ns t n a M (some (some s,left))) (he : (s 0).2 ≤ e) (hr : All12 ns t n last (a + 1) e left r) : All12 ns t n last a e M r
 | take {a : Nat} {e M left : Int} {s : Spn} {b : Nat} {r : Option (List Spn × Int)} (hl : (a : Int) ≤ last) (hx : Told11 ns t n a M (some (some s,left))) (he : e < (s 0).2) (hb : (b : Int) = max ((a : Int) + 1) (s 0).2) (hr : All12 ns t n last b (s 0).2 left r) : All12 ns t n last a e M (r.map fun x => (s :: x.1,x.2))
 | ends {a : Nat} {e M : Int} (hl : last < (a : Int)) : All12 ns t n last a e M (some ([],M))
section
variable {ns : List Nod} {t : List UInt8} {n last : Int}
theorem Fst12.det {a : Nat} {M : Int} {x y : Option (Option Spn × Int)} (h : Fst12 ns t n last a M x) (k : Fst12 ns t n last a M y) : y = x:=by
 induction h with
 | over hl hx =>
  cases k with
  | over => rfl
  | hit _ kx => have:=hx.det kx;cases this
  | miss _ kx _ => have:=hx.det kx;cases this
  | ends kl => omega
 | hit hl hx =>
  cases k with
  | over _ kx => have:=hx.det kx;cases this
  | hit _ kx => have:=hx.det kx;simp only [Option.some.injEq,Prod.mk.injEq] at this;obtain ⟨rfl,rfl⟩:=this;rfl
  | miss _ kx _ => have:=hx.det kx;simp at this
  | ends kl => omega
 | miss hl hx _ ih =>
  cases k with
  | over _ kx => have:=hx.det kx;cases this
  | hit _ kx => have:=hx.det kx;simp at this
  | miss _ kx kr => have:=hx.det kx;simp only [Option.some.injEq,Prod.mk.injEq,true_and] at this;subst this;exact ih kr
  | ends kl => omega
 | ends hl =>
  cases k with
  | over kl => omega
  | hit kl => omega
  | miss kl => omega
  | ends => rfl
theorem All12.det {a : Nat} {e M : Int} {x y : Option (List Spn × Int)} (h : All12 ns t n last a e M x) (k : All12 ns t n last a e M y) : y = x:=by
 induction h generalizing y with
 | over hl hx =>
  cases k with
  | over => rfl
  | miss _ kx _ => have:=hx.det kx;cases this
  | drop _ kx _ _ => have:=hx.det kx;cases this
  | take _ kx _ _ _ => have:=hx.det kx;cases this
  | ends kl => omega
 | miss hl hx _ ih =>
  cases k with
  | over _ kx => have:=hx.det kx;cases this
  | miss _ kx kr => have:=hx.det kx;simp only [Option.some.injEq,Prod.mk.injEq,true_and] at this;subst this;exact ih kr
  | drop _ kx _ _ => have:=hx.det kx;simp at this
  | take _ kx _ _ _ => have:=hx.det kx;simp at this
  | ends kl => omega
 | drop hl hx he _ ih =>
  cases k with
  | over _ kx => have:=hx.det kx;cases this
  | miss _ kx kr => have:=hx.det kx;simp at this
  | drop _ kx _ kr => have:=hx.det kx;simp only [Option.some.injEq,Prod.mk.injEq] at this;obtain ⟨rfl,rfl⟩:=this;exact ih kr
  | take _ kx ke _ _ => have:=hx.det kx;simp only [Option.some.injEq,Prod.mk.injEq] at this;obtain ⟨rfl,rfl⟩:=this;omega
  | ends kl => omega
 | take hl hx he hb _ ih =>
  cases k with
  | over _ kx => have:=hx.det kx;cases this
  | miss _ kx kr => have:=hx.det kx;simp at this
  | drop _ kx ke kr => have:=hx.det kx;simp only [Option.some.injEq,Prod.mk.injEq] at this;obtain ⟨rfl,rfl⟩:=this;omega
  | take _ kx ke kb kr =>
   have:=hx.det kx
   simp only [Option.some.injEq,Prod.mk.injEq] at this
   obtain ⟨rfl,rfl⟩:=this
   have hbb:=kb.trans hb.symm
   have hbn:=Int.ofNat.inj hbb
   subst hbn
   rw [ih kr]
  | ends kl => omega
 | ends hl =>
  cases k with
  | over kl => omega
  | miss kl => omega
  | drop kl => omega
  | take kl => omega
  | ends => rfl
end
inductive Pre12 (ns : List Nod) (t : List UInt8) (n : Int) (last : Int) (a0 : Nat) (e0 M0 : Int) : List Spn → Nat → Int → Int → Prop
 | refl : Pre12 ns t n last a0 e0 M0 [] a0 e0 M0
 | miss {l : List Spn} {a : Nat} {e M left : Int} (h : Pre12 ns t n last a0 e0 M0 l a e M) (hl : (a : Int) ≤ last) (hx : Told11 ns t n a M (some (none,left))) : Pre12 ns t n last a0 e0 M0 l (a + 1) e left
 | drop {l : List Spn} {a : Nat} {e M left : Int} {s : Spn} (h : Pre12 ns t n last a0 e0 M0 l a e M) (hl : (a : Int) ≤ last) (hx : Told11 ns t n a M (some (some s,left))) (he : (s 0).2 ≤ e) : Pre12 ns t n last a0 e0 M0 l (a + 1) e left
 | take {l : List Spn} {a : Nat} {e M left : Int} {s : Spn} {b : Nat} (h : Pre12 ns t n last a0 e0 M0 l a e M) (hl : (a : Int) ≤ last) (hx : Told11 ns t n a M (some (some s,left))) (he : e < (s 0).2) (hb : (b : Int) = max ((a : Int) + 1) (s 0).2) : Pre12 ns t n last a0 e0 M0 (l ++ [s]) b (s 0).2 left
section
variable {ns : List Nod} {t : List UInt8} {n last : Int} {a0 : Nat} {e0 M0 : Int}
theorem map_cons12 (l : List Spn) (s : Spn) (r : Option (List Spn × Int)) : ((r.map fun x => (s :: x.1,x.2)).map fun x => (l ++ x.1,x.2)) = r.map fun x => (l ++ [s] ++ x.1,x.2):=by cases r <;> simp
theorem Pre12.all {l : List Spn} {a : Nat} {e M : Int} (h : Pre12 ns t n last a0 e0 M0 l a e M) : ∀ r,All12 ns t n last a e M r → All12 ns t n last a0 e0 M0 (r.map fun x => (l ++ x.1,x.2)):=by
 induction h with
 | refl => intro r hr;cases r <;> simpa using hr
 | miss _ hl hx ih => intro r hr;exact ih r (.miss hl hx hr)
 | drop _ hl hx he ih => intro r hr;exact ih r (.drop hl hx he hr)
 | take _ hl hx he hb ih => intro r hr;rw [← map_cons12];exact ih _ (.take hl hx he hb hr)
theorem Pre12.first {l : List Spn} {a : Nat} {e M : Int} (h : Pre12 ns t n last a0 (-1) M0 l a e M) (hsp : ∀ (a : Nat) (M left : Int) (s : Spn),(a : Int) ≤ last → Told11 ns t n a M (some (some s,left)) → 0 ≤ (s 0).2) : l = [] → e = -1 ∧ ∀ r,Fst12 ns t n last a M r → Fst12 ns t n last a0 M0 r:=by
 induction h with
 | refl => exact fun _ => ⟨rfl,fun r hr => hr⟩
 | miss _ hl hx ih => exact fun h0 => ⟨(ih h0).1,fun r hr => (ih h0).2 r (.miss hl hx hr)⟩
 | drop _ hl hx he ih => intro h0;have h1:=(ih h0).1;have h2:=hsp _ _ _ _ hl hx;omega
 | take _ _ _ _ _ _ => intro h0;simp at h0
end
end Go.Proofs.Ytjopmieaikgbcaa
