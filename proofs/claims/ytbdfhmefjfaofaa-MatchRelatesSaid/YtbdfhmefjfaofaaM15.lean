/- Contracts and plain facts: M15. -/
import Derived.Test.YtbdfhmefjfaofaaM14
set_option linter.unusedVariables false
set_option linter.unusedSimpArgs false
set_option maxRecDepth 100000
set_option maxHeartbeats 32000000
namespace Go.Proofs.Ytbdfhmefjfaofaa
open Go.RowKit
def Eqv (ns : List Nod) (t : List UInt8) (x y : List Wy) (c : Nat) (hs : List Pt) : Prop :=
 (∀ d ks,Stk ns t y d ks → ∃ ms,(hs ++ ks).Perm ms ∧ Stk ns t x (c + d) ms) ∧ (∀ d ms,Stk ns t x d ms → ∃ e ks,d = c + e ∧ (hs ++ ks).Perm ms ∧ Stk ns t y e ks)
section
variable {ns : List Nod} {t : List UInt8}
theorem Eqv.refl (x : List Wy) : Eqv ns t x x 0 []:=⟨fun d ks h => ⟨ks,.refl _,by rw [Nat.zero_add];exact h⟩,fun d ms h => ⟨d,ms,by omega,.refl _,h⟩⟩
theorem Eqv.trans {x y z : List Wy} {c d : Nat} {hs ks : List Pt} (h : Eqv ns t x y c hs) (k : Eqv ns t y z d ks) : Eqv ns t x z (c + d) (hs ++ ks):=by
 refine ⟨fun e js hz => ?_,fun e ms hx => ?_⟩
 · obtain ⟨m1,p1,s1⟩:=k.1 e js hz
   obtain ⟨m2,p2,s2⟩:=h.1 _ _ s1
   exact ⟨m2,by rw [List.append_assoc];exact (p1.append_left hs).trans p2,by rw [Nat.add_assoc];exact s2⟩
 · obtain ⟨e1,k1,q1,p1,s1⟩:=h.2 e ms hx
   obtain ⟨e2,k2,q2,p2,s2⟩:=k.2 e1 k1 s1
   exact ⟨e2,k2,by omega,by rw [List.append_assoc];exact (p2.append_left hs).trans p1,s2⟩
theorem Eqv.perm {x y : List Wy} (h : x.Perm y) : Eqv ns t x y 0 []:=by
 refine ⟨fun d ks hy => ?_,fun d ms hx => ?_⟩
 · obtain ⟨ms,p,s⟩:=Stk.perm h.symm hy
   exact ⟨ms,p,by rw [Nat.zero_add];exact s⟩
 · obtain ⟨ks,p,s⟩:=Stk.perm h hx
   exact ⟨d,ks,by omega,p.symm,s⟩
theorem Eqv.step {tk : Tsk} {r : List Tsk} {p : Pt} {s : List Wy} : Eqv ns t ((tk :: r,p) :: s) ((nexts ns t tk p).map (ahead r) ++ s) 1 []:=by
 refine ⟨fun d ks h => ⟨ks,.refl _,by rw [Nat.add_comm];exact .step tk r p h⟩,fun d ms h => ?_⟩
 cases h with
 | @step _ _ _ _ c _ k => exact ⟨c,ms,by omega,.refl _,k⟩
theorem Eqv.hit {p : Pt} {s : List Wy} : Eqv ns t (([],p) :: s) s 0 [p]:=by
 refine ⟨fun d ks h => ⟨p :: ks,.refl _,by rw [Nat.zero_add];exact .hit p h⟩,fun d ms h => ?_⟩
 cases h with
 | @hit _ _ c ks k => exact ⟨d,ks,by omega,.refl _,k⟩
theorem Eqv.over {x y : List Wy} {c : Nat} {hs : List Pt} {M : Int} (h : Eqv ns t x y c hs) (k : Over ns t y (M - c)) : Over ns t x M:=fun d ms hx => by
 obtain ⟨e,ks,q,_,s⟩:=h.2 d ms hx
 have:=k e ks s
 omega
theorem Eqv.told {g : Int} (hr : Rt ns g) {n : Int} (h0 : 0 ≤ n) (h1 : n < ns.length) {a c : Nat} {hs : List Pt} {M : Int} (h : Eqv ns t [([.node n],pt0 a)] [] c hs) (hc : (c : Int) ≤ M) : Told11 ns t n a M (some (bestF none (hs.map (hitS a)),M - c)):=by
 obtain ⟨ms,p,s⟩:=h.1 0 [] .nil
 rw [List.append_nil] at p
 rw [← perm_best hr h0 h1 s p.symm]
 have:=Told11.fin (M:=M) s (by omega)
 simpa using this
end
def TOK (ns : List Nod) (g : Int) (a i : Nat) : Tsk → Prop
 | .node n => 0 ≤ n ∧ n < ns.length
 | .gend d q => (1 ≤ d ∧ d ≤ g) ∧ a ≤ q ∧ q ≤ i
 | .times n k q => (0 ≤ n ∧ n < ns.length) ∧ (ndA ns n).kind = 4 ∧ 0 ≤ k ∧ k ≤ (q : Int) + 1 ∧ q ≤ i
structure WOK (ns : List Nod) (t : List UInt8) (g : Int) (a : Nat) (x : Wy) : Prop where
 lo : a ≤ x.2.i
 hi : x.2.i ≤ t.length
 lies : Lies a g x.2
 toks : ∀ tk ∈ x.1,TOK ns g a x.2.i tk
section
variable {ns : List Nod} {t : List UInt8} {g : Int} {a : Nat}
theorem TOK.more {i j : Nat} {tk : Tsk} (h : TOK ns g a i tk) (hj : i ≤ j) : TOK ns g a j tk:=by
 cases tk with
 | node n => exact h
 | gend d q => exact ⟨h.1,h.2.1,Nat.le_trans h.2.2 hj⟩
 | times n k q => exact ⟨h.1,h.2.1,h.2.2.1,h.2.2.2.1,Nat.le_trans h.2.2.2.2 hj⟩
theorem wok0 (hr : Rt ns g) (h1 : 1 ≤ ns.length) (ha : a ≤ t.length) : WOK ns t g a ([.node ((ns.length : Int) - 1)],pt0 a) where
 lo:=nlr _
 hi:=ha
 lies:=pt0_lies _ _ _
 toks tk h:=by
  simp only [List.mem_singleton] at h
  subst h
  exact ⟨by omega,by omega⟩
theorem WOK.of {r ah : List Tsk} {p m : Pt} {tk : Tsk} (h : WOK ns t g a (tk :: r,p)) (hlo : p.i ≤ m.i) (hhi : m.i ≤ t.length) (hl : Lies a g m) (ht : ∀ tk ∈ ah,TOK ns g a m.i tk) : WOK ns t g a (ah ++ r,m) where
 lo:=Nat.le_trans h.lo hlo
 hi:=hhi
 lies:=hl
 toks x hx:=by
  rcases List.mem_append.1 hx with hx | hx
  · exact ht x hx
  · exact (h.toks x (List.mem_cons_of_mem _ hx)).more hlo
theorem WOK.next (hr : Rt ns g) {tk : Tsk} {r : List Tsk} {p : Pt} (h : WOK ns t g a (tk :: r,p)) : ∀ x ∈ (nexts ns t tk p).map (ahead r),WOK ns t g a x:=by
 intro x hx
 obtain ⟨⟨ah,m⟩,hm,rfl⟩:=List.mem_map.1 hx
 have hs:=(nexts_mem (hr.kind tk)).1 hm
 have ht:=h.toks tk List.mem_cons_self
 have hself : ∀ n : Int,0 ≤ n → n < ns.length → (0 ≤ (ndA ns n).kind ∧ (ndA ns n).kind ≤ 8) ∧ _:=hr.2.2
 cases hs with
 | empty n _ hk => exact h.of (nlr _) h.hi h.lies fun _ hx => nomatch hx
 | set n _ c hk hc hs =>
  refine h.of (Nat.le_succ _) ?_ (h.lies.on (Nat.le_succ _)) fun _ hx => nomatch hx
  have:=(List.getElem?_eq_some_iff.1 hc).1
  exact this
 | cat n _ hk =>
  obtain ⟨h1,h2⟩:=(hr.2.2 n ht.1 ht.2).2.1 (.inl hk)
  have:=ht.2
  refine h.of (nlr _) h.hi h.lies fun x hx => ?_
  simp only [List.mem_cons,List.not_mem_nil,or_false] at hx
  rcases hx with rfl | rfl
  · exact ⟨h1.1,by omega⟩
  · exact ⟨h2.1,by omega⟩
 | altA n _ hk =>
  obtain ⟨h1,h2⟩:=(hr.2.2 n ht.1 ht.2).2.1 (.inr hk)
  have:=ht.2
  refine h.of (nlr _) h.hi h.lies fun x hx => ?_
  simp only [List.mem_singleton] at hx
  subst hx
  exact ⟨h1.1,by omega⟩
 | altB n _ hk =>
  obtain ⟨h1,h2⟩:=(hr.2.2 n ht.1 ht.2).2.1 (.inr hk)
  have:=ht.2
  refine h.of (nlr _) h.hi h.lies fun x hx => ?_
  simp only [List.mem_singleton] at hx
  subst hx
  exact ⟨h2.1,by omega⟩
 | repOn n _ hk hh =>
  have h1:=(hr.2.2 n ht.1 ht.2).2.2.1 (.inl hk)
  have:=ht.2
  refine h.of (nlr _) h.hi h.lies fun x hx => ?_
  simp only [List.mem_cons,List.not_mem_nil,or_false] at hx
  rcases hx with rfl | rfl
  · exact ⟨h1.1,by omega⟩
  · exact ⟨ht,hk,by omega,by omega,nlr _⟩
 | repOff n _ hk hh => exact h.of (nlr _) h.hi h.lies fun _ hx => nomatch hx
 | group n _ hk =>
  have h1:=(hr.2.2 n ht.1 ht.2).2.2.1 (.inr hk)
  have hg:=(hr.2.2 n ht.1 ht.2).2.2.2.2 (.inl hk)
  have:=ht.2
  refine h.of (nlr _) h.hi h.lies fun x hx => ?_
  simp only [List.mem_cons,List.not_mem_nil,or_false] at hx
  rcases hx with rfl | rfl
  · exact ⟨h1.1,by omega⟩
  · exact ⟨hg,h.lo,nlr _⟩
 | back n _ j hk hb =>
  obtain ⟨h1,h2,_⟩:=backAt_le hb
  exact h.of h1 (h2 h.hi) (h.lies.on h1) fun _ hx => nomatch hx
 | bol n _ hk hp => exact h.of (nlr _) h.hi h.lies fun _ hx => nomatch hx
 | eol n _ hk hp => exact h.of (nlr _) h.hi h.lies fun _ hx => nomatch hx
 | gend d q _ =>
  obtain ⟨⟨d1,d2⟩,q1,q2⟩:=ht
  exact h.of (m:=⟨p.i,setSp p.sp d.toNat ((q : Int),(p.i : Int))⟩) (nlr _) h.hi (Lies.set (p:=⟨q,p.sp⟩) h.lies (by show (a : Int) ≤ (q : Int);omega) q2 d1 d2) fun _ hx => nomatch hx
 | same n k _ hk => exact h.of (nlr _) h.hi h.lies fun _ hx => nomatch hx
 | on n k q _ hq hk =>
  obtain ⟨t1,t2,t3,t4,t5⟩:=ht
  replace t5 : q ≤ p.i:=t5
  have h1:=(hr.2.2 n t1.1 t1.2).2.2.1 (.inl t2)
  have:=t1.2
  refine h.of (nlr _) h.hi h.lies fun x hx => ?_
  simp only [List.mem_cons,List.not_mem_nil,or_false] at hx
  rcases hx with rfl | rfl
  · exact ⟨h1.1,by omega⟩
  · exact ⟨t1,t2,by omega,by omega,nlr _⟩
 | off n k q _ hq hk => exact h.of (nlr _) h.hi h.lies fun _ hx => nomatch hx
theorem WOK.span {x : Wy} (h : WOK ns t g a x) (k : Nat) : x.2.sp k = (-1,-1) ∨ (0 ≤ (x.2.sp k).1 ∧ (x.2.sp k).1 ≤ (x.2.sp k).2 ∧ (x.2.sp k).2 ≤ x.2.i ∧ (x.2.i : Int) ≤ t.length):=by
 rcases h.lies k with h1 | ⟨_,h1,h2,h3⟩
 · exact .inl h1
 · have:=h.hi
   exact .inr ⟨by omega,h2,h3,by omega⟩
end
def spnV (x : Int × Int) : Value:=.agg #[.int .i64 x.1,.int .i64 x.2]
def hitL (s : Spn) : List Value:=[.int .i64 (s 0).1,.int .i64 (s 0).2,.int .i64 (s 1).1,.int .i64 (s 1).2,.int .i64 (s 2).1,.int .i64 (s 2).2,.int .i64 (s 3).1,.int .i64 (s 3).2,.int .i64 (s 4).1,.int .i64 (s 4).2,.int .i64 (s 5).1,.int .i64 (s 5).2,.int .i64 (s 6).1,.int .i64 (s 6).2,.int .i64 (s 7).1,.int .i64 (s 7).2,.int .i64 (s 8).1,.int .i64 (s 8).2,.int .i64 (s 9).1,.int .i64 (s 9).2]
def hitC (s : Spn) : Array Value:=(hitL s).toArray
def hitV (s : Spn) : Value:=.agg (hitC s)
def sp00 : Spn:=fun _ => (0,0)
def spNo : Spn:=fun _ => (-1,-1)
theorem hitL_len (s : Spn) : (hitL s).length = 20:=rfl
theorem hitC_size (s : Spn) : (hitC s).size = 20:=rfl
theorem hit_one (s : Spn) : ∀ v ∈ hitL s,v.oneCell' = true:=by simp [hitL,Value.oneCell']
theorem hitL_from (s : Spn) {g : Nat} (h : g < 10) : (hitL s)[2 * g]? = some (.int .i64 (s g).1):=by
 have : g = 0 ∨ g = 1 ∨ g = 2 ∨ g = 3 ∨ g = 4 ∨ g = 5 ∨ g = 6 ∨ g = 7 ∨ g = 8 ∨ g = 9:=by omega
 rcases this with rfl | rfl | rfl | rfl | rfl | rfl | rfl | rfl | rfl | rfl <;> rfl
theorem hitL_to (s : Spn) {g : Nat} (h : g < 10) : (hitL s)[2 * g + 1]? = some (.int .i64 (s g).2):=by
 have : g = 0 ∨ g = 1 ∨ g = 2 ∨ g = 3 ∨ g = 4 ∨ g = 5 ∨ g = 6 ∨ g = 7 ∨ g = 8 ∨ g = 9:=by omega
 rcases this with rfl | rfl | rfl | rfl | rfl | rfl | rfl | rfl | rfl | rfl <;> rfl
theorem hitL_set (s : Spn) {g : Nat} (h : g < 10) (x : Int × Int) : hitL (setSp s g x) = ((hitL s).set (2 * g) (.int .i64 x.1)).set (2 * g + 1) (.int .i64 x.2):=by
 have : g = 0 ∨ g = 1 ∨ g = 2 ∨ g = 3 ∨ g = 4 ∨ g = 5 ∨ g = 6 ∨ g = 7 ∨ g = 8 ∨ g = 9:=by omega
 rcases this with rfl | rfl | rfl | rfl | rfl | rfl | rfl | rfl | rfl | rfl <;> rfl
def ansS : Option Spn → Spn
 | none => sp00
 | some m => m
def InS (s : Spn) : Prop:=∀ g,g < 10 → (-(2 : Int) ^ 63 ≤ (s g).1 ∧ (s g).1 < 2 ^ 63) ∧ -(2 : Int) ^ 63 ≤ (s g).2 ∧ (s g).2 < 2 ^ 63
theorem InS.set {s : Spn} (h : InS s) {g : Nat} {x : Int × Int} (hx : (-(2 : Int) ^ 63 ≤ x.1 ∧ x.1 < 2 ^ 63) ∧ -(2 : Int) ^ 63 ≤ x.2 ∧ x.2 < 2 ^ 63) : InS (setSp s g x):=fun k hk => by
 unfold setSp
 by_cases e : k = g
 · rw [if_pos e];exact hx
 · rw [if_neg e];exact h k hk
def Src (w : World) (A : Option Addr) (news : List Value) : Prop:=∀ j u,news[j]? = some u → ∃ ad,A = some ad ∧ w.cell? (ad.add j) = some u
theorem Src.nil {w : World} {news : List Value} (h : Src w none news) : news = []:=by
 cases news with
 | nil => rfl
 | cons x r => obtain ⟨ad,h,_⟩:=h 0 x rfl;cases h
theorem Vals.src {w : World} {B : Nat} {A : Option Addr} {xs : List Value} (h : Vals w B A xs) : Src w A xs:=fun j u hj => by
 obtain ⟨hlt,rfl⟩:=List.getElem?_eq_some_iff.1 hj
 obtain ⟨ad,h1,_,h2⟩:=h j hlt
 exact ⟨ad,h1,h2⟩
section
variable {P : Program} {w : World}
theorem run_append_none (base : Nat) (t ty e : TypeId) (i : TypeInfo) (size : Nat) (ht : P.underlying t = some (.slice e)) (hi : P.info? e = some i)
    (v : Value) (n : Nat) (xs : List Value) (hown : w.ownsRow base e size v n xs) (c : Nat) : (Builtin.append_ #[t,t] ty #[v,.slice none 0 c]).run P w = .ok v w:=by
 obtain ⟨_,⟨rfl,rfl⟩ | ⟨g,cap,cur,rfl,_,_,hnc,_⟩⟩:=hown
 · simp [Builtin.append_,run_underlying ht,sizeOf,typeInfo,hi,Builtin.lenOf,Builtin.firstCells]
 · simp [Builtin.append_,run_underlying ht,sizeOf,typeInfo,hi,Builtin.lenOf,Builtin.firstCells,hnc,storeCells]
theorem run_append_at (base : Nat) (t ty e : TypeId) (i : TypeInfo) (z : Value) (size bytes : Nat) (ht : P.underlying t = some (.slice e)) (hi : P.info? e = some i) (hz : i.zero = some z)
    (hi1 : i.size = size) (hib : i.bytes = bytes) (hz1 : z.cells.size = size) (hsz : 0 < size) (v : Value) (n : Nat) (xs : List Value) (hown : w.ownsRow base e size v n xs)
    (A : Option Addr) (m c : Nat) (news : List Value) (hl : news.length = m * size) (hv : Src w A news) (h1 : ∀ u ∈ news,u.oneCell' = true)
    (hlen : n + m ≤ maxLen) (hbytes : (n + m) * bytes ≤ 140737488355328) (hbase : base ≤ w.heap.size) :
    ∃ v' w',(Builtin.append_ #[t,t] ty #[v,.slice A m c]).run P w = .ok v' w' ∧ w'.ownsRow base e size v' (n + m) (xs ++ news) ∧ w.grownBy w' v.ownBlock ∧
     (∀ k,v'.ownBlock = some k → v.ownBlock = some k ∨ w.heap.size ≤ k):=by
 cases A with
 | none =>
  obtain rfl:=hv.nil
  have hm : m = 0:=by
   rcases Nat.eq_zero_or_pos m with h | h
   · exact h
   · have:=Nat.mul_pos h hsz;rw [← hl] at this;simp at this
  subst hm
  exact ⟨v,w,run_append_none base t ty e i size ht hi v n xs hown c,by simpa using hown,World.grownBy.refl w _,fun _ h => .inl h⟩
 | some a =>
  have hnews : ∀ j u,news[j]? = some u → w.cell? (a.add j) = some u:=fun j u hj => by
   obtain ⟨ad,h,hc⟩:=hv j u hj
   injection h with h
   subst h
   exact hc
  obtain ⟨v',w',hrun,h2,h3,h4⟩:=run_append_own (P:=P) w base t ty e i z size bytes ht hi hz hi1 hib hz1 hsz v n xs hown a m c news hl hnews h1 hlen hbytes hbase
  refine ⟨v',w',hrun,h2,h3,fun k hk => ?_⟩
  subst hi1
  subst hib
  have h63 : n + m ≤ 9223372036854775807:=by simp only [maxLen] at hlen;omega
  rcases hown.2 with ⟨rfl,rfl⟩ | ⟨g,cap,cur,rfl,hbg,hg,hnc,hcm,hcs,htake⟩
  · by_cases hm : m = 0
    · rw [h4.2 ⟨rfl,hm⟩] at hk;cases hk
    · have hr:=Go.run_append_nil (P:=P) w t ty e i z ht hi hz a m c news hl hnews (by omega) (by omega) (by have hb:=hbytes;simp only [Nat.zero_add] at hb;omega)
      rw [hr] at hrun
      injection hrun with hrun _
      rw [← hrun] at hk
      injection hk with hk
      exact .inr (Nat.le_of_eq hk)
  · by_cases hroom : n + m ≤ cap
    · have hfit : n * i.size + news.length ≤ cur.size:=by rw [hl,hcs,← Nat.add_mul];exact Nat.mul_le_mul_right _ hroom
      have hr:=run_append_room (P:=P) w t ty e i ht hi g n cap cur hg a m c news hl hnews h1 hroom hfit
      rw [hr] at hrun
      injection hrun with hrun _
      rw [← hrun] at hk
      exact .inl hk
    · have hr:=run_append_grow (P:=P) w t ty e i z ht hi hz ⟨g,0,none⟩ n cap xs hown.1 (hown.cells (g:=g) rfl) a m c news hl hnews (by omega) (by omega) (growslice_fits (by omega) hbytes)
      rw [hr] at hrun
      injection hrun with hrun _
      rw [← hrun] at hk
      injection hk with hk
      exact .inr (Nat.le_of_eq hk)
end
end Go.Proofs.Ytbdfhmefjfaofaa
