/- Contracts and plain facts: M11. -/
import Derived.Test.YtbdfhmefjfaofaaM09
import Derived.Test.YtbdfhmefjfaofaaM10
set_option linter.unusedVariables false
set_option linter.unusedSimpArgs false
set_option maxRecDepth 100000
set_option maxHeartbeats 32000000
namespace Go.Proofs.Ytbdfhmefjfaofaa
open Go.RowKit
def Rt (ns : List Nod) (g : Int) : Prop:=0 ≤ g ∧ g ≤ 9 ∧ ∀ n : Int,0 ≤ n → n < ns.length →
 (0 ≤ (ndA ns n).kind ∧ (ndA ns n).kind ≤ 8) ∧ ((ndA ns n).kind = 2 ∨ (ndA ns n).kind = 3 → (0 ≤ (ndA ns n).a ∧ (ndA ns n).a < n) ∧ 0 ≤ (ndA ns n).b ∧ (ndA ns n).b < n) ∧
 ((ndA ns n).kind = 4 ∨ (ndA ns n).kind = 5 → 0 ≤ (ndA ns n).a ∧ (ndA ns n).a < n) ∧ ((ndA ns n).kind = 4 → (0 ≤ (ndA ns n).lo ∧ (ndA ns n).lo ≤ 255) ∧ ((ndA ns n).hi = -1 ∨ ((ndA ns n).lo ≤ (ndA ns n).hi ∧ (ndA ns n).hi ≤ 255))) ∧
 ((ndA ns n).kind = 5 ∨ (ndA ns n).kind = 6 → 1 ≤ (ndA ns n).grp ∧ (ndA ns n).grp ≤ g)
theorem ndA_at {ns : List Nod} {n : Int} (h : n.toNat < ns.length) : ndA ns n = ns[n.toNat]'h:=by
 unfold ndA
 rw [List.getD_eq_getElem?_getD,List.getElem?_eq_getElem h]
 rfl
theorem ndA_out {ns : List Nod} {n : Int} (h : ¬ n.toNat < ns.length) : ndA ns n = ⟨0,0,0,0,0,0,zset⟩:=by
 unfold ndA
 rw [List.getD_eq_getElem?_getD,List.getElem?_eq_none (by omega)]
 rfl
theorem right_rt {ns : List Nod} {g : Int} (h : rightN ns g = true) : Rt ns g:=by
 have hh:=h
 unfold rightN at hh
 simp only [Bool.and_eq_true,decide_eq_true_eq] at hh
 have hf:=hh.2.1
 have h3:=hh.1.1.2
 have h4:=hh.1.2
 refine ⟨h3,h4,fun n n0 n1 => ?_⟩
 have hn : n.toNat < ns.length:=by omega
 have f:=fits_all (hf n.toNat hn)
 rw [ndA_at hn]
 have hc : ((n.toNat : Nat) : Int) = n:=by omega
 rw [hc] at f
 obtain ⟨f1,f2,f3,f4,f5,_⟩:=f
 refine ⟨⟨f4,f5⟩,fun hk => ?_,fun hk => ?_,fun hk => ?_,f3⟩
 · have : partsN (ns[n.toNat]'hn) = [(ns[n.toNat]'hn).a,(ns[n.toNat]'hn).b]:=by rcases hk with hk | hk;exact partsN_2 hk;exact partsN_3 hk
   rw [this] at f1
   exact ⟨f1 _ (by simp),f1 _ (by simp)⟩
 · have : partsN (ns[n.toNat]'hn) = [(ns[n.toNat]'hn).a]:=by rcases hk with hk | hk;exact partsN_4 hk;exact partsN_5 hk
   rw [this] at f1
   exact f1 _ (by simp)
 · have:=f2 hk
   unfold timesN at this
   simp only [Bool.and_eq_true,Bool.or_eq_true,decide_eq_true_eq] at this
   obtain ⟨t1,t2,t3⟩:=this
   exact ⟨⟨t1,t2⟩,t3⟩
theorem Rt.kind {ns : List Nod} {g : Int} (h : Rt ns g) (tk : Tsk) : KindOK ns tk:=by
 cases tk with
 | node n =>
  show _ ∨ _
  by_cases hn : n.toNat < ns.length
  · have:=(h.2.2 (n.toNat : Int) (by omega) (by omega)).1
    have e : ndA ns (n.toNat : Int) = ndA ns n:=by unfold ndA;rfl
    rw [e] at this
    omega
  · rw [ndA_out hn];exact .inl rfl
 | gend => exact trivial
 | times => exact trivial
section
variable {ns : List Nod} {t : List UInt8}
theorem backAt_le {s : Int × Int} {i j : Nat} (h : backAt t s i = some j) : i ≤ j ∧ (i ≤ t.length → j ≤ t.length) ∧ 0 ≤ s.1:=by
 unfold backAt at h
 split at h
 · cases h
 · rename_i hn
   split at h
   · obtain rfl:=Option.some.inj h
     refine ⟨by omega,by omega,by omega⟩
   · cases h
theorem Rel.le {j : Job} {p q : Pt} (h : Rel ns t j p q) : p.i ≤ q.i ∧ (p.i ≤ t.length → q.i ≤ t.length):=by
 induction h with
 | empty => exact ⟨nlr _,fun h => h⟩
 | set n p c h hc hs =>
  refine ⟨by show p.i ≤ p.i + 1;omega,fun _ => ?_⟩
  obtain ⟨h1,_⟩:=List.getElem?_eq_some_iff.1 hc
  show p.i + 1 ≤ _;omega
 | cat n h _ _ i1 i2 => exact ⟨Nat.le_trans i1.1 i2.1,fun h => i2.2 (i1.2 h)⟩
 | altA n h _ i1 => exact i1
 | altB n h _ i1 => exact i1
 | rep n h _ i1 => exact i1
 | group n h _ i1 => exact i1
 | back n p j h hb => obtain ⟨h1,h2,_⟩:=backAt_le hb;exact ⟨h1,h2⟩
 | bol n p h hp => exact ⟨nlr _,fun h => h⟩
 | eol n p h hp => exact ⟨nlr _,fun h => h⟩
 | stop n k p hk => exact ⟨nlr _,fun h => h⟩
 | same n k hk _ he hl i1 => exact i1
 | on n k hk _ he _ i1 i2 => exact ⟨Nat.le_trans i1.1 i2.1,fun h => i2.2 (i1.2 h)⟩
def Lies (at_ : Int) (g : Int) (p : Pt) : Prop:=∀ k,p.sp k = (-1,-1) ∨ ((1 ≤ k ∧ (k : Int) ≤ g) ∧ at_ ≤ (p.sp k).1 ∧ (p.sp k).1 ≤ (p.sp k).2 ∧ (p.sp k).2 ≤ p.i)
theorem Lies.on {a g : Int} {p : Pt} (h : Lies a g p) {j : Nat} (hj : p.i ≤ j) : Lies a g ⟨j,p.sp⟩:=fun k => by
 rcases h k with h | ⟨h1,h2,h3,h4⟩
 · exact .inl h
 · exact .inr ⟨h1,h2,h3,by show (p.sp k).2 ≤ (j : Int);omega⟩
theorem Lies.set {a g : Int} {p q : Pt} (h : Lies a g q) (ha : a ≤ p.i) (hpq : p.i ≤ q.i) {d : Int} (h1 : 1 ≤ d) (h2 : d ≤ g) : Lies a g ⟨q.i,setSp q.sp d.toNat ((p.i : Int),(q.i : Int))⟩:=fun k => by
 show setSp _ _ _ k = _ ∨ _
 by_cases e : k = d.toNat
 · right
   subst e
   show _ ∧ _ ≤ (setSp _ _ _ _).1 ∧ (setSp _ _ _ _).1 ≤ (setSp _ _ _ _).2 ∧ (setSp _ _ _ _).2 ≤ (q.i : Int)
   unfold setSp
   rw [if_pos rfl]
   refine ⟨⟨by omega,by omega⟩,ha,?_,Int.le_refl _⟩
   show (p.i : Int) ≤ q.i
   omega
 · show setSp _ _ _ k = _ ∨ (_ ∧ _ ≤ (setSp _ _ _ k).1 ∧ (setSp _ _ _ k).1 ≤ (setSp _ _ _ k).2 ∧ (setSp _ _ _ k).2 ≤ (q.i : Int))
   unfold setSp
   rw [if_neg e]
   exact h k
def jobOK (ns : List Nod) : Job → Prop
 | .node n => 0 ≤ n ∧ n < ns.length
 | .more n _ => 0 ≤ n ∧ n < ns.length ∧ (ndA ns n).kind = 4
theorem Rel.lies {g : Int} (hr : Rt ns g) {j : Job} {p q : Pt} (h : Rel ns t j p q) : ∀ {a : Int},jobOK ns j → a ≤ p.i → Lies a g p → Lies a g q:=by
 induction h with
 | empty => intro a _ _ hl;exact hl
 | set n p c h hc hs => intro a _ _ hl;exact hl.on (Nat.le_succ _)
 | @cat n p m q h k1 _ i1 i2 =>
  intro a ho ha hl
  obtain ⟨h1,h2⟩:=(hr.2.2 n ho.1 ho.2).2.1 (.inl h)
  have:=k1.le.1
  have:=ho.2
  exact i2 ⟨h2.1,by omega⟩ (by omega) (i1 ⟨h1.1,by omega⟩ ha hl)
 | altA n h k1 i1 =>
  intro a ho ha hl
  obtain ⟨h1,h2⟩:=(hr.2.2 n ho.1 ho.2).2.1 (.inr h)
  have:=ho.2
  exact i1 ⟨h1.1,by omega⟩ ha hl
 | altB n h k1 i1 =>
  intro a ho ha hl
  obtain ⟨h1,h2⟩:=(hr.2.2 n ho.1 ho.2).2.1 (.inr h)
  have:=ho.2
  exact i1 ⟨h2.1,by omega⟩ ha hl
 | rep n h k1 i1 => intro a ho ha hl;exact i1 ⟨ho.1,ho.2,h⟩ ha hl
 | @group n p q h k1 i1 =>
  intro a ho ha hl
  have h1:=(hr.2.2 n ho.1 ho.2).2.2.1 (.inr h)
  obtain ⟨g1,g2⟩:=(hr.2.2 n ho.1 ho.2).2.2.2.2 (.inl h)
  have:=ho.2
  exact (i1 ⟨h1.1,by omega⟩ ha hl).set ha k1.le.1 g1 g2
 | back n p j h hb => intro a _ _ hl;exact hl.on (backAt_le hb).1
 | bol n p h hp => intro a _ _ hl;exact hl
 | eol n p h hp => intro a _ _ hl;exact hl
 | stop n k p hk => intro a _ _ hl;exact hl
 | same n k hk k1 he hl i1 =>
  intro a ho ha hl
  have h1:=(hr.2.2 n ho.1 ho.2.1).2.2.1 (.inl ho.2.2)
  have:=ho.2.1
  exact i1 ⟨h1.1,by omega⟩ ha hl
 | on n k hk k1 he _ i1 i2 =>
  intro a ho ha hl
  have h1:=(hr.2.2 n ho.1 ho.2.1).2.2.1 (.inl ho.2.2)
  have:=ho.2.1
  have:=k1.le.1
  exact i2 ho (by omega) (i1 ⟨h1.1,by omega⟩ ha hl)
theorem Lies.ten {a g : Int} {p : Pt} (h : Lies a g p) (hg : g ≤ 9) : ∀ k,10 ≤ k → p.sp k = (-1,-1):=fun k hk => by
 rcases h k with h | ⟨h1,_⟩
 · exact h
 · omega
theorem Lies.zero {a g : Int} {p : Pt} (h : Lies a g p) : p.sp 0 = (-1,-1):=by
 rcases h 0 with h | ⟨h1,_⟩
 · exact h
 · omega
theorem Lies.good {a g : Int} {p : Pt} (h : Lies a g p) (ha : 0 ≤ a) : ∀ k,GoodS (p.sp k):=fun k hk => by
 rcases h k with h | ⟨_,h1,_⟩
 · exact h
 · omega
inductive It (ns : List Nod) (t : List UInt8) (n : Int) (p : Pt) : Nat → Pt → Prop
 | zero : It ns t n p 0 p
 | succ {k : Nat} {m q : Pt} (h : It ns t n p k m) (hk : (ndA ns n).hi = -1 ∨ (k : Int) < (ndA ns n).hi) (h1 : Rel ns t (.node (ndA ns n).a) m q) (he : q.i ≠ m.i) : It ns t n p (k + 1) q
theorem It.le {n : Int} {p q : Pt} {k : Nat} (h : It ns t n p k q) : p.i + k ≤ q.i ∧ (p.i ≤ t.length → q.i ≤ t.length):=by
 induction h with
 | zero => exact ⟨nlr _,fun h => h⟩
 | succ _ _ h1 he ih => have:=h1.le;exact ⟨by omega,fun h => this.2 (ih.2 h)⟩
theorem It.lies {g : Int} (hr : Rt ns g) {n : Int} (ho : 0 ≤ n ∧ n < ns.length) (hk : (ndA ns n).kind = 4) {p q : Pt} {k : Nat} (h : It ns t n p k q) {a : Int} (ha : a ≤ p.i) (hl : Lies a g p) : Lies a g q:=by
 induction h with
 | zero => exact hl
 | succ h _ h1 he ih =>
  have:=h.le
  have h2:=(hr.2.2 n ho.1 ho.2).2.2.1 (.inl hk)
  have:=ho.2
  exact h1.lies hr ⟨h2.1,by omega⟩ (by omega) ih
theorem It.few {n : Int} {p q : Pt} {k : Nat} (h : It ns t n p k q) : (ndA ns n).hi = -1 ∨ (k : Int) ≤ max 0 (ndA ns n).hi:=by
 cases h with
 | zero => right;omega
 | succ h hk => rcases hk with hk | hk;exact .inl hk;right;omega
theorem It.rel {n : Int} {p q r : Pt} {k : Nat} (h : It ns t n p k q) : Rel ns t (.more n k) q r → Rel ns t (.more n 0) p r:=by
 induction h with
 | zero => intro h;exact h
 | succ h hk h1 he ih => intro h2;exact ih (.on n _ hk h1 he (by rw [Int.natCast_add] at h2;exact h2))
theorem rel_it {j : Job} {m q : Pt} (h : Rel ns t j m q) : ∀ n k p,j = .more n (k : Nat) → It ns t n p k m → ∃ k m,It ns t n p k m ∧ (((ndA ns n).lo ≤ (k : Int) ∧ q = m) ∨ (((ndA ns n).hi = -1 ∨ (k : Int) < (ndA ns n).hi) ∧ Rel ns t (.node (ndA ns n).a) m q ∧ q.i = m.i ∧ (k : Int) < (ndA ns n).lo)):=by
 induction h with
 | stop n k p hk => intro n' k' p' e hi;cases e;exact ⟨k',p,hi,.inl ⟨hk,rfl⟩⟩
 | same n k hk h1 he hl _ => intro n' k' p' e hi;cases e;exact ⟨k',_,hi,.inr ⟨hk,h1,he,hl⟩⟩
 | on n k hk h1 he h2 _ ih =>
  intro n' k' p' e hi
  cases e
  exact ih n (k' + 1) p' (by rw [Int.natCast_add];rfl) (.succ hi hk h1 he)
 | _ => intro n' k' p' e;cases e
theorem more_iff {n : Int} {p q : Pt} : Rel ns t (.more n 0) p q ↔ ∃ k m,It ns t n p k m ∧ (((ndA ns n).lo ≤ (k : Int) ∧ q = m) ∨ (((ndA ns n).hi = -1 ∨ (k : Int) < (ndA ns n).hi) ∧ Rel ns t (.node (ndA ns n).a) m q ∧ q.i = m.i ∧ (k : Int) < (ndA ns n).lo)):=by
 constructor
 · intro h
   exact rel_it h n 0 p rfl .zero
 · rintro ⟨k,m,hi,(⟨h1,rfl⟩ | ⟨h1,h2,h3,h4⟩)⟩
   · exact hi.rel (.stop n k q h1)
   · exact hi.rel (.same n k h1 h2 h3 h4)
end
def PutP (l : List Pt) (p : Pt) (k : List Pt) : Prop:=(p ∈ l ∧ k = l) ∨ (p ∉ l ∧ k = l ++ [p])
theorem PutP.mem {l k : List Pt} {p : Pt} (h : PutP l p k) (q : Pt) : q ∈ k ↔ q ∈ l ∨ q = p:=by
 rcases h with ⟨h1,rfl⟩ | ⟨_,rfl⟩
 · constructor
   · exact .inl
   · rintro (h | rfl)
     · exact h
     · exact h1
 · simp
theorem PutP.nodup {l k : List Pt} {p : Pt} (h : PutP l p k) (hl : l.Nodup) : k.Nodup:=by
 rcases h with ⟨_,rfl⟩ | ⟨h1,rfl⟩
 · exact hl
 · rw [List.nodup_append]
   refine ⟨hl,by simp,fun a ha b hb => ?_⟩
   simp only [List.mem_singleton] at hb
   subst hb
   intro e
   subst e
   exact h1 ha
theorem PutP.len {l k : List Pt} {p : Pt} (h : PutP l p k) : l.length ≤ k.length ∧ k.length ≤ l.length + 1:=by
 rcases h with ⟨_,rfl⟩ | ⟨_,rfl⟩
 · omega
 · simp
theorem nodup_few {α : Type} : ∀ {l k : List α},l.Nodup → (∀ x ∈ l,x ∈ k) → l.length ≤ k.length
 | [],k,_,_ => Nat.zero_le _
 | x :: l,k,hn,h => by
  rw [List.nodup_cons] at hn
  obtain ⟨a,b,rfl⟩:=List.append_of_mem (h x List.mem_cons_self)
  have:=nodup_few (k:=a ++ b) hn.2 fun y hy => by
   have h1:=h y (List.mem_cons_of_mem _ hy)
   simp only [List.mem_append,List.mem_cons] at h1 ⊢
   rcases h1 with h1 | rfl | h1
   · exact .inl h1
   · exact absurd hy hn.1
   · exact .inr h1
  simp only [lla,List.length_cons] at this ⊢
  omega
inductive Sees (ns : List Nod) (t : List UInt8) : Wy → Wy → Prop
 | here (w : Wy) : Sees ns t w w
 | next {tk : Tsk} {r : List Tsk} {p : Pt} {v w : Wy} (h : v ∈ (nexts ns t tk p).map (ahead r)) (k : Sees ns t v w) : Sees ns t (tk :: r,p) w
section
variable {ns : List Nod} {t : List UInt8}
theorem Sees.trans {u v w : Wy} (h : Sees ns t u v) (k : Sees ns t v w) : Sees ns t u w:=by
 induction h with
 | here => exact k
 | next h _ ih => exact .next h (ih k)
theorem Stk.has {s : List Wy} {c : Nat} {hs : List Pt} (h : Stk ns t s c hs) {w : Wy} (hw : w ∈ s) : ∃ c' ks,c' ≤ c ∧ Stk ns t [w] c' ks ∧ ∀ q ∈ ks,q ∈ hs:=by
 obtain ⟨a,b,rfl⟩:=List.append_of_mem hw
 obtain ⟨c1,c2,h1,h2,rfl,rfl,k1,k2⟩:=h.split a (w :: b) rfl
 obtain ⟨c3,c4,h3,h4,rfl,rfl,k3,k4⟩:=k2.one
 exact ⟨c3,h3,by omega,k3,fun q hq => by simp [hq]⟩
theorem Stk.seen {s : List Wy} {c : Nat} {hs : List Pt} (h : Stk ns t s c hs) : ∃ v : List Wy,v.length = c + hs.length ∧ ∀ x ∈ s,∀ w,Sees ns t x w → w ∈ v ∧ ∃ c' ks,c' ≤ c ∧ Stk ns t [w] c' ks:=by
 induction h with
 | nil => exact ⟨[],rfl,fun x hx => by cases hx⟩
 | @hit p s c hs k ih =>
  obtain ⟨v,e,hv⟩:=ih
  refine ⟨([],p) :: v,by simp [e];omega,fun x hx w hw => ?_⟩
  rcases List.mem_cons.1 hx with rfl | hx
  · cases hw with
    | here => exact ⟨List.mem_cons_self,0,[p],Nat.zero_le _,.hit p .nil⟩
  · obtain ⟨h1,h2⟩:=hv x hx w hw
    exact ⟨List.mem_cons_of_mem _ h1,h2⟩
 | @step tk r p s c hs k ih =>
  obtain ⟨v,e,hv⟩:=ih
  refine ⟨(tk :: r,p) :: v,by simp [e];omega,fun x hx w hw => ?_⟩
  rcases List.mem_cons.1 hx with rfl | hx
  · cases hw with
    | here =>
     obtain ⟨c',ks,h1,h2,_⟩:=(Stk.step tk r p k).has (w:=(tk :: r,p)) List.mem_cons_self
     exact ⟨List.mem_cons_self,c',ks,h1,h2⟩
    | next h1 h2 =>
     obtain ⟨h3,c',ks,h4,h5⟩:=hv _ (List.mem_append_left _ h1) w h2
     exact ⟨List.mem_cons_of_mem _ h3,c',ks,by omega,h5⟩
  · obtain ⟨h3,c',ks,h4,h5⟩:=hv x (List.mem_append_right _ hx) w hw
    exact ⟨List.mem_cons_of_mem _ h3,c',ks,by omega,h5⟩
theorem Way.sees (hK : ∀ tk,KindOK ns tk) {l : List Tsk} {p q : Pt} (h : Way ns t l p q) (r : List Tsk) : Sees ns t (l ++ r,p) (r,q):=by
 induction h with
 | done p => exact .here _
 | @step tk r0 ah p m q h1 _ ih =>
  refine .next (v:=(ah ++ (r0 ++ r),m)) (List.mem_map.2 ⟨(ah,m),(nexts_mem (hK tk)).2 h1,rfl⟩) ?_
  rw [← List.append_assoc];exact ih
theorem It.sees (hK : ∀ tk,KindOK ns tk) {n : Int} (hk4 : (ndA ns n).kind = 4) {p q : Pt} {k : Nat} (h : It ns t n p k q) : (k = 0 ∧ q = p) ∨ ∃ P,P ≠ q.i ∧ Sees ns t ([.node n],p) ([.times n k P],q):=by
 induction h with
 | zero => exact .inl ⟨rfl,rfl⟩
 | @succ k m q h hk h1 he ih =>
  right
  refine ⟨m.i,fun e => he e.symm,?_⟩
  have go : Sees ns t ([.node (ndA ns n).a,.times n ((k : Int) + 1) m.i],m) ([.times n ((k + 1 : Nat) : Int) m.i],q):=by
   rw [Int.natCast_add]
   exact (h1.way : Way ns t [.node (ndA ns n).a] m q).sees hK [_]
  rcases ih with ⟨rfl,rfl⟩ | ⟨P,hP,hs⟩
  · exact .next (v:=([.node (ndA ns n).a,.times n 1 m.i],m)) (List.mem_map.2 ⟨(_,m),(nexts_mem (hK _)).2 (.repOn n m hk4 (by simpa using hk)),rfl⟩) (by simpa using go)
  · exact hs.trans (.next (v:=([.node (ndA ns n).a,.times n ((k : Int) + 1) m.i],m)) (List.mem_map.2 ⟨(_,m),(nexts_mem (hK _)).2 (.on n k P m (fun e => hP e.symm) hk),rfl⟩) go)
theorem It.cost (hK : ∀ tk,KindOK ns tk) {n : Int} (hk4 : (ndA ns n).kind = 4) {p : Pt} {c : Nat} {hs : List Pt} (h : Stk ns t [([.node n],p)] c hs) (k : Nat) : (∀ l : List Pt,l.Nodup → (∀ q ∈ l,It ns t n p k q) → l.length ≤ 2 * c) ∧ (∀ q,It ns t n p k q → (ndA ns n).hi = -1 ∨ (k : Int) < (ndA ns n).hi → ∃ c' ks,c' ≤ c ∧ Stk ns t [([.node (ndA ns n).a],q)] c' ks):=by
 have hc : 1 ≤ c:=by cases h;omega
 have hl : hs.length ≤ c:=by have:=h.few;simpa [dones] using this
 obtain ⟨v,e,hv⟩:=h.seen
 refine ⟨fun l hn hq => ?_,fun q hq hh => ?_⟩
 · cases k with
   | zero =>
    have:=nodup_few (k:=[p]) hn fun x hx => by have:=hq x hx;cases this;simp
    simp at this;omega
   | succ k =>
    have:=nodup_few (k:=v.map (·.2)) hn fun x hx => by
     rcases (hq x hx).sees hK hk4 with ⟨h0,_⟩ | ⟨P,_,hs⟩
     · cases h0
     · exact List.mem_map.2 ⟨_,(hv _ List.mem_cons_self _ hs).1,rfl⟩
    simp only [List.length_map] at this
    omega
 · have hs : ∃ r,Sees ns t ([.node n],p) ([.node (ndA ns n).a] ++ r,q):=by
     rcases hq.sees hK hk4 with ⟨rfl,rfl⟩ | ⟨P,hP,hs⟩
     · exact ⟨[.times n 1 q.i],.next (List.mem_map.2 ⟨([.node (ndA ns n).a,.times n 1 q.i],q),(nexts_mem (hK _)).2 (.repOn n q hk4 (by simpa using hh)),rfl⟩) (.here _)⟩
     · exact ⟨[.times n ((k : Int) + 1) q.i],hs.trans (.next (List.mem_map.2 ⟨([.node (ndA ns n).a,.times n ((k : Int) + 1) q.i],q),(nexts_mem (hK _)).2 (.on n k P q (fun e => hP e.symm) hh),rfl⟩) (.here _))⟩
   obtain ⟨r,hs⟩:=hs
   obtain ⟨_,c',ks,h1,h2⟩:=hv _ List.mem_cons_self _ hs
   obtain ⟨c1,c2,h1',e1,k1,_⟩:=h2.front [([.node (ndA ns n).a],q)] r rfl
   exact ⟨c1,h1',by omega,k1⟩
end
end Go.Proofs.Ytbdfhmefjfaofaa
