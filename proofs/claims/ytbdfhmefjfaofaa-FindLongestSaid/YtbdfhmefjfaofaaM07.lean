/- Contracts and plain facts: M07. -/
import Derived.Test.YtbdfhmefjfaofaaM06
set_option linter.unusedVariables false
set_option linter.unusedSimpArgs false
set_option maxRecDepth 100000
set_option maxHeartbeats 32000000
namespace Go.Proofs.Ytbdfhmefjfaofaa
open Go.RowKit
theorem nodV_z (k a b lo hi g : Int) : nodV ⟨k,a,b,lo,hi,g,zset⟩ = .agg #[.int .i64 k,.int .i64 a,.int .i64 b,.int .i64 lo,.int .i64 hi,.int .i64 g,.int .u64 0,.int .u64 0,.int .u64 0,.int .u64 0]:=by unfold nodV;rw [nodC_z]
abbrev Spn:=Nat → Int × Int
structure Pt where
 i : Nat
 sp : Spn
def setSp (sp : Spn) (g : Nat) (x : Int × Int) : Spn:=fun k => if k = g then x else sp k
def backAt (t : List UInt8) (s : Int × Int) (i : Nat) : Option Nat :=
 if s.1 < 0 ∨ (t.length : Int) - i < s.2 - s.1 then none
 else if (t.drop s.1.toNat).take (s.2 - s.1).toNat = (t.drop i).take (s.2 - s.1).toNat then some (i + (s.2 - s.1).toNat) else none
inductive Tsk
 | node (n : Int)
 | gend (g : Int) (p : Nat)
 | times (n : Int) (k : Int) (p : Nat)
def ndA (ns : List Nod) (n : Int) : Nod:=ns.getD n.toNat ⟨0,0,0,0,0,0,zset⟩
inductive Stp (ns : List Nod) (t : List UInt8) : Tsk → Pt → List Tsk → Pt → Prop
 | empty (n : Int) (p : Pt) (h : (ndA ns n).kind = 0) : Stp ns t (.node n) p [] p
 | set (n : Int) (p : Pt) (c : UInt8) (h : (ndA ns n).kind = 1) (hc : t[p.i]? = some c) (hs : (ndA ns n).set c.toNat = true) : Stp ns t (.node n) p [] ⟨p.i + 1,p.sp⟩
 | cat (n : Int) (p : Pt) (h : (ndA ns n).kind = 2) : Stp ns t (.node n) p [.node (ndA ns n).a,.node (ndA ns n).b] p
 | altA (n : Int) (p : Pt) (h : (ndA ns n).kind = 3) : Stp ns t (.node n) p [.node (ndA ns n).a] p
 | altB (n : Int) (p : Pt) (h : (ndA ns n).kind = 3) : Stp ns t (.node n) p [.node (ndA ns n).b] p
 | repOn (n : Int) (p : Pt) (h : (ndA ns n).kind = 4) (hk : (ndA ns n).hi = -1 ∨ 0 < (ndA ns n).hi) : Stp ns t (.node n) p [.node (ndA ns n).a,.times n 1 p.i] p
 | repOff (n : Int) (p : Pt) (h : (ndA ns n).kind = 4) (hk : (ndA ns n).lo ≤ 0) : Stp ns t (.node n) p [] p
 | group (n : Int) (p : Pt) (h : (ndA ns n).kind = 5) : Stp ns t (.node n) p [.node (ndA ns n).a,.gend (ndA ns n).grp p.i] p
 | back (n : Int) (p : Pt) (j : Nat) (h : (ndA ns n).kind = 6) (hb : backAt t (p.sp (ndA ns n).grp.toNat) p.i = some j) : Stp ns t (.node n) p [] ⟨j,p.sp⟩
 | bol (n : Int) (p : Pt) (h : (ndA ns n).kind = 7) (hp : p.i = 0) : Stp ns t (.node n) p [] p
 | eol (n : Int) (p : Pt) (h : (ndA ns n).kind = 8) (hp : p.i = t.length) : Stp ns t (.node n) p [] p
 | gend (g : Int) (q : Nat) (p : Pt) : Stp ns t (.gend g q) p [] ⟨p.i,setSp p.sp g.toNat ((q : Int),(p.i : Int))⟩
 | same (n k : Int) (p : Pt) (hk : k ≤ (ndA ns n).lo) : Stp ns t (.times n k p.i) p [] p
 | on (n k : Int) (q : Nat) (p : Pt) (hq : p.i ≠ q) (hk : (ndA ns n).hi = -1 ∨ k < (ndA ns n).hi) : Stp ns t (.times n k q) p [.node (ndA ns n).a,.times n (k + 1) p.i] p
 | off (n k : Int) (q : Nat) (p : Pt) (hq : p.i ≠ q) (hk : (ndA ns n).lo ≤ k) : Stp ns t (.times n k q) p [] p
inductive Way (ns : List Nod) (t : List UInt8) : List Tsk → Pt → Pt → Prop
 | done (p : Pt) : Way ns t [] p p
 | step {tk : Tsk} {r ahead : List Tsk} {p m q : Pt} (h : Stp ns t tk p ahead m) (k : Way ns t (ahead ++ r) m q) : Way ns t (tk :: r) p q
section
variable {ns : List Nod} {t : List UInt8}
theorem Way.app {l r : List Tsk} {p m q : Pt} (h : Way ns t l p m) (k : Way ns t r m q) : Way ns t (l ++ r) p q:=by
 induction h with
 | done => exact k
 | step h1 _ ih => exact .step h1 (by have:=ih k;rw [List.append_assoc] at this;exact this)
theorem Way.split {x : List Tsk} {p q : Pt} (h : Way ns t x p q) : ∀ l r,x = l ++ r → ∃ m,Way ns t l p m ∧ Way ns t r m q:=by
 induction h with
 | done p =>
  intro l r e
  have h1 : l = []:=by cases l with | nil => rfl | cons a b => cases e
  subst h1
  exact ⟨p,.done p,by rw [show r = [] from e.symm];exact .done p⟩
 | @step tk r0 ahead p m q h1 h2 ih =>
  intro l r e
  cases l with
  | nil => exact ⟨p,.done p,by rw [show r = tk :: r0 from e.symm];exact .step h1 h2⟩
  | cons a b =>
   simp only [List.cons_append,List.cons.injEq] at e
   obtain ⟨rfl,rfl⟩:=e
   obtain ⟨m2,k1,k2⟩:=ih (ahead ++ b) r (by rw [List.append_assoc])
   exact ⟨m2,.step h1 k1,k2⟩
theorem Way.one {tk : Tsk} {ahead : List Tsk} {p m q : Pt} (h : Stp ns t tk p ahead m) (k : Way ns t ahead m q) : Way ns t [tk] p q:=.step h (by rw [List.append_nil];exact k)
end
inductive Job
 | node (n : Int)
 | more (n : Int) (k : Int)
inductive Rel (ns : List Nod) (t : List UInt8) : Job → Pt → Pt → Prop
 | empty (n : Int) (p : Pt) (h : (ndA ns n).kind = 0) : Rel ns t (.node n) p p
 | set (n : Int) (p : Pt) (c : UInt8) (h : (ndA ns n).kind = 1) (hc : t[p.i]? = some c) (hs : (ndA ns n).set c.toNat = true) : Rel ns t (.node n) p ⟨p.i + 1,p.sp⟩
 | cat (n : Int) {p m q : Pt} (h : (ndA ns n).kind = 2) (k1 : Rel ns t (.node (ndA ns n).a) p m) (k2 : Rel ns t (.node (ndA ns n).b) m q) : Rel ns t (.node n) p q
 | altA (n : Int) {p q : Pt} (h : (ndA ns n).kind = 3) (k : Rel ns t (.node (ndA ns n).a) p q) : Rel ns t (.node n) p q
 | altB (n : Int) {p q : Pt} (h : (ndA ns n).kind = 3) (k : Rel ns t (.node (ndA ns n).b) p q) : Rel ns t (.node n) p q
 | rep (n : Int) {p q : Pt} (h : (ndA ns n).kind = 4) (k : Rel ns t (.more n 0) p q) : Rel ns t (.node n) p q
 | group (n : Int) {p q : Pt} (h : (ndA ns n).kind = 5) (k : Rel ns t (.node (ndA ns n).a) p q) : Rel ns t (.node n) p ⟨q.i,setSp q.sp (ndA ns n).grp.toNat ((p.i : Int),(q.i : Int))⟩
 | back (n : Int) (p : Pt) (j : Nat) (h : (ndA ns n).kind = 6) (hb : backAt t (p.sp (ndA ns n).grp.toNat) p.i = some j) : Rel ns t (.node n) p ⟨j,p.sp⟩
 | bol (n : Int) (p : Pt) (h : (ndA ns n).kind = 7) (hp : p.i = 0) : Rel ns t (.node n) p p
 | eol (n : Int) (p : Pt) (h : (ndA ns n).kind = 8) (hp : p.i = t.length) : Rel ns t (.node n) p p
 | stop (n k : Int) (p : Pt) (hk : (ndA ns n).lo ≤ k) : Rel ns t (.more n k) p p
 | same (n k : Int) {p m : Pt} (hk : (ndA ns n).hi = -1 ∨ k < (ndA ns n).hi) (h1 : Rel ns t (.node (ndA ns n).a) p m) (he : m.i = p.i) (hl : k < (ndA ns n).lo) : Rel ns t (.more n k) p m
 | on (n k : Int) {p m q : Pt} (hk : (ndA ns n).hi = -1 ∨ k < (ndA ns n).hi) (h1 : Rel ns t (.node (ndA ns n).a) p m) (he : m.i ≠ p.i) (h2 : Rel ns t (.more n (k + 1)) m q) : Rel ns t (.more n k) p q
def rowJ (ns : List Nod) : Job → Pt → Pt → List UInt8 → Prop:=fun j p q t => match j with
 | .node n => Way ns t [.node n] p q
 | .more n k => ((ndA ns n).lo ≤ k ∧ q = p) ∨ (((ndA ns n).hi = -1 ∨ k < (ndA ns n).hi) ∧ Way ns t [.node (ndA ns n).a,.times n (k + 1) p.i] p q)
theorem Rel.way {ns : List Nod} {t : List UInt8} {j : Job} {p q : Pt} (h : Rel ns t j p q) : rowJ ns j p q t:=by
 induction h with
 | empty n p h => exact .one (.empty n p h) (.done p)
 | set n p c h hc hs => exact .one (.set n p c h hc hs) (.done _)
 | cat n h _ _ i1 i2 => exact .one (.cat n _ h) (Way.app (l:=[_]) i1 i2)
 | altA n h _ i1 => exact .one (.altA n _ h) i1
 | altB n h _ i1 => exact .one (.altB n _ h) i1
 | rep n h _ i1 =>
  rcases i1 with ⟨h1,rfl⟩ | ⟨h1,h2⟩
  · exact .one (.repOff n _ h h1) (.done _)
  · exact .one (.repOn n _ h h1) h2
 | group n h _ i1 => exact .one (.group n _ h) (Way.app (l:=[_]) i1 (.one (.gend _ _ _) (.done _)))
 | back n p j h hb => exact .one (.back n p j h hb) (.done _)
 | bol n p h hp => exact .one (.bol n p h hp) (.done _)
 | eol n p h hp => exact .one (.eol n p h hp) (.done _)
 | stop n k p hk => exact .inl ⟨hk,rfl⟩
 | @same n k p m hk _ he hl i1 => exact .inr ⟨hk,Way.app (l:=[_]) i1 (by rw [← he];exact .one (.same n (k + 1) m (by omega)) (.done m))⟩
 | @on n k p m q hk _ he _ i1 i2 =>
  refine .inr ⟨hk,Way.app (l:=[_]) i1 ?_⟩
  rcases i2 with ⟨h1,rfl⟩ | ⟨h1,h2⟩
  · exact .one (.off n (k + 1) p.i _ he h1) (.done _)
  · exact .one (.on n (k + 1) p.i m he h1) h2
inductive WayC (ns : List Nod) (t : List UInt8) : Nat → List Tsk → Pt → Pt → Prop
 | done (p : Pt) : WayC ns t 0 [] p p
 | step {tk : Tsk} {r ahead : List Tsk} {p m q : Pt} {c : Nat} (h : Stp ns t tk p ahead m) (k : WayC ns t c (ahead ++ r) m q) : WayC ns t (c + 1) (tk :: r) p q
section
variable {ns : List Nod} {t : List UInt8}
theorem Way.count {l : List Tsk} {p q : Pt} (h : Way ns t l p q) : ∃ c,WayC ns t c l p q:=by
 induction h with
 | done p => exact ⟨0,.done p⟩
 | step h1 _ ih => obtain ⟨c,hc⟩:=ih;exact ⟨c + 1,.step h1 hc⟩
theorem WayC.split {x : List Tsk} {p q : Pt} {c : Nat} (h : WayC ns t c x p q) : ∀ l r,x = l ++ r → ∃ m c1 c2,c1 + c2 = c ∧ WayC ns t c1 l p m ∧ WayC ns t c2 r m q:=by
 induction h with
 | done p =>
  intro l r e
  have h1 : l = []:=by cases l with | nil => rfl | cons a b => cases e
  subst h1
  exact ⟨p,0,0,rfl,.done p,by rw [show r = [] from e.symm];exact .done p⟩
 | @step tk r0 ahead p m q c h1 h2 ih =>
  intro l r e
  cases l with
  | nil => exact ⟨p,0,c + 1,by omega,.done p,by rw [show r = tk :: r0 from e.symm];exact .step h1 h2⟩
  | cons a b =>
   simp only [List.cons_append,List.cons.injEq] at e
   obtain ⟨rfl,rfl⟩:=e
   obtain ⟨m2,c1,c2,hc,k1,k2⟩:=ih (ahead ++ b) r (by rw [List.append_assoc])
   exact ⟨m2,c1 + 1,c2,by omega,.step h1 k1,k2⟩
theorem WayC.nil_ {p q : Pt} {c : Nat} (h : WayC ns t c [] p q) : q = p:=by cases h;rfl
theorem way_rel : ∀ c : Nat,(∀ n p q,WayC ns t c [.node n] p q → Rel ns t (.node n) p q) ∧ (∀ n k P p q,WayC ns t c [.times n k P] p q → (p.i = P ∧ k ≤ (ndA ns n).lo ∧ q = p) ∨ (p.i ≠ P ∧ Rel ns t (.more n k) p q)):=fun c => by
 induction c using Nat.strongRecOn with
 | ind c ih =>
  refine ⟨fun n p q h => ?_,fun n k P p q h => ?_⟩
  · cases h with
    | @step _ _ ahead _ m _ c h1 h2 =>
     rw [List.append_nil] at h2
     cases h1 with
     | empty _ _ h => rw [h2.nil_];exact .empty n p h
     | set _ _ x h hc hs => rw [h2.nil_];exact .set n p x h hc hs
     | cat _ _ h =>
      obtain ⟨m2,c1,c2,hc,k1,k2⟩:=h2.split [_] [_] rfl
      exact .cat n h ((ih c1 (by omega)).1 _ _ _ k1) ((ih c2 (by omega)).1 _ _ _ k2)
     | altA _ _ h => exact .altA n h ((ih c (by omega)).1 _ _ _ h2)
     | altB _ _ h => exact .altB n h ((ih c (by omega)).1 _ _ _ h2)
     | repOn _ _ h hk =>
      obtain ⟨m2,c1,c2,hc,k1,k2⟩:=h2.split [_] [_] rfl
      have r1:=(ih c1 (by omega)).1 _ _ _ k1
      rcases (ih c2 (by omega)).2 _ _ _ _ _ k2 with ⟨e1,e2,rfl⟩ | ⟨e1,e2⟩
      · exact .rep n h (.same n 0 hk r1 e1 (by omega))
      · exact .rep n h (.on n 0 hk r1 e1 e2)
     | repOff _ _ h hk => rw [h2.nil_];exact .rep n h (.stop n 0 p hk)
     | group _ _ h =>
      obtain ⟨m2,c1,c2,hc,k1,k2⟩:=h2.split [_] [_] rfl
      have r1:=(ih c1 (by omega)).1 _ _ _ k1
      cases k2 with
      | step h3 h4 =>
       cases h3
       rw [List.append_nil] at h4
       rw [h4.nil_]
       exact .group n h r1
     | back _ _ j h hb => rw [h2.nil_];exact .back n p j h hb
     | bol _ _ h hp => rw [h2.nil_];exact .bol n p h hp
     | eol _ _ h hp => rw [h2.nil_];exact .eol n p h hp
  · cases h with
    | @step _ _ ahead _ m _ c h1 h2 =>
     rw [List.append_nil] at h2
     cases h1 with
     | same _ _ _ hk => rw [h2.nil_];exact .inl ⟨rfl,hk,rfl⟩
     | on _ _ _ _ hq hk =>
      refine .inr ⟨hq,?_⟩
      obtain ⟨m2,c1,c2,hc,k1,k2⟩:=h2.split [_] [_] rfl
      have r1:=(ih c1 (by omega)).1 _ _ _ k1
      rcases (ih c2 (by omega)).2 _ _ _ _ _ k2 with ⟨e1,e2,rfl⟩ | ⟨e1,e2⟩
      · exact .same n k hk r1 e1 (by omega)
      · exact .on n k hk r1 e1 e2
     | off _ _ _ _ hq hk => rw [h2.nil_];exact .inr ⟨hq,.stop n k p hk⟩
theorem way_iff {n : Int} {p q : Pt} : Way ns t [.node n] p q ↔ Rel ns t (.node n) p q :=
 ⟨fun h => by obtain ⟨c,hc⟩:=h.count;exact (way_rel c).1 n p q hc,fun h => h.way⟩
end
end Go.Proofs.Ytbdfhmefjfaofaa
