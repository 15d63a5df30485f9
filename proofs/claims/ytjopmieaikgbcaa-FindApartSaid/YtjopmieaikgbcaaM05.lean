/- Contracts and plain facts: M05. -/
import Derived.Test.YtjopmieaikgbcaaM04
set_option linter.unusedVariables false
set_option linter.unusedSimpArgs false
set_option maxRecDepth 100000
set_option maxHeartbeats 32000000
namespace Go.Proofs.Ytjopmieaikgbcaa
open Go.RowKit
theorem nodV_z (k a b lo hi g : Int) : nodV ⟨k,a,b,lo,hi,g,zset⟩ = .agg #[.int .i64 k,.int .i64 a,.int .i64 b,.int .i64 lo,.int .i64 hi,.int .i64 g,.int .u64 0,.int .u64 0,.int .u64 0,.int .u64 0]:=by unfold nodV;rw [nodC_z]
abbrev Spn:=Nat → Int × Int
structure Pt where
 i : Nat
 sp : Spn
def setSp (sp : Spn) (g : Nat) (x : Int × Int) : Spn:=fun k => if k = g then x else sp k
def backAt (t : List UInt8) (s : Int × Int) (i : Nat) : Option Nat :=
 if s.1 < 0 ∨ (t.length : Int) - i < s.2 - s.1 then none
 else if (t.drop s.1.toNat).take (s.2 - s.1).toNat = (t.drop i).take (s.2 - s.1).toNat then some (i + (s.2 - s.1).toNat) else none
inductive Tsk
 | node (n : Int)
 | gend (g : Int) (p : Nat)
 | times (n : Int) (k : Int) (p : Nat)
def ndA (ns : List Nod) (n : Int) : Nod:=ns.getD n.toNat ⟨0,0,0,0,0,0,zset⟩
inductive Stp (ns : List Nod) (t : List UInt8) : Tsk → Pt → List Tsk → Pt → Prop
 | empty (n : Int) (p : Pt) (h : (ndA ns n).kind = 0) : Stp ns t (.node n) p [] p
 | set (n : Int) (p : Pt) (c : UInt8) (h : (ndA ns n).kind = 1) (hc : t[p.i]? = some c) (hs : (ndA ns n).set c.toNat = true) : Stp ns t (.node n) p [] ⟨p.i + 1,p.sp⟩
 | cat (n : Int) (p : Pt) (h : (ndA ns n).kind = 2) : Stp ns t (.node n) p [.node (ndA ns n).a,.node (ndA ns n).b] p
 | altA (n : Int) (p : Pt) (h : (ndA ns n).kind = 3) : Stp ns t (.node n) p [.node (ndA ns n).a] p
 | altB (n : Int) (p : Pt) (h : (ndA ns n).kind = 3) : Stp ns t (.node n) p [.node (ndA ns n).b] p
 | repOn (n : Int) (p : Pt) (h : (ndA ns n).kind = 4) (hk : (ndA ns n).hi = -1 ∨ 0 < (ndA ns n).hi) : Stp ns t (.node n) p [.node (ndA ns n).a,.times n 1 p.i] p
 | repOff (n : Int) (p : Pt) (h : (ndA ns n).kind = 4) (hk : (ndA ns n).lo ≤ 0) : Stp ns t (.node n) p [] p
 | group (n : Int) (p : Pt) (h : (ndA ns n).kind = 5) : Stp ns t (.node n) p [.node (ndA ns n).a,.gend (ndA ns n).grp p.i] p
 | back (n : Int) (p : Pt) (j : Nat) (h : (ndA ns n).kind = 6) (hb : backAt t (p.sp (ndA ns n).grp.toNat) p.i = some j) : Stp ns t (.node n) p [] ⟨j,p.sp⟩
 | bol (n : Int) (p : Pt) (h : (ndA ns n).kind = 7) (hp : p.i = 0) : Stp ns t (.node n) p [] p
 | eol (n : Int) (p : Pt) (h : (ndA ns n).kind = 8) (hp : p.i = t.length) : Stp ns t (.node n) p [] p
 | gend (g : Int) (q : Nat) (p : Pt) : Stp ns t (.gend g q) p [] ⟨p.i,setSp p.sp g.toNat ((q : Int),(p.i : Int))⟩
 | same (n k : Int) (p : Pt) (hk : k ≤ (ndA ns n).lo) : Stp ns t (.times n k p.i) p [] p
 | on (n k : Int) (q : Nat) (p : Pt) (hq : p.i ≠ q) (hk : (ndA ns n).hi = -1 ∨ k < (ndA ns n).hi) : Stp ns t (.times n k q) p [.node (ndA ns n).a,.times n (k + 1) p.i] p
 | off (n k : Int) (q : Nat) (p : Pt) (hq : p.i ≠ q) (hk : (ndA ns n).lo ≤ k) : Stp ns t (.times n k q) p [] p
inductive Way (ns : List Nod) (t : List UInt8) : List Tsk → Pt → Pt → Prop
 | done (p : Pt) : Way ns t [] p p
 | step {tk : Tsk} {r ahead : List Tsk} {p m q : Pt} (h : Stp ns t tk p ahead m) (k : Way ns t (ahead ++ r) m q) : Way ns t (tk :: r) p q
section
variable {ns : List Nod} {t : List UInt8}
theorem Way.app {l r : List Tsk} {p m q : Pt} (h : Way ns t l p m) (k : Way ns t r m q) : Way ns t (l ++ r) p q:=by
 induction h with
 | done => exact k
 | step h1 _ ih => exact .step h1 (by have:=ih k;rw [List.append_assoc] at this;exact this)
theorem Way.split {x : List Tsk} {p q : Pt} (h : Way ns t x p q) : ∀ l r,x = l ++ r → ∃ m,Way ns t l p m ∧ Way ns t r m q:=by
 induction h with
 | done p =>
  intro l r e
  have h1 : l = []:=by cases l with | nil => rfl | cons a b => cases e
  subst h1
  exact ⟨p,.done p,by rw [show r = [] from e.symm];exact .done p⟩
 | @step tk r0 ahead p m q h1 h2 ih =>
  intro l r e
  cases l with
  | nil => exact ⟨p,.done p,by rw [show r = tk :: r0 from e.symm];exact .step h1 h2⟩
  | cons a b =>
   simp only [List.cons_append,List.cons.injEq] at e
   obtain ⟨rfl,rfl⟩:=e
   obtain ⟨m2,k1,k2⟩:=ih (ahead ++ b) r (by rw [List.append_assoc])
   exact ⟨m2,.step h1 k1,k2⟩
theorem Way.one {tk : Tsk} {ahead : List Tsk} {p m q : Pt} (h : Stp ns t tk p ahead m) (k : Way ns t ahead m q) : Way ns t [tk] p q:=.step h (by rw [List.append_nil];exact k)
end
inductive Job
 | node (n : Int)
 | more (n : Int) (k : Int)
inductive Rel (ns : List Nod) (t : List UInt8) : Job → Pt → Pt → Prop
 | empty (n : Int) (p : Pt) (h : (ndA ns n).kind = 0) : Rel ns t (.node n) p p
 | set (n : Int) (p : Pt) (c : UInt8) (h : (ndA ns n).kind = 1) (hc : t[p.i]? = some c) (hs : (ndA ns n).set c.toNat = true) : Rel ns t (.node n) p ⟨p.i + 1,p.sp⟩
 | cat (n : Int) {p m q : Pt} (h : (ndA ns n).kind = 2) (k1 : Rel ns t (.node (ndA ns n).a) p m) (k2 : Rel ns t (.node (ndA ns n).b) m q) : Rel ns t (.node n) p q
 | altA (n : Int) {p q : Pt} (h : (ndA ns n).kind = 3) (k : Rel ns t (.node (ndA ns n).a) p q) : Rel ns t (.node n) p q
 | altB (n : Int) {p q : Pt} (h : (ndA ns n).kind = 3) (k : Rel ns t (.node (ndA ns n).b) p q) : Rel ns t (.node n) p q
 | rep (n : Int) {p q : Pt} (h : (ndA ns n).kind = 4) (k : Rel ns t (.more n 0) p q) : Rel ns t (.node n) p q
 | group (n : Int) {p q : Pt} (h : (ndA ns n).kind = 5) (k : Rel ns t (.node (ndA ns n).a) p q) : Rel ns t (.node n) p ⟨q.i,setSp q.sp (ndA ns n).grp.toNat ((p.i : Int),(q.i : Int))⟩
 | back (n : Int) (p : Pt) (j : Nat) (h : (ndA ns n).kind = 6) (hb : backAt t (p.sp (ndA ns n).grp.toNat) p.i = some j) : Rel ns t (.node n) p ⟨j,p.sp⟩
 | bol (n : Int) (p : Pt) (h : (ndA ns n).kind = 7) (hp : p.i = 0) : Rel ns t (.node n) p p
 | eol (n : Int) (p : Pt) (h : (ndA ns n).kind = 8) (hp : p.i = t.length) : Rel ns t (.node n) p p
 | stop (n k : Int) (p : Pt) (hk : (ndA ns n).lo ≤ k) : Rel ns t (.more n k) p p
 | same (n k : Int) {p m : Pt} (hk : (ndA ns n).hi = -1 ∨ k < (ndA ns n).hi) (h1 : Rel ns t (.node (ndA ns n).a) p m) (he : m.i = p.i) (hl : k < (ndA ns n).lo) : Rel ns t (.more n k) p m
 | on (n k : Int) {p m q : Pt} (hk : (ndA ns n).hi = -1 ∨ k < (ndA ns n).hi) (h1 : Rel ns t (.node (ndA ns n).a) p m) (he : m.i ≠ p.i) (h2 : Rel ns t (.more n (k + 1)) m q) : Rel ns t (.more n k) p q
def rowJ (ns : List Nod) : Job → Pt → Pt → List UInt8 → Prop:=fun j p q t => match j with
 | .node n => Way ns t [.node n] p q
 | .more n k => ((ndA ns n).lo ≤ k ∧ q = p) ∨ (((ndA ns n).hi = -1 ∨ k < (ndA ns n).hi) ∧ Way ns t [.node (ndA ns n).a,.times n (k + 1) p.i] p q)
theorem Rel.way {ns : List Nod} {t : List UInt8} {j : Job} {p q : Pt} (h : Rel ns t j p q) : rowJ ns j p q t:=by
 induction h with
 | empty n p h => exact .one (.empty n p h) (.done p)
 | set n p c h hc hs => exact .one (.set n p c h hc hs) (.done _)
 | cat n h _ _ i1 i2 => exact .one (.cat n _ h) (Way.app (l:=[_]) i1 i2)
 | altA n h _ i1 => exact .one (.altA n _ h) i1
 | altB n h _ i1 => exact .one (.altB n _ h) i1
 | rep n h _ i1 =>
  rcases i1 with ⟨h1,rfl⟩ | ⟨h1,h2⟩
  · exact .one (.repOff n _ h h1) (.done _)
  · exact .one (.repOn n _ h h1) h2
 | group n h _ i1 => exact .one (.group n _ h) (Way.app (l:=[_]) i1 (.one (.gend _ _ _) (.done _)))
 | back n p j h hb => exact .one (.back n p j h hb) (.done _)
 | bol n p h hp => exact .one (.bol n p h hp) (.done _)
 | eol n p h hp => exact .one (.eol n p h hp) (.done _)
 | stop n k p hk => exact .inl ⟨hk,rfl⟩
 | @same n k p m hk _ he hl i1 => exact .inr ⟨hk,Way.app (l:=[_]) i1 (by rw [← he];exact .one (.same n (k + 1) m (by omega)) (.done m))⟩
 | @on n k p m q hk _ he _ i1 i2 =>
  refine .inr ⟨hk,Way.app (l:=[_]) i1 ?_⟩
  rcases i2 with ⟨h1,rfl⟩ | ⟨h1,h2⟩
  · exact .one (.off n (k + 1) p.i _ he h1) (.done _)
  · exact .one (.on n (k + 1) p.i m he h1) h2
inductive WayC (ns : List Nod) (t : List UInt8) : Nat → List Tsk → Pt → Pt → Prop
 | done (p : Pt) : WayC ns t 0 [] p p
 | step {tk : Tsk} {r ahead : List Tsk} {p m q : Pt} {c : Nat} (h : Stp ns t tk p ahead m) (k : WayC ns t c (ahead ++ r) m q) : WayC ns t (c + 1) (tk :: r) p q
section
variable {ns : List Nod} {t : List UInt8}
theorem Way.count {l : List Tsk} {p q : Pt} (h : Way ns t l p q) : ∃ c,WayC ns t c l p q:=by
 induction h with
 | done p => exact ⟨0,.done p⟩
 | step h1 _ ih => obtain ⟨c,hc⟩:=ih;exact ⟨c + 1,.step h1 hc⟩
theorem WayC.split {x : List Tsk} {p q : Pt} {c : Nat} (h : WayC ns t c x p q) : ∀ l r,x = l ++ r → ∃ m c1 c2,c1 + c2 = c ∧ WayC ns t c1 l p m ∧ WayC ns t c2 r m q:=by
 induction h with
 | done p =>
  intro l r e
  have h1 : l = []:=by cases l with | nil => rfl | cons a b => cases e
  subst h1
  exact ⟨p,0,0,rfl,.done p,by rw [show r = [] from e.symm];exact .done p⟩
 | @step tk r0 ahead p m q c h1 h2 ih =>
  intro l r e
  cases l with
  | nil => exact ⟨p,0,c + 1,by omega,.done p,by rw [show r = tk :: r0 from e.symm];exact .step h1 h2⟩
  | cons a b =>
   simp only [List.cons_append,List.cons.injEq] at e
   obtain ⟨rfl,rfl⟩:=e
   obtain ⟨m2,c1,c2,hc,k1,k2⟩:=ih (ahead ++ b) r (by rw [List.append_assoc])
   exact ⟨m2,c1 + 1,c2,by omega,.step h1 k1,k2⟩
theorem WayC.nil_ {p q : Pt} {c : Nat} (h : WayC ns t c [] p q) : q = p:=by cases h;rfl
theorem way_rel : ∀ c : Nat,(∀ n p q,WayC ns t c [.node n] p q → Rel ns t (.node n) p q) ∧ (∀ n k P p q,WayC ns t c [.times n k P] p q → (p.i = P ∧ k ≤ (ndA ns n).lo ∧ q = p) ∨ (p.i ≠ P ∧ Rel ns t (.more n k) p q)):=fun c => by
 induction c using Nat.strongRecOn with
 | ind c ih =>
  refine ⟨fun n p q h => ?_,fun n k P p q h => ?_⟩
  · cases h with
    | @step _ _ ahead _ m _ c h1 h2 =>
     rw [List.append_nil] at h2
     cases h1 with
     | empty _ _ h => rw [h2.nil_];exact .empty n p h
     | set _ _ x h hc hs => rw [h2.nil_];exact .set n p x h hc hs
     | cat _ _ h =>
      obtain ⟨m2,c1,c2,hc,k1,k2⟩:=h2.split [_] [_] rfl
      exact .cat n h ((ih c1 (by omega)).1 _ _ _ k1) ((ih c2 (by omega)).1 _ _ _ k2)
     | altA _ _ h => exact .altA n h ((ih c (by omega)).1 _ _ _ h2)
     | altB _ _ h => exact .altB n h ((ih c (by omega)).1 _ _ _ h2)
     | repOn _ _ h hk =>
      obtain ⟨m2,c1,c2,hc,k1,k2⟩:=h2.split [_] [_] rfl
      have r1:=(ih c1 (by omega)).1 _ _ _ k1
      rcases (ih c2 (by omega)).2 _ _ _ _ _ k2 with ⟨e1,e2,rfl⟩ | ⟨e1,e2⟩
      · exact .rep n h (.same n 0 hk r1 e1 (by omega))
      · exact .rep n h (.on n 0 hk r1 e1 e2)
     | repOff _ _ h hk => rw [h2.nil_];exact .rep n h (.stop n 0 p hk)
     | group _ _ h =>
      obtain ⟨m2,c1,c2,hc,k1,k2⟩:=h2.split [_] [_] rfl
      have r1:=(ih c1 (by omega)).1 _ _ _ k1
      cases k2 with
      | step h3 h4 =>
       cases h3
       rw [List.append_nil] at h4
       rw [h4.nil_]
       exact .group n h r1
     | back _ _ j h hb => rw [h2.nil_];exact .back n p j h hb
     | bol _ _ h hp => rw [h2.nil_];exact .bol n p h hp
     | eol _ _ h hp => rw [h2.nil_];exact .eol n p h hp
  · cases h with
    | @step _ _ ahead _ m _ c h1 h2 =>
     rw [List.append_nil] at h2
     cases h1 with
     | same _ _ _ hk => rw [h2.nil_];exact .inl ⟨rfl,hk,rfl⟩
     | on _ _ _ _ hq hk =>
      refine .inr ⟨hq,?_⟩
      obtain ⟨m2,c1,c2,hc,k1,k2⟩:=h2.split [_] [_] rfl
      have r1:=(ih c1 (by omega)).1 _ _ _ k1
      rcases (ih c2 (by omega)).2 _ _ _ _ _ k2 with ⟨e1,e2,rfl⟩ | ⟨e1,e2⟩
      · exact .same n k hk r1 e1 (by omega)
      · exact .on n k hk r1 e1 e2
     | off _ _ _ _ hq hk => rw [h2.nil_];exact .inr ⟨hq,.stop n k p hk⟩
theorem way_iff {n : Int} {p q : Pt} : Way ns t [.node n] p q ↔ Rel ns t (.node n) p q :=
 ⟨fun h => by obtain ⟨c,hc⟩:=h.count;exact (way_rel c).1 n p q hc,fun h => h.way⟩
end
def betS (x y : Int × Int) : Bool:=if x.1 < 0 then false else if y.1 < 0 then true else if x.1 ≠ y.1 then decide (x.1 < y.1) else decide (y.2 < x.2)
def betG (a b : Spn) : Nat → Nat → Bool
 | 0,_ => false
 | k + 1,g => if a g = b g then betG a b k (g + 1) else betS (a g) (b g)
def bet (a b : Spn) : Bool:=if (a 0).2 ≠ (b 0).2 then decide ((b 0).2 < (a 0).2) else betG a b 9 1
def GoodS (x : Int × Int) : Prop:=x.1 < 0 → x = (-1,-1)
theorem betS_irr (x : Int × Int) : betS x x = false:=by
 unfold betS
 split
 · rfl
 · simp
theorem betS_total {x y : Int × Int} (hx : GoodS x) (hy : GoodS y) (h : x ≠ y) : betS x y = true ∨ betS y x = true:=by
 obtain ⟨x1,x2⟩:=x
 obtain ⟨y1,y2⟩:=y
 unfold betS
 simp only
 by_cases h1 : x1 < 0
 · by_cases h2 : y1 < 0
   · exact absurd ((hx h1).trans (hy h2).symm) h
   · right;rw [if_neg h2,if_pos h1]
 · by_cases h2 : y1 < 0
   · left;rw [if_neg h1,if_pos h2]
   · rw [if_neg h1,if_neg h2,if_neg h2,if_neg h1]
     by_cases h3 : x1 = y1
     · subst h3
       have : x2 ≠ y2:=fun e => h (by rw [e])
       simp
       omega
     · have h4 : y1 ≠ x1:=fun e => h3 e.symm
       rw [if_pos h3,if_pos h4]
       simp
       omega
theorem betS_trans {x y z : Int × Int} (h1 : betS x y = true) (h2 : betS y z = true) : betS x z = true:=by
 obtain ⟨x1,x2⟩:=x
 obtain ⟨y1,y2⟩:=y
 obtain ⟨z1,z2⟩:=z
 unfold betS at *
 simp only at *
 by_cases a : x1 < 0
 · rw [if_pos a] at h1;cases h1
 rw [if_neg a] at h1 ⊢
 by_cases b : y1 < 0
 · rw [if_pos b] at h2;cases h2
 rw [if_neg b] at h1 h2
 by_cases c : z1 < 0
 · rw [if_pos c]
 rw [if_neg c] at h2 ⊢
 by_cases e1 : x1 = y1
 · subst e1
   rw [if_neg (by simp)] at h1
   by_cases e2 : x1 = z1
   · subst e2
     rw [if_neg (by simp)] at h2 ⊢
     simp at *;omega
   · rw [if_pos e2] at h2 ⊢
     exact h2
 · rw [if_pos e1] at h1
   by_cases e2 : y1 = z1
   · subst e2
     rw [if_pos e1]
     exact h1
   · rw [if_pos e2] at h2
     simp at h1 h2
     rw [if_pos (by omega)]
     simp;omega
theorem betG_irr (a : Spn) : ∀ k g,betG a a k g = false
 | 0,g => rfl
 | k + 1,g => by rw [betG,if_pos rfl];exact betG_irr a k (g + 1)
theorem betG_trans {a b c : Spn} : ∀ k g,betG a b k g = true → betG b c k g = true → betG a c k g = true
 | 0,g,h,_ => h
 | k + 1,g,h1,h2 => by
  rw [betG] at h1 h2 ⊢
  by_cases e1 : a g = b g
  · rw [if_pos e1] at h1
    by_cases e2 : b g = c g
    · rw [if_pos e2] at h2
      rw [if_pos (e1.trans e2)]
      exact betG_trans k _ h1 h2
    · rw [if_neg e2] at h2
      rw [if_neg (fun e => e2 (e1.symm.trans e)),e1]
      exact h2
  · rw [if_neg e1] at h1
    by_cases e2 : b g = c g
    · rw [if_neg (fun e => e1 (e.trans e2.symm)),← e2]
      exact h1
    · rw [if_neg e2] at h2
      have h3:=betS_trans h1 h2
      rw [if_neg (fun e => by rw [e,betS_irr] at h3;cases h3)]
      exact h3
theorem betG_total {a b : Spn} (ha : ∀ g,GoodS (a g)) (hb : ∀ g,GoodS (b g)) : ∀ k g,(∃ j,g ≤ j ∧ j < g + k ∧ a j ≠ b j) → betG a b k g = true ∨ betG b a k g = true
 | 0,g,⟨j,h1,h2,_⟩ => absurd h2 (by omega)
 | k + 1,g,⟨j,h1,h2,h3⟩ => by
  rw [betG,betG]
  by_cases e : a g = b g
  · rw [if_pos e,if_pos e.symm]
    refine betG_total ha hb k (g + 1) ⟨j,?_,by omega,h3⟩
    rcases Nat.lt_or_ge g j with h | h
    · exact h
    · obtain rfl : g = j:=by omega
      exact absurd e h3
  · rw [if_neg e,if_neg (fun h => e h.symm)]
    exact betS_total (ha g) (hb g) e
theorem bet_irr (a : Spn) : bet a a = false:=by unfold bet;rw [if_neg (by simp)];exact betG_irr a 9 1
theorem bet_trans {a b c : Spn} (h1 : bet a b = true) (h2 : bet b c = true) : bet a c = true:=by
 unfold bet at *
 by_cases e1 : (a 0).2 = (b 0).2
 · rw [if_neg (by simpa using e1)] at h1
   by_cases e2 : (b 0).2 = (c 0).2
   · rw [if_neg (by simpa using e2)] at h2
     rw [if_neg (by simpa using e1.trans e2)]
     exact betG_trans 9 1 h1 h2
   · rw [if_pos e2] at h2
     rw [if_pos (fun e => e2 (e1.symm.trans e)),e1]
     exact h2
 · rw [if_pos e1] at h1
   by_cases e2 : (b 0).2 = (c 0).2
   · rw [if_pos (fun e => e1 (e.trans e2.symm)),← e2]
     exact h1
   · rw [if_pos e2] at h2
     simp at h1 h2
     rw [if_pos (by omega)]
     simp;omega
theorem bet_asym {a b : Spn} (h : bet a b = true) : bet b a = false:=by
 cases h2 : bet b a with
 | false => rfl
 | true => have:=bet_trans h h2;rw [bet_irr] at this;cases this
def same10 (a b : Spn) : Prop:=∀ g,g < 10 → a g = b g
theorem bet_total {a b : Spn} (ha : ∀ g,GoodS (a g)) (hb : ∀ g,GoodS (b g)) (h0 : (a 0).1 = (b 0).1) (h : ¬ same10 a b) : bet a b = true ∨ bet b a = true:=by
 unfold bet
 by_cases e : (a 0).2 = (b 0).2
 · rw [if_neg (by simpa using e),if_neg (by simpa using e.symm)]
   refine betG_total ha hb 9 1 ?_
   apply Classical.byContradiction
   intro hn
   refine h fun g hg => ?_
   apply Classical.byContradiction
   intro hne
   cases g with
   | zero => exact hne (Prod.ext h0 e)
   | succ g => exact hn ⟨g + 1,by omega,by omega,hne⟩
 · rw [if_pos e,if_pos (fun h => e h.symm)]
   simp;omega
def bestF : Option Spn → List Spn → Option Spn
 | o,[] => o
 | none,h :: r => bestF (some h) r
 | some b,h :: r => bestF (some (if bet h b then h else b)) r
theorem bestF_mem : ∀ (l : List Spn) (b m : Spn),bestF (some b) l = some m → m = b ∨ m ∈ l
 | [],b,m,h => by rw [bestF] at h;exact .inl (Option.some.inj h).symm
 | x :: r,b,m,h => by
  rw [bestF] at h
  rcases bestF_mem r _ m h with h1 | h1
  · split at h1
    · exact .inr (by rw [h1];simp)
    · exact .inl h1
  · exact .inr (by simp [h1])
theorem bestF_some : ∀ (l : List Spn) (b : Spn),∃ m,bestF (some b) l = some m
 | [],b => ⟨b,rfl⟩
 | x :: r,b => by rw [bestF];exact bestF_some r _
theorem betG_same {a b c : Spn} : ∀ k g,(∀ j,g ≤ j → j < g + k → b j = c j) → betG a b k g = betG a c k g
 | 0,g,_ => rfl
 | k + 1,g,h => by
  rw [betG,betG,h g (nlr _) (by omega)]
  by_cases e : a g = c g
  · rw [if_pos e,if_pos e];exact betG_same k (g + 1) fun j h1 h2 => h j (by omega) (by omega)
  · rw [if_neg e,if_neg e]
theorem bet_same {a b c : Spn} (h : same10 b c) : bet a b = bet a c:=by
 unfold bet
 rw [h 0 (by omega),betG_same 9 1 fun j h1 h2 => h j (by omega)]
def Hits (i : Int) (l : List Spn) : Prop:=∀ x ∈ l,(∀ g,GoodS (x g)) ∧ (x 0).1 = i
theorem bestF_top {i : Int} : ∀ (l : List Spn) (b m : Spn),Hits i (b :: l) → bestF (some b) l = some m → bet b m = false ∧ ∀ x ∈ l,bet x m = false
 | [],b,m,_,h => by rw [bestF] at h;obtain rfl:=Option.some.inj h;exact ⟨bet_irr b,fun x hx => by cases hx⟩
 | y :: r,b,m,hh,h => by
  rw [bestF] at h
  have hm : m = b ∨ m ∈ y :: r:=by
   rcases bestF_mem r _ m h with h1 | h1
   · split at h1
     · exact .inr (by rw [h1];simp)
     · exact .inl h1
   · exact .inr (by simp [h1])
  have hgm:=hh m (by rcases hm with rfl | hm;exact List.mem_cons_self;exact List.mem_cons_of_mem _ hm)
  have hgb:=hh b (by simp)
  cases hyb : bet y b with
  | true =>
   rw [hyb,if_pos rfl] at h
   obtain ⟨h1,h2⟩:=bestF_top r y m (fun x hx => hh x (by simp at hx ⊢;rcases hx with rfl | hx;exact .inr (.inl rfl);exact .inr (.inr hx))) h
   refine ⟨?_,fun x hx => ?_⟩
   · cases hbm : bet b m with
     | false => rfl
     | true => rw [bet_trans hyb hbm] at h1;cases h1
   · rcases List.mem_cons.1 hx with rfl | hx
     · exact h1
     · exact h2 x hx
  | false =>
   rw [hyb,if_neg (by simp)] at h
   obtain ⟨h1,h2⟩:=bestF_top r b m (fun x hx => hh x (by simp at hx ⊢;rcases hx with rfl | hx;exact .inl rfl;exact .inr (.inr hx))) h
   refine ⟨h1,fun x hx => ?_⟩
   rcases List.mem_cons.1 hx with rfl | hx
   · cases hxm : bet x m with
     | false => rfl
     | true =>
      by_cases hs : same10 b m
      · rw [bet_same hs,hxm] at hyb;cases hyb
      · rcases bet_total hgb.1 hgm.1 (hgb.2.trans hgm.2.symm) hs with e | e
        · rw [e] at h1;cases h1
        · rw [bet_trans hxm e] at hyb;cases hyb
   · exact h2 x hx
theorem best_one {i : Int} {l k : List Spn} (hl : Hits i l) (hk : Hits i k) (h1 : ∀ x ∈ l,∃ y ∈ k,same10 x y) (h2 : ∀ y ∈ k,∃ x ∈ l,same10 y x) {m n : Spn} (hm : bestF none l = some m) (hn : bestF none k = some n) : same10 m n:=by
 have top : ∀ {l : List Spn} {m : Spn},Hits i l → bestF none l = some m → m ∈ l ∧ ∀ x ∈ l,bet x m = false:=fun {l m} hl h => by
  cases l with
  | nil => cases h
  | cons b r =>
   rw [bestF] at h
   obtain ⟨t1,t2⟩:=bestF_top r b m hl h
   refine ⟨?_,fun x hx => ?_⟩
   · rcases bestF_mem r b m h with rfl | h;exact List.mem_cons_self;exact List.mem_cons_of_mem _ h
   · rcases List.mem_cons.1 hx with rfl | hx
     · exact t1
     · exact t2 x hx
 obtain ⟨m1,m2⟩:=top hl hm
 obtain ⟨n1,n2⟩:=top hk hn
 obtain ⟨y,y1,y2⟩:=h1 m m1
 obtain ⟨x,x1,x2⟩:=h2 n n1
 apply Classical.byContradiction
 intro hne
 rcases bet_total (hl m m1).1 (hk n n1).1 ((hl m m1).2.trans (hk n n1).2.symm) hne with e | e
 · -- m better than n: so is y
   have e2 : bet y n = true:=by
    by_cases hs : same10 n y
    · exact absurd (fun g hg => (y2 g hg).trans (hs g hg).symm) hne
    · rcases bet_total (hk n n1).1 (hk y y1).1 ((hk n n1).2.trans (hk y y1).2.symm) hs with e3 | e3
      · rw [← bet_same y2] at e3
        rw [bet_asym e] at e3;cases e3
      · exact e3
   rw [n2 y y1] at e2;cases e2
 · have e2 : bet x m = true:=by
     by_cases hs : same10 m x
     · exact absurd (fun g hg => (hs g hg).trans (x2 g hg).symm) hne
     · rcases bet_total (hl m m1).1 (hl x x1).1 ((hl m m1).2.trans (hl x x1).2.symm) hs with e3 | e3
       · rw [← bet_same x2] at e3
         rw [bet_asym e] at e3;cases e3
       · exact e3
   rw [m2 x x1] at e2;cases e2
end Go.Proofs.Ytjopmieaikgbcaa
