/- Contracts and plain facts: M09. -/
import Derived.Test.YtbdfhmefjfaofaaM08
set_option linter.unusedVariables false
set_option linter.unusedSimpArgs false
set_option maxRecDepth 100000
set_option maxHeartbeats 32000000
namespace Go.Proofs.Ytbdfhmefjfaofaa
open Go.RowKit
abbrev Wy:=List Tsk × Pt
def nexts (ns : List Nod) (t : List UInt8) : Tsk → Pt → List Wy
 | .gend g q,p => [([],⟨p.i,setSp p.sp g.toNat ((q : Int),(p.i : Int))⟩)]
 | .times n k q,p =>
  if p.i = q then (if k ≤ (ndA ns n).lo then [([],p)] else [])
  else (if (ndA ns n).hi = -1 ∨ k < (ndA ns n).hi then [([.node (ndA ns n).a,.times n (k + 1) p.i],p)] else []) ++ (if (ndA ns n).lo ≤ k then [([],p)] else [])
 | .node n,p =>
  if (ndA ns n).kind = 1 then (match t[p.i]? with
   | some c => if (ndA ns n).set c.toNat then [([],⟨p.i + 1,p.sp⟩)] else []
   | none => [])
  else if (ndA ns n).kind = 2 then [([.node (ndA ns n).a,.node (ndA ns n).b],p)]
  else if (ndA ns n).kind = 3 then [([.node (ndA ns n).a],p),([.node (ndA ns n).b],p)]
  else if (ndA ns n).kind = 4 then (if (ndA ns n).hi = -1 ∨ 0 < (ndA ns n).hi then [([.node (ndA ns n).a,.times n 1 p.i],p)] else []) ++ (if (ndA ns n).lo ≤ 0 then [([],p)] else [])
  else if (ndA ns n).kind = 5 then [([.node (ndA ns n).a,.gend (ndA ns n).grp p.i],p)]
  else if (ndA ns n).kind = 6 then (match backAt t (p.sp (ndA ns n).grp.toNat) p.i with
   | some j => [([],⟨j,p.sp⟩)]
   | none => [])
  else if (ndA ns n).kind = 7 then (if p.i = 0 then [([],p)] else [])
  else if (ndA ns n).kind = 8 then (if p.i = t.length then [([],p)] else [])
  else [([],p)]
def KindOK (ns : List Nod) : Tsk → Prop
 | .node n => (ndA ns n).kind = 0 ∨ (ndA ns n).kind = 1 ∨ (ndA ns n).kind = 2 ∨ (ndA ns n).kind = 3 ∨ (ndA ns n).kind = 4 ∨ (ndA ns n).kind = 5 ∨ (ndA ns n).kind = 6 ∨ (ndA ns n).kind = 7 ∨ (ndA ns n).kind = 8
 | _ => True
section
variable {ns : List Nod} {t : List UInt8}
theorem nexts_mem {tk : Tsk} {p m : Pt} {ahead : List Tsk} (hK : KindOK ns tk) : (ahead,m) ∈ nexts ns t tk p ↔ Stp ns t tk p ahead m:=by
 constructor
 · intro h
   cases tk with
   | gend g q =>
    unfold nexts at h
    dsimp only at h
    simp only [List.mem_singleton,Prod.mk.injEq] at h
    obtain ⟨rfl,rfl⟩:=h
    exact .gend g q p
   | times n k q =>
    unfold nexts at h
    dsimp only at h
    by_cases e : p.i = q
    · subst e
      rw [if_pos rfl] at h
      split at h
      · simp only [List.mem_singleton,Prod.mk.injEq] at h
        obtain ⟨rfl,rfl⟩:=h
        exact .same n k _ (by assumption)
      · cases h
    · rw [if_neg e] at h
      rcases List.mem_append.1 h with h | h
      · split at h
        · simp only [List.mem_singleton,Prod.mk.injEq] at h
          obtain ⟨rfl,rfl⟩:=h
          exact .on n k q _ e (by assumption)
        · cases h
      · split at h
        · simp only [List.mem_singleton,Prod.mk.injEq] at h
          obtain ⟨rfl,rfl⟩:=h
          exact .off n k q _ e (by assumption)
        · cases h
   | node n =>
    unfold nexts at h
    dsimp only at h
    by_cases h1 : (ndA ns n).kind = 1
    · rw [if_pos h1] at h
      split at h
      · rename_i c hc
        split at h
        · simp only [List.mem_singleton,Prod.mk.injEq] at h
          obtain ⟨rfl,rfl⟩:=h
          exact .set n p c h1 hc (by assumption)
        · cases h
      · cases h
    rw [if_neg h1] at h
    by_cases h2 : (ndA ns n).kind = 2
    · rw [if_pos h2] at h
      simp only [List.mem_singleton,Prod.mk.injEq] at h
      obtain ⟨rfl,rfl⟩:=h
      exact .cat n _ h2
    rw [if_neg h2] at h
    by_cases h3 : (ndA ns n).kind = 3
    · rw [if_pos h3] at h
      simp only [List.mem_cons,List.not_mem_nil,or_false,Prod.mk.injEq] at h
      rcases h with ⟨rfl,rfl⟩ | ⟨rfl,rfl⟩
      · exact .altA n _ h3
      · exact .altB n _ h3
    rw [if_neg h3] at h
    by_cases h4 : (ndA ns n).kind = 4
    · rw [if_pos h4] at h
      rcases List.mem_append.1 h with h | h
      · split at h
        · simp only [List.mem_singleton,Prod.mk.injEq] at h
          obtain ⟨rfl,rfl⟩:=h
          exact .repOn n _ h4 (by assumption)
        · cases h
      · split at h
        · simp only [List.mem_singleton,Prod.mk.injEq] at h
          obtain ⟨rfl,rfl⟩:=h
          exact .repOff n _ h4 (by assumption)
        · cases h
    rw [if_neg h4] at h
    by_cases h5 : (ndA ns n).kind = 5
    · rw [if_pos h5] at h
      simp only [List.mem_singleton,Prod.mk.injEq] at h
      obtain ⟨rfl,rfl⟩:=h
      exact .group n _ h5
    rw [if_neg h5] at h
    by_cases h6 : (ndA ns n).kind = 6
    · rw [if_pos h6] at h
      split at h
      · rename_i j hj
        simp only [List.mem_singleton,Prod.mk.injEq] at h
        obtain ⟨rfl,rfl⟩:=h
        exact .back n p j h6 hj
      · cases h
    rw [if_neg h6] at h
    by_cases h7 : (ndA ns n).kind = 7
    · rw [if_pos h7] at h
      split at h
      · simp only [List.mem_singleton,Prod.mk.injEq] at h
        obtain ⟨rfl,rfl⟩:=h
        exact .bol n _ h7 (by assumption)
      · cases h
    rw [if_neg h7] at h
    by_cases h8 : (ndA ns n).kind = 8
    · rw [if_pos h8] at h
      split at h
      · simp only [List.mem_singleton,Prod.mk.injEq] at h
        obtain ⟨rfl,rfl⟩:=h
        exact .eol n _ h8 (by assumption)
      · cases h
    rw [if_neg h8] at h
    simp only [List.mem_singleton,Prod.mk.injEq] at h
    obtain ⟨rfl,rfl⟩:=h
    exact .empty n _ (by have : (ndA ns n).kind = 0 ∨ _:=hK;omega)
 · intro h
   cases h with
   | empty n p h => simp [nexts,h]
   | set n p c h hc hs => simp [nexts,h,hc,hs]
   | cat n p h => simp [nexts,h]
   | altA n p h => simp [nexts,h]
   | altB n p h => simp [nexts,h]
   | repOn n p h hk => simp only [nexts,h];rw [if_neg (by decide),if_neg (by decide),if_neg (by decide),if_pos trivial,if_pos hk];simp
   | repOff n p h hk => simp only [nexts,h];rw [if_neg (by decide),if_neg (by decide),if_neg (by decide),if_pos trivial,if_pos hk];simp
   | group n p h => simp [nexts,h]
   | back n p j h hb => simp [nexts,h,hb]
   | bol n p h hp => simp [nexts,h,hp]
   | eol n p h hp => simp [nexts,h,hp]
   | gend g q p => simp [nexts]
   | same n k p hk => simp [nexts,hk]
   | on n k q p hq hk => simp only [nexts];rw [if_neg hq,if_pos hk];simp
   | off n k q p hq hk => simp only [nexts];rw [if_neg hq,if_pos hk];simp
end
def ahead (r : List Tsk) (w : Wy) : Wy:=(w.1 ++ r,w.2)
inductive Stk (ns : List Nod) (t : List UInt8) : List Wy → Nat → List Pt → Prop
 | nil : Stk ns t [] 0 []
 | hit (p : Pt) {s : List Wy} {c : Nat} {hs : List Pt} (k : Stk ns t s c hs) : Stk ns t (([],p) :: s) c (p :: hs)
 | step (tk : Tsk) (r : List Tsk) (p : Pt) {s : List Wy} {c : Nat} {hs : List Pt} (k : Stk ns t ((nexts ns t tk p).map (ahead r) ++ s) c hs) : Stk ns t ((tk :: r,p) :: s) (c + 1) hs
section
variable {ns : List Nod} {t : List UInt8}
theorem Stk.det {s : List Wy} {c d : Nat} {hs ks : List Pt} (h : Stk ns t s c hs) (k : Stk ns t s d ks) : c = d ∧ hs = ks:=by
 induction h generalizing d ks with
 | nil => cases k;exact ⟨rfl,rfl⟩
 | hit p _ ih => cases k with | hit _ k => obtain ⟨e1,e2⟩:=ih k;exact ⟨e1,by rw [e2]⟩
 | step tk r p _ ih => cases k with | step _ _ _ k => obtain ⟨e1,e2⟩:=ih k;exact ⟨by rw [e1],e2⟩
theorem Stk.app {a b : List Wy} {c d : Nat} {hs ks : List Pt} (h : Stk ns t a c hs) (k : Stk ns t b d ks) : Stk ns t (a ++ b) (c + d) (hs ++ ks):=by
 induction h with
 | nil => rw [Nat.zero_add];exact k
 | hit p _ ih => exact .hit p ih
 | @step tk r p s c hs _ ih => rw [show c + 1 + d = (c + d) + 1 by omega];exact .step tk r p (by rw [List.append_assoc] at ih;exact ih)
theorem Stk.split {x : List Wy} {c : Nat} {hs : List Pt} (h : Stk ns t x c hs) : ∀ a b,x = a ++ b → ∃ c1 c2 h1 h2,c = c1 + c2 ∧ hs = h1 ++ h2 ∧ Stk ns t a c1 h1 ∧ Stk ns t b c2 h2:=by
 induction h with
 | nil =>
  intro a b e
  cases a with
  | nil => cases b with
   | nil => exact ⟨0,0,[],[],rfl,rfl,.nil,.nil⟩
   | cons => cases e
  | cons => cases e
 | @hit p s c hs k ih =>
  intro a b e
  cases a with
  | nil => exact ⟨0,c,[],p :: hs,by omega,rfl,.nil,by rw [show b = ([],p) :: s from e.symm];exact .hit p k⟩
  | cons w a =>
   simp only [List.cons_append,List.cons.injEq] at e
   obtain ⟨rfl,rfl⟩:=e
   obtain ⟨c1,c2,h1,h2,e1,e2,k1,k2⟩:=ih a b rfl
   exact ⟨c1,c2,p :: h1,h2,e1,by rw [e2];rfl,.hit p k1,k2⟩
 | @step tk r p s c hs k ih =>
  intro a b e
  cases a with
  | nil => exact ⟨0,c + 1,[],hs,by omega,rfl,.nil,by rw [show b = (tk :: r,p) :: s from e.symm];exact .step tk r p k⟩
  | cons w a =>
   simp only [List.cons_append,List.cons.injEq] at e
   obtain ⟨rfl,rfl⟩:=e
   obtain ⟨c1,c2,h1,h2,e1,e2,k1,k2⟩:=ih ((nexts ns t tk p).map (ahead r) ++ a) b (by rw [List.append_assoc])
   exact ⟨c1 + 1,c2,h1,h2,by omega,e2,.step tk r p k1,k2⟩
theorem Stk.one {w : Wy} {s : List Wy} {c : Nat} {hs : List Pt} (h : Stk ns t (w :: s) c hs) : ∃ c1 c2 h1 h2,c = c1 + c2 ∧ hs = h1 ++ h2 ∧ Stk ns t [w] c1 h1 ∧ Stk ns t s c2 h2:=h.split [w] s rfl
theorem Stk.perm {s u : List Wy} (e : s.Perm u) {c : Nat} {hs : List Pt} (h : Stk ns t s c hs) : ∃ ks,hs.Perm ks ∧ Stk ns t u c ks:=by
 induction e generalizing c hs with
 | nil => exact ⟨hs,.refl _,h⟩
 | @cons w a b _ ih =>
  obtain ⟨c1,c2,h1,h2,rfl,rfl,k1,k2⟩:=h.one
  obtain ⟨ks,e1,e2⟩:=ih k2
  exact ⟨h1 ++ ks,e1.append_left h1,k1.app e2⟩
 | swap w v a =>
  obtain ⟨c1,c2,h1,h2,rfl,rfl,k1,k2⟩:=h.one
  obtain ⟨c3,c4,h3,h4,rfl,rfl,k3,k4⟩:=k2.one
  refine ⟨h3 ++ (h1 ++ h4),?_,by rw [show c1 + (c3 + c4) = c3 + (c1 + c4) by omega];exact k3.app (k1.app k4)⟩
  rw [← List.append_assoc,← List.append_assoc]
  exact List.perm_append_comm.append_right h4
 | trans _ _ i1 i2 =>
  obtain ⟨k1,e1,s1⟩:=i1 h
  obtain ⟨k2,e2,s2⟩:=i2 s1
  exact ⟨k2,e1.trans e2,s2⟩
theorem Stk.rest {s : List Wy} {c : Nat} {hs : List Pt} (r : List Tsk) (h : Stk ns t s c hs) : ∀ {d : Nat} {ks : List Pt},Stk ns t (hs.map fun q => (r,q)) d ks → Stk ns t (s.map (ahead r)) (c + d) ks:=by
 induction h with
 | nil => intro d ks k;rw [Nat.zero_add];exact k
 | hit p _ ih =>
  intro d ks k
  obtain ⟨c1,c2,h1,h2,rfl,rfl,k1,k2⟩:=Stk.one k
  rw [show _ + (c1 + c2) = c1 + (_ + c2) from Nat.add_left_comm _ _ _]
  exact Stk.app (a:=[_]) k1 (ih k2)
 | @step tk q p s c hs _ ih =>
  intro d ks k
  have:=ih k
  rw [show c + 1 + d = (c + d) + 1 by omega]
  refine .step tk (q ++ r) p ?_
  rw [List.map_append,List.map_map] at this
  rw [show (nexts ns t tk p).map (ahead (q ++ r)) = (nexts ns t tk p).map (ahead r ∘ ahead q) from List.map_congr_left fun w _ => by simp [ahead]]
  exact this
theorem Stk.front {x : List Wy} {c : Nat} {ks : List Pt} (h : Stk ns t x c ks) : ∀ (s : List Wy) (r : List Tsk),x = s.map (ahead r) → ∃ c1 c2 hs,c = c1 + c2 ∧ Stk ns t s c1 hs ∧ Stk ns t (hs.map fun q => (r,q)) c2 ks:=by
 induction c using Nat.strongRecOn generalizing x ks with
 | ind c ihc =>
  intro s
  induction s generalizing c x ks with
  | nil => intro r e;subst e;cases h;exact ⟨0,0,[],rfl,.nil,.nil⟩
  | cons w s ihs =>
   intro r e
   subst e
   obtain ⟨c1,c2,h1,h2,rfl,rfl,k1,k2⟩:=Stk.one h
   obtain ⟨d1,d2,m2,rfl,j1,j2⟩:=ihs c2 (fun m hm x ks h s r e => ihc m (by omega) h s r e) k2 r rfl
   obtain ⟨l,p⟩:=w
   cases l with
   | nil => exact ⟨d1,c1 + d2,p :: m2,by omega,.hit p j1,Stk.app (a:=[_]) k1 j2⟩
   | cons tk q =>
    cases k1 with
    | @step _ _ _ _ c1 _ k1 =>
     rw [List.append_nil] at k1
     obtain ⟨e1,e2,m1,rfl,i1,i2⟩:=ihc c1 (by omega) k1 ((nexts ns t tk p).map (ahead q)) r (by rw [List.map_map];exact List.map_congr_left fun w _ => by simp [ahead])
     refine ⟨e1 + 1 + d1,e2 + d2,m1 ++ m2,by omega,?_,by rw [List.map_append];exact i2.app j2⟩
     exact Stk.app (a:=[_]) (.step tk q p (by rw [List.append_nil];exact i1)) j1
def Over (ns : List Nod) (t : List UInt8) (s : List Wy) (M : Int) : Prop:=∀ c hs,Stk ns t s c hs → M < c
theorem Over.stk {s : List Wy} {M : Int} {c : Nat} {hs : List Pt} (h : Over ns t s M) (k : Stk ns t s c hs) (hc : (c : Int) ≤ M) : False:=by have:=h c hs k;omega
theorem Over.step {tk : Tsk} {r : List Tsk} {p : Pt} {s : List Wy} {M : Int} (h : Over ns t ((nexts ns t tk p).map (ahead r) ++ s) (M - 1)) : Over ns t ((tk :: r,p) :: s) M:=fun c hs k => by
 cases k with | step _ _ _ k => have:=h _ _ k;omega
theorem Over.zero {tk : Tsk} {r : List Tsk} {p : Pt} {s : List Wy} {M : Int} (h : M < 1) : Over ns t ((tk :: r,p) :: s) M:=fun c hs k => by
 cases k with | step _ _ _ k => omega
theorem Over.hit {p : Pt} {s : List Wy} {M : Int} (h : Over ns t s M) : Over ns t (([],p) :: s) M:=fun c hs k => by
 cases k with | hit _ k => exact h _ _ k
theorem Over.left {a b : List Wy} {M : Int} (h : Over ns t a M) : Over ns t (a ++ b) M:=fun c hs k => by
 obtain ⟨c1,c2,h1,h2,rfl,rfl,k1,k2⟩:=k.split a b rfl
 have:=h _ _ k1;omega
theorem Over.right {a b : List Wy} {M : Int} {c : Nat} {hs : List Pt} (k : Stk ns t a c hs) (h : Over ns t b (M - c)) : Over ns t (a ++ b) M:=fun d ks j => by
 obtain ⟨c1,c2,h1,h2,rfl,rfl,k1,k2⟩:=j.split a b rfl
 obtain ⟨rfl,rfl⟩:=k.det k1
 have:=h _ _ k2;omega
theorem Over.perm {a b : List Wy} {M : Int} (e : a.Perm b) (h : Over ns t a M) : Over ns t b M:=fun c hs k => by
 obtain ⟨ks,_,k2⟩:=Stk.perm e.symm k
 exact h _ _ k2
theorem Stk.mem (hk : ∀ tk,KindOK ns tk) {s : List Wy} {c : Nat} {hs : List Pt} (h : Stk ns t s c hs) (q : Pt) : q ∈ hs ↔ ∃ w ∈ s,Way ns t w.1 w.2 q:=by
 induction h with
 | nil => simp
 | @hit p s c hs _ ih =>
  simp only [List.mem_cons,ih,exists_eq_or_imp]
  constructor
  · rintro (rfl | h)
    · exact .inl (.done q)
    · exact .inr h
  · rintro (h | h)
    · cases h;exact .inl rfl
    · exact .inr h
 | @step tk r p s c hs _ ih =>
  rw [ih]
  simp only [List.mem_append,List.mem_map,List.mem_cons]
  constructor
  · rintro ⟨w,(⟨⟨a,m⟩,h1,rfl⟩ | h1),h2⟩
    · exact ⟨_,.inl rfl,.step ((nexts_mem (hk tk)).1 h1) h2⟩
    · exact ⟨w,.inr h1,h2⟩
  · rintro ⟨w,(rfl | h1),h2⟩
    · cases h2 with
      | step h3 h4 => exact ⟨_,.inl ⟨_,(nexts_mem (hk tk)).2 h3,rfl⟩,h4⟩
    · exact ⟨w,.inr h1,h2⟩
def dones : List Wy → Nat
 | [] => 0
 | w :: s => (if w.1 = [] then 1 else 0) + dones s
theorem dones_app (a b : List Wy) : dones (a ++ b) = dones a + dones b:=by
 induction a with
 | nil => simp [dones]
 | cons w a ih => simp only [List.cons_append,dones,ih];omega
theorem dones_next (tk : Tsk) (r : List Tsk) (p : Pt) : dones ((nexts ns t tk p).map (ahead r)) ≤ 1:=by
 have h0 : ∀ w : Wy,dones ([w].map (ahead r)) ≤ 1:=fun w => by simp only [List.map_cons,List.map_nil,dones];split <;> omega
 have hn : dones (([] : List Wy).map (ahead r)) ≤ 1:=by simp [dones]
 have h2 : ∀ (a b : Prop) [Decidable a] [Decidable b] (x : Tsk) (l : List Tsk) (m : Pt),dones (((if a then [(x :: l,p)] else []) ++ (if b then [(([] : List Tsk),m)] else [])).map (ahead r)) ≤ 1:=fun a b _ _ x l m => by
  rw [List.map_append,dones_app]
  have e1 : dones ((if a then [(x :: l,p)] else [] : List Wy).map (ahead r)) = 0:=by split <;> simp [dones,ahead]
  rw [e1,Nat.zero_add]
  split
  · exact h0 _
  · exact hn
 unfold nexts
 split
 · exact h0 _
 · split
   · split
     · exact h0 _
     · exact hn
   · exact h2 _ _ _ _ _
 · split
   · split
     · split
       · exact h0 _
       · exact hn
     · exact hn
   split
   · exact h0 _
   split
   · simp [dones,ahead]
   split
   · exact h2 _ _ _ _ _
   split
   · exact h0 _
   split
   · split
     · exact h0 _
     · exact hn
   split
   · split
     · exact h0 _
     · exact hn
   split
   · split
     · exact h0 _
     · exact hn
   · exact h0 _
theorem Stk.few {s : List Wy} {c : Nat} {hs : List Pt} (h : Stk ns t s c hs) : hs.length ≤ c + dones s:=by
 induction h with
 | nil => simp
 | hit p _ ih => simp only [List.length_cons,dones,if_true];omega
 | @step tk r p s c hs _ ih =>
  have:=dones_next (ns:=ns) (t:=t) tk r p
  rw [dones_app] at ih
  simp only [dones,reduceCtorEq,if_false]
  omega
end
end Go.Proofs.Ytbdfhmefjfaofaa
