/- Contracts and plain facts: M12. -/
import Derived.Test.YtbdfhmefjfaofaaM11
set_option linter.unusedVariables false
set_option linter.unusedSimpArgs false
set_option maxRecDepth 100000
set_option maxHeartbeats 32000000
namespace Go.Proofs.Ytbdfhmefjfaofaa
open Go.RowKit
def pt0 (i : Nat) : Pt:=⟨i,fun _ => (-1,-1)⟩
def hitS (a : Nat) (q : Pt) : Spn:=setSp q.sp 0 ((a : Int),(q.i : Int))
theorem hitS_0 (a : Nat) (q : Pt) : hitS a q 0 = ((a : Int),(q.i : Int)):=by unfold hitS setSp;rw [if_pos rfl]
theorem hitS_g (a : Nat) (q : Pt) {g : Nat} (h : 1 ≤ g) : hitS a q g = q.sp g:=by unfold hitS setSp;rw [if_neg (by omega)]
theorem pt0_lies (i : Nat) (a g : Int) : Lies a g (pt0 i):=fun _ => .inl rfl
theorem bestF_none {l : List Spn} : bestF none l = none ↔ l = []:=by
 cases l with
 | nil => exact ⟨fun _ => rfl,fun _ => rfl⟩
 | cons x r =>
  rw [bestF]
  obtain ⟨m,hm⟩:=bestF_some r x
  rw [hm]
  constructor <;> intro h <;> cases h
theorem bestF_in {l : List Spn} {m : Spn} (h : bestF none l = some m) : m ∈ l:=by
 cases l with
 | nil => cases h
 | cons x r =>
  rw [bestF] at h
  rcases bestF_mem r x m h with rfl | h
  · exact List.mem_cons_self
  · exact List.mem_cons_of_mem _ h
def Spans (a g e : Int) (m : Spn) : Prop:=(m 0).1 = a ∧ a ≤ (m 0).2 ∧ (m 0).2 ≤ e ∧ ∀ k,1 ≤ k → m k = (-1,-1) ∨ ((k : Int) ≤ g ∧ a ≤ (m k).1 ∧ (m k).1 ≤ (m k).2 ∧ (m k).2 ≤ (m 0).2)
section
variable {ns : List Nod} {t : List UInt8} {g : Int}
theorem lies_spans {a : Nat} {q : Pt} (h : Lies a g q) (h1 : a ≤ q.i) (h2 : q.i ≤ t.length) : Spans a g t.length (hitS a q):=by
 unfold Spans
 rw [hitS_0]
 refine ⟨rfl,by show (a : Int) ≤ (q.i : Int);omega,by show (q.i : Int) ≤ _;omega,fun k hk => ?_⟩
 rw [hitS_g a q hk]
 rcases h k with h | ⟨⟨_,h3⟩,h4,h5,h6⟩
 · exact .inl h
 · exact .inr ⟨h3,h4,h5,h6⟩
theorem rel_hit (hr : Rt ns g) {n : Int} (h0 : 0 ≤ n) (h1 : n < ns.length) {a : Nat} {q : Pt} (h : Rel ns t (.node n) (pt0 a) q) : Lies a g q ∧ a ≤ q.i ∧ (a ≤ t.length → q.i ≤ t.length) :=
 ⟨h.lies hr ⟨h0,h1⟩ (Int.le_refl _) (pt0_lies a a g),h.le.1,h.le.2⟩
theorem hit_same {a : Nat} {p q : Pt} (hg : g ≤ 9) (h1 : Lies a g p) (h2 : Lies a g q) (h : same10 (hitS a p) (hitS a q)) : p = q:=by
 have e0:=h 0 (by omega)
 rw [hitS_0,hitS_0,Prod.mk.injEq] at e0
 have e1 : p.sp = q.sp:=by
  funext k
  by_cases hk : k < 10
  · cases k with
    | zero => rw [h1.zero,h2.zero]
    | succ k =>
     have:=h (k + 1) hk
     rwa [hitS_g a p (by omega),hitS_g a q (by omega)] at this
  · rw [h1.ten hg k (by omega),h2.ten hg k (by omega)]
 obtain ⟨i,s⟩:=p
 obtain ⟨j,u⟩:=q
 have e2 : i = j:=by have:=e0.2;simp at this;omega
 have e3 : s = u:=e1
 rw [e2,e3]
theorem hits_of (hr : Rt ns g) {n : Int} (h0 : 0 ≤ n) (h1 : n < ns.length) {a : Nat} {l : List Pt} (h : ∀ q ∈ l,Rel ns t (.node n) (pt0 a) q) : Hits (a : Int) (l.map (hitS a)):=fun x hx => by
 obtain ⟨q,hq,rfl⟩:=List.mem_map.1 hx
 obtain ⟨hl,h2,_⟩:=rel_hit hr h0 h1 (h q hq)
 refine ⟨fun k => ?_,by rw [hitS_0]⟩
 cases k with
 | zero => rw [hitS_0];intro hk;exact absurd hk (by show ¬ ((a : Int) < 0);omega)
 | succ k => rw [hitS_g a q (by omega)];exact hl.good (by omega) _
theorem best_eq (hr : Rt ns g) {n : Int} (h0 : 0 ≤ n) (h1 : n < ns.length) {a : Nat} {l k : List Pt} (h : ∀ q ∈ l,Rel ns t (.node n) (pt0 a) q) (hm : ∀ q,q ∈ l ↔ q ∈ k) : bestF none (l.map (hitS a)) = bestF none (k.map (hitS a)):=by
 have hk : ∀ q ∈ k,Rel ns t (.node n) (pt0 a) q:=fun q hq => h q ((hm q).2 hq)
 cases e1 : bestF none (l.map (hitS a)) with
 | none =>
  have:=bestF_none.1 e1
  rw [List.map_eq_nil_iff] at this
  subst this
  have : k = []:=by
   cases k with
   | nil => rfl
   | cons x r => exact absurd ((hm x).2 List.mem_cons_self) (by simp)
  rw [this];rfl
 | some m =>
  cases e2 : bestF none (k.map (hitS a)) with
  | none =>
   have:=bestF_none.1 e2
   rw [List.map_eq_nil_iff] at this
   subst this
   obtain ⟨q,hq,_⟩:=List.mem_map.1 (bestF_in e1)
   exact absurd ((hm q).1 hq) (by simp)
  | some m' =>
   have hs:=best_one (hits_of hr h0 h1 h) (hits_of hr h0 h1 hk) (fun x hx => ?_) (fun y hy => ?_) e1 e2
   · obtain ⟨p,hp,rfl⟩:=List.mem_map.1 (bestF_in e1)
     obtain ⟨q,hq,rfl⟩:=List.mem_map.1 (bestF_in e2)
     rw [hit_same hr.2.1 (rel_hit hr h0 h1 (h p hp)).1 (rel_hit hr h0 h1 (hk q hq)).1 hs]
   · obtain ⟨q,hq,rfl⟩:=List.mem_map.1 hx
     exact ⟨_,List.mem_map.2 ⟨q,(hm q).1 hq,rfl⟩,fun _ _ => rfl⟩
   · obtain ⟨q,hq,rfl⟩:=List.mem_map.1 hy
     exact ⟨_,List.mem_map.2 ⟨q,(hm q).2 hq,rfl⟩,fun _ _ => rfl⟩
theorem stk_rel (hr : Rt ns g) {n : Int} {p : Pt} {c : Nat} {hs : List Pt} (h : Stk ns t [([.node n],p)] c hs) (q : Pt) : q ∈ hs ↔ Rel ns t (.node n) p q:=by
 rw [h.mem hr.kind]
 constructor
 · rintro ⟨w,hw,h1⟩
   simp only [List.mem_singleton] at hw
   subst hw
   exact way_iff.1 h1
 · intro h1
   exact ⟨_,List.mem_singleton.2 rfl,way_iff.2 h1⟩
theorem stk_best (hr : Rt ns g) {n : Int} (h0 : 0 ≤ n) (h1 : n < ns.length) {a c : Nat} {hs l : List Pt} (h : Stk ns t [([.node n],pt0 a)] c hs) (hl : ∀ q,q ∈ l ↔ Rel ns t (.node n) (pt0 a) q) : bestF none (hs.map (hitS a)) = bestF none (l.map (hitS a)) :=
 best_eq hr h0 h1 (fun q hq => (stk_rel hr h q).1 hq) fun q => (stk_rel hr h q).trans (hl q).symm
theorem perm_best (hr : Rt ns g) {n : Int} (h0 : 0 ≤ n) (h1 : n < ns.length) {a c : Nat} {hs ks : List Pt} (h : Stk ns t [([.node n],pt0 a)] c hs) (e : hs.Perm ks) : bestF none (hs.map (hitS a)) = bestF none (ks.map (hitS a)) :=
 best_eq hr h0 h1 (fun q hq => (stk_rel hr h q).1 hq) fun q => e.mem_iff
theorem stk_spans (hr : Rt ns g) {n : Int} (h0 : 0 ≤ n) (h1 : n < ns.length) {a c : Nat} (ha : a ≤ t.length) {hs : List Pt} (h : Stk ns t [([.node n],pt0 a)] c hs) {m : Spn} (hm : bestF none (hs.map (hitS a)) = some m) : Spans a g t.length m:=by
 obtain ⟨q,hq,rfl⟩:=List.mem_map.1 (bestF_in hm)
 obtain ⟨h2,h3,h4⟩:=rel_hit hr h0 h1 ((stk_rel hr h q).1 hq)
 exact lies_spans h2 h3 (h4 ha)
theorem stk_one {n : Int} {p : Pt} {c : Nat} {hs : List Pt} (h : Stk ns t [([.node n],p)] c hs) : 1 ≤ c:=by cases h;omega
theorem bestF_app : ∀ (l k : List Spn) (o : Option Spn),bestF o (l ++ k) = bestF (bestF o l) k
 | [],k,o => by cases o <;> rfl
 | x :: l,k,none => by rw [List.cons_append,bestF,bestF];exact bestF_app l k _
 | x :: l,k,some b => by rw [List.cons_append,bestF,bestF];exact bestF_app l k _
end
inductive Told11 (ns : List Nod) (t : List UInt8) (n : Int) (a : Nat) (M : Int) : Option (Option Spn × Int) → Prop
 | fin {c : Nat} {hs : List Pt} (h : Stk ns t [([.node n],pt0 a)] c hs) (hc : (c : Int) ≤ M) : Told11 ns t n a M (some (bestF none (hs.map (hitS a)),M - c))
 | over (h : Over ns t [([.node n],pt0 a)] M) : Told11 ns t n a M none
theorem Told11.det {ns : List Nod} {t : List UInt8} {n : Int} {a : Nat} {M : Int} {x y : Option (Option Spn × Int)} (h : Told11 ns t n a M x) (k : Told11 ns t n a M y) : x = y:=by
 cases h with
 | fin h hc =>
  cases k with
  | fin k kc => obtain ⟨rfl,rfl⟩:=h.det k;rfl
  | over k => exact (k.stk h hc).elim
 | over h =>
  cases k with
  | fin k kc => exact (h.stk k kc).elim
  | over k => rfl
theorem Told11.more {ns : List Nod} {t : List UInt8} {n : Int} {a : Nat} {M l : Int} {b : Option Spn} (h : Told11 ns t n a M (some (b,l))) (M' : Int) : (M - l ≤ M' → Told11 ns t n a M' (some (b,M' - (M - l)))) ∧ (M' < M - l → Told11 ns t n a M' none) ∧ 1 ≤ M - l:=by
 cases h with
 | @fin c hs h hc =>
  refine ⟨fun h1 => ?_,fun h1 => .over fun d ks k => ?_,?_⟩
  · rw [show M' - (M - (M - (c : Int))) = M' - c by omega]
    exact .fin h (by omega)
  · obtain ⟨rfl,_⟩:=h.det k;omega
  · have:=stk_one h;omega
section
variable {ns : List Nod} {t : List UInt8} {n : Int} {p q : Pt}
theorem rel_empty (h : (ndA ns n).kind = 0) : Rel ns t (.node n) p q ↔ q = p:=by
 constructor
 · intro k;cases k <;> first | rfl | (exfalso;omega)
 · rintro rfl;exact .empty n _ h
theorem rel_set (h : (ndA ns n).kind = 1) : Rel ns t (.node n) p q ↔ ∃ c,t[p.i]? = some c ∧ (ndA ns n).set c.toNat = true ∧ q = ⟨p.i + 1,p.sp⟩:=by
 constructor
 · intro k;cases k <;> first | exact ⟨_,by assumption,by assumption,rfl⟩ | (exfalso;omega)
 · rintro ⟨c,h1,h2,rfl⟩;exact .set n p c h h1 h2
theorem rel_cat (h : (ndA ns n).kind = 2) : Rel ns t (.node n) p q ↔ ∃ m,Rel ns t (.node (ndA ns n).a) p m ∧ Rel ns t (.node (ndA ns n).b) m q:=by
 constructor
 · intro k;cases k <;> first | exact ⟨_,by assumption,by assumption⟩ | (exfalso;omega)
 · rintro ⟨m,h1,h2⟩;exact .cat n h h1 h2
theorem rel_alt (h : (ndA ns n).kind = 3) : Rel ns t (.node n) p q ↔ Rel ns t (.node (ndA ns n).a) p q ∨ Rel ns t (.node (ndA ns n).b) p q:=by
 constructor
 · intro k
   cases k with
   | altA _ _ k => exact .inl k
   | altB _ _ k => exact .inr k
   | _ => exfalso;omega
 · rintro (h1 | h1)
   · exact .altA n h h1
   · exact .altB n h h1
theorem rel_rep (h : (ndA ns n).kind = 4) : Rel ns t (.node n) p q ↔ Rel ns t (.more n 0) p q:=by
 constructor
 · intro k;cases k <;> first | assumption | (exfalso;omega)
 · exact .rep n h
theorem rel_grp (h : (ndA ns n).kind = 5) : Rel ns t (.node n) p q ↔ ∃ m,Rel ns t (.node (ndA ns n).a) p m ∧ q = ⟨m.i,setSp m.sp (ndA ns n).grp.toNat ((p.i : Int),(m.i : Int))⟩:=by
 constructor
 · intro k
   cases k with
   | group _ _ k => exact ⟨_,k,rfl⟩
   | _ => exfalso;omega
 · rintro ⟨m,h1,rfl⟩;exact .group n h h1
theorem rel_back (h : (ndA ns n).kind = 6) : Rel ns t (.node n) p q ↔ ∃ j,backAt t (p.sp (ndA ns n).grp.toNat) p.i = some j ∧ q = ⟨j,p.sp⟩:=by
 constructor
 · intro k
   cases k with
   | back _ _ j _ hb => exact ⟨j,hb,rfl⟩
   | _ => exfalso;omega
 · rintro ⟨j,h1,rfl⟩;exact .back n p j h h1
theorem rel_bol (h : (ndA ns n).kind = 7) : Rel ns t (.node n) p q ↔ p.i = 0 ∧ q = p:=by
 constructor
 · intro k
   cases k with
   | bol _ _ _ hp => exact ⟨hp,rfl⟩
   | _ => exfalso;omega
 · rintro ⟨h1,rfl⟩;exact .bol n _ h h1
theorem rel_eol (h : (ndA ns n).kind = 8) : Rel ns t (.node n) p q ↔ p.i = t.length ∧ q = p:=by
 constructor
 · intro k
   cases k with
   | eol _ _ _ hp => exact ⟨hp,rfl⟩
   | _ => exfalso;omega
 · rintro ⟨h1,rfl⟩;exact .eol n _ h h1
theorem stk_cat (hk : (ndA ns n).kind = 2) {c : Nat} {hs : List Pt} (h : Stk ns t [([.node n],p)] c hs) : (∃ c' ks,c' < c ∧ Stk ns t [([.node (ndA ns n).a],p)] c' ks) ∧ ∀ m,Rel ns t (.node (ndA ns n).a) p m → ∃ c' ks,c' < c ∧ Stk ns t [([.node (ndA ns n).b],m)] c' ks:=by
 cases h with
 | @step _ _ _ _ c _ k =>
  have e : (nexts ns t (.node n) p).map (ahead []) ++ [] = [([.node (ndA ns n).a,.node (ndA ns n).b],p)]:=by simp [nexts,hk,ahead]
  rw [e] at k
  obtain ⟨c1,c2,h1,rfl,k1,k2⟩:=k.front [([.node (ndA ns n).a],p)] [.node (ndA ns n).b] rfl
  refine ⟨⟨c1,h1,by omega,k1⟩,fun m hm => ?_⟩
  have hw : Way ns t [.node (ndA ns n).a] p m:=way_iff.2 hm
  have hq : m ∈ h1:=by
   have go : ∀ {s : List Wy} {c : Nat} {hs : List Pt},Stk ns t s c hs → ∀ w ∈ s,Way ns t w.1 w.2 m → (∀ tk p ah m,Stp ns t tk p ah m → (ah,m) ∈ nexts ns t tk p) → m ∈ hs:=fun {s c hs} h => by
    induction h with
    | nil => intro w hw;cases hw
    | hit p _ ih =>
     intro w hw h1 h2
     rcases List.mem_cons.1 hw with rfl | hw
     · cases h1;exact List.mem_cons_self
     · exact List.mem_cons_of_mem _ (ih w hw h1 h2)
    | step tk r p _ ih =>
     intro w hw h1 h2
     rcases List.mem_cons.1 hw with rfl | hw
     · cases h1 with
       | step h3 h4 => exact ih _ (List.mem_append_left _ (List.mem_map.2 ⟨_,h2 _ _ _ _ h3,rfl⟩)) h4 h2
     · exact ih w (List.mem_append_right _ hw) h1 h2
   refine go k1 _ List.mem_cons_self hw fun tk p ah m h => ?_
   by_cases hK : KindOK ns tk
   · exact (nexts_mem hK).2 h
   · exfalso
     apply hK
     cases h <;> simp_all [KindOK]
  obtain ⟨c',ks,h2,h3,_⟩:=k2.has (List.mem_map.2 ⟨m,hq,rfl⟩)
  exact ⟨c',ks,by omega,h3⟩
theorem stk_alt (hk : (ndA ns n).kind = 3) {c : Nat} {hs : List Pt} (h : Stk ns t [([.node n],p)] c hs) : (∃ c' ks,c' < c ∧ Stk ns t [([.node (ndA ns n).a],p)] c' ks) ∧ ∃ c' ks,c' < c ∧ Stk ns t [([.node (ndA ns n).b],p)] c' ks:=by
 cases h with
 | @step _ _ _ _ c _ k =>
  have e : (nexts ns t (.node n) p).map (ahead []) ++ [] = [([.node (ndA ns n).a],p),([.node (ndA ns n).b],p)]:=by simp [nexts,hk,ahead]
  rw [e] at k
  obtain ⟨c1,k1,h1,h2,_⟩:=k.has (w:=([.node (ndA ns n).a],p)) (by simp)
  obtain ⟨c2,k2,h3,h4,_⟩:=k.has (w:=([.node (ndA ns n).b],p)) (by simp)
  exact ⟨⟨c1,k1,by omega,h2⟩,c2,k2,by omega,h4⟩
theorem stk_grp (hk : (ndA ns n).kind = 5) {c : Nat} {hs : List Pt} (h : Stk ns t [([.node n],p)] c hs) : ∃ c' ks,c' < c ∧ Stk ns t [([.node (ndA ns n).a],p)] c' ks:=by
 cases h with
 | @step _ _ _ _ c _ k =>
  have e : (nexts ns t (.node n) p).map (ahead []) ++ [] = [([.node (ndA ns n).a,.gend (ndA ns n).grp p.i],p)]:=by simp [nexts,hk,ahead]
  rw [e] at k
  obtain ⟨c1,c2,h1,rfl,k1,k2⟩:=k.front [([.node (ndA ns n).a],p)] [.gend (ndA ns n).grp p.i] rfl
  exact ⟨c1,h1,by omega,k1⟩
def Rch (ns : List Nod) (t : List UInt8) (n : Int) (p : Pt) (l : List Pt) : Prop:=l.Nodup ∧ ∀ q,q ∈ l ↔ Rel ns t (.node n) p q
theorem Rch.len {g : Int} (hr : Rt ns g) {l : List Pt} (hl : Rch ns t n p l) {c : Nat} {hs : List Pt} (h : Stk ns t [([.node n],p)] c hs) : l.length ≤ c:=by
 have h1:=nodup_few hl.1 fun x hx => (stk_rel hr h x).2 ((hl.2 x).1 hx)
 have h2:=h.few
 simp [dones] at h2
 omega
theorem some_len {g : Int} (hr : Rt ns g) {l : List Pt} (hn : l.Nodup) (hl : ∀ q ∈ l,Rel ns t (.node n) p q) {c : Nat} {hs : List Pt} (h : Stk ns t [([.node n],p)] c hs) : l.length ≤ c:=by
 have h1:=nodup_few hn fun x hx => (stk_rel hr h x).2 (hl x hx)
 have h2:=h.few
 simp [dones] at h2
 omega
def Emit (ns : List Nod) (t : List UInt8) (n : Int) (k : Nat) (m q : Pt) : Prop:=((ndA ns n).lo ≤ (k : Int) ∧ q = m) ∨ (((ndA ns n).hi = -1 ∨ (k : Int) < (ndA ns n).hi) ∧ Rel ns t (.node (ndA ns n).a) m q ∧ q.i = m.i ∧ (k : Int) < (ndA ns n).lo)
theorem more_emit : Rel ns t (.more n 0) p q ↔ ∃ k m,It ns t n p k m ∧ Emit ns t n k m q:=more_iff
theorem It.back {j : Nat} (h : It ns t n p j q) : ∀ i,i ≤ j → ∃ m,It ns t n p i m:=by
 induction h with
 | zero => intro i hi;exact ⟨p,by rw [show i = 0 by omega];exact .zero⟩
 | @succ k m q h hk h1 he ih =>
  intro i hi
  rcases Nat.lt_or_ge i (k + 1) with h2 | h2
  · exact ih i (by omega)
  · exact ⟨q,by rw [show i = k + 1 by omega];exact .succ h hk h1 he⟩
structure Tim (ns : List Nod) (t : List UInt8) (n : Int) (p : Pt) (k : Nat) (now out : List Pt) : Prop where
 nn : now.Nodup
 nm : ∀ q,q ∈ now ↔ It ns t n p k q
 on : out.Nodup
 om : ∀ q,q ∈ out ↔ ∃ j m,j < k ∧ It ns t n p j m ∧ Emit ns t n j m q
theorem Tim.zero : Tim ns t n p 0 [p] [] where
 nn:=by simp
 nm q:=by
  constructor
  · intro h
    simp only [List.mem_singleton] at h
    subst h
    exact .zero
  · intro h;cases h;simp
 on:=by simp
 om q:=by
  constructor
  · intro h;cases h
  · rintro ⟨j,m,h,_⟩;omega
theorem Tim.dry {k : Nat} {out : List Pt} (h : Tim ns t n p k [] out) : ∀ q,q ∈ out ↔ Rel ns t (.more n 0) p q:=fun q => by
 rw [h.om,more_emit]
 constructor
 · rintro ⟨j,m,_,h1,h2⟩;exact ⟨j,m,h1,h2⟩
 · rintro ⟨j,m,h1,h2⟩
   refine ⟨j,m,?_,h1,h2⟩
   rcases Nat.lt_or_ge j k with h3 | h3
   · exact h3
   · obtain ⟨m',h4⟩:=h1.back k h3
     exact absurd ((h.nm m').2 h4) (by simp)
theorem Tim.top {k : Nat} {now out out' : List Pt} (h : Tim ns t n p k now out) (hh : 0 ≤ (ndA ns n).hi) (hk : (ndA ns n).hi ≤ (k : Int)) (ho : ∀ q,q ∈ out' ↔ q ∈ out ∨ ((ndA ns n).lo ≤ (k : Int) ∧ q ∈ now)) : ∀ q,q ∈ out' ↔ Rel ns t (.more n 0) p q:=fun q => by
 rw [ho,h.om,h.nm,more_emit]
 constructor
 · rintro (⟨j,m,_,h1,h2⟩ | ⟨h1,h2⟩)
   · exact ⟨j,m,h1,h2⟩
   · exact ⟨k,q,h2,.inl ⟨h1,rfl⟩⟩
 · rintro ⟨j,m,h1,h2⟩
   rcases Nat.lt_or_ge j k with h3 | h3
   · exact .inl ⟨j,m,h3,h1,h2⟩
   · have h4:=h1.few
     have : j = k:=by omega
     subst this
     rcases h2 with ⟨h5,rfl⟩ | ⟨h5,_⟩
     · exact .inr ⟨h5,h1⟩
     · omega
theorem Tim.next {k : Nat} {now out out' next : List Pt} (h : Tim ns t n p k now out) (hk : (ndA ns n).hi = -1 ∨ (k : Int) < (ndA ns n).hi) (hn : next.Nodup) (ho' : out'.Nodup)
    (hm : ∀ q,q ∈ next ↔ ∃ m ∈ now,Rel ns t (.node (ndA ns n).a) m q ∧ q.i ≠ m.i)
    (ho : ∀ q,q ∈ out' ↔ (q ∈ out ∨ ((ndA ns n).lo ≤ (k : Int) ∧ q ∈ now)) ∨ ((k : Int) < (ndA ns n).lo ∧ ∃ m ∈ now,Rel ns t (.node (ndA ns n).a) m q ∧ q.i = m.i)) : Tim ns t n p (k + 1) next out' where
 nn:=hn
 nm q:=by
  rw [hm]
  constructor
  · rintro ⟨m,h1,h2,h3⟩;exact .succ ((h.nm m).1 h1) hk h2 h3
  · intro h1
    cases h1 with
    | succ h1 _ h2 h3 => exact ⟨_,(h.nm _).2 h1,h2,h3⟩
 on:=ho'
 om q:=by
  rw [ho,h.om,h.nm]
  constructor
  · rintro ((⟨j,m,h1,h2,h3⟩ | ⟨h1,h2⟩) | ⟨h1,m,h2,h3,h4⟩)
    · exact ⟨j,m,by omega,h2,h3⟩
    · exact ⟨k,q,by omega,h2,.inl ⟨h1,rfl⟩⟩
    · exact ⟨k,m,by omega,(h.nm m).1 h2,.inr ⟨hk,h3,h4,h1⟩⟩
  · rintro ⟨j,m,h1,h2,h3⟩
    rcases Nat.lt_or_ge j k with h4 | h4
    · exact .inl (.inl ⟨j,m,h4,h2,h3⟩)
    · have : j = k:=by omega
      subst this
      rcases h3 with ⟨h5,rfl⟩ | ⟨h5,h6,h7,h8⟩
      · exact .inl (.inr ⟨h5,h2⟩)
      · exact .inr ⟨h8,m,(h.nm m).2 h2,h6,h7⟩
end
end Go.Proofs.Ytbdfhmefjfaofaa
