/- Contracts and plain facts: M55. -/
import Derived.Test.YtbdfhmefjfaofaaM54
import Derived.Test.YtbdfhmefjfaofaaM43
set_option linter.unusedVariables false
set_option linter.unusedSimpArgs false
set_option maxRecDepth 100000
set_option maxHeartbeats 32000000
namespace Go.Proofs.Ytbdfhmefjfaofaa
open Go.RowKit
theorem right_n1 {ns : List Nod} {g : Int} (h : rightN ns g = true) : 1 ≤ ns.length ∧ ns.length ≤ 1000:=by
 unfold rightN at h
 simp only [Bool.and_eq_true,decide_eq_true_eq] at h
 omega
theorem AtIn.thru {w : World} {B : Nat} {A : Option Addr} {n c : Nat} {A2 : Option Addr} {n2 c2 : Nat} {ns : List Nod} {t : List UInt8} {g : Int} (h : AtIn w B A n c A2 n2 c2 ns t) (hr : rightN ns g = true) : Thru w B A n c A2 n2 c2 ns t g :=
 have h1:=right_n1 hr
 ⟨h.hn,h.hnc,h.hcm,h.nods,h.hn2,h.hnc2,h.hcm2,h.hl2,h.byt,h.base,right_rt hr,by rw [h.hn];exact h1.2,by rw [h.hn];exact h1.1⟩
theorem told_fin {ns : List Nod} {t : List UInt8} {n : Int} {a : Nat} {M left : Int} {b : Option Spn} (h : Told11 ns t n a M (some (b,left))) : ∃ c hs,Stk ns t [([.node n],pt0 a)] c hs ∧ (c : Int) ≤ M ∧ b = bestF none (hs.map (hitS a)):=by
 generalize ho : some (b,left) = o at h
 cases h with
 | fin h hc =>
  simp only [Option.some.injEq,Prod.mk.injEq] at ho
  exact ⟨_,_,h,hc,ho.1⟩
 | over h => cases ho
theorem rBest_told {w : World} {B : Nat} {A : Option Addr} {n c : Nat} {A2 : Option Addr} {n2 c2 : Nat} {ns : List Nod} {t : List UInt8} {g : Int} {a : Nat} {M left : Int} {b : Option Spn} (h : AtIn w B A n c A2 n2 c2 ns t) (hr : rightN ns g = true) (ha : a ≤ t.length) (hM : M ≤ 200000) (hT : Told11 ns t ((ns.length : Int) - 1) a M (some (b,left))) :
    Calls Try.prog 13 #[.agg #[.slice A n c,.int .i64 g],.slice A2 n2 c2,.int .i64 (a : Int)] w fun e w' => e = .returned (.tuple #[.agg (hitC (ansS b)),.bool b.isSome]) ∧ Below w.heap.size w w':=by
 obtain ⟨c0,hs,hst,hc,rfl⟩:=told_fin hT
 have hn1:=right_n1 hr
 refine (rBest_any (h.thru hr) ha (cost_bnd (right_rt hr) (nlr _)) ⟨c0,hs,hst,by omega⟩).mono ?_
 rintro e w' ⟨⟨l,hl,rfl⟩,hb⟩
 refine ⟨?_,hb⟩
 rw [stk_best (right_rt hr) (by omega) (by omega) hst hl.2]
 rfl
section
variable {ns : List Nod} {t : List UInt8} {g : Int} {a : Nat}
theorem no_kind4 (h : ns.countP (fun n => decide (n.kind = 4)) = 0) {i : Nat} (hi : i < ns.length) : (ndA ns (i : Int)).kind ≠ 4:=fun e => by
 rw [List.countP_eq_zero] at h
 have:=h (ns[i]'hi) (List.getElem_mem hi)
 rw [ndA_at (by simpa using hi)] at e
 exact this (by simpa using e)
theorem no_bin (h : ns.countP binN = 0) {i : Nat} (hi : i < ns.length) : ¬ ((ndA ns (i : Int)).kind = 2 ∨ (ndA ns (i : Int)).kind = 3):=fun e => by
 rw [List.countP_eq_zero] at h
 have:=h (ns[i]'hi) (List.getElem_mem hi)
 rw [ndA_at (by simpa using hi)] at e
 refine this ?_
 unfold binN
 rw [decide_eq_true_eq]
 simpa using e
theorem take_mono (f : Nod → Bool) {i j : Nat} (h : i ≤ j) : (ns.take i).countP f ≤ (ns.take j).countP f:=(List.Sublist.countP_le (List.take_sublist_take_left h))
theorem lv_pow (hR : rightN ns g = true) (h4 : ns.countP (fun n => decide (n.kind = 4)) = 0) : ∀ i,i < ns.length → LV ns i ≤ ((2 ^ (ns.take (i + 1)).countP binN : Nat) : Int):=by
 have hr:=right_rt hR
 intro i
 induction i using Nat.strongRecOn with
 | _ i ih =>
  intro hi
  have h0 : (0 : Int) ≤ (i : Int):=by omega
  have h1 : (i : Int) < ns.length:=by omega
  have one : ∀ k : Nat,(1 : Int) ≤ ((2 ^ k : Nat) : Int):=fun k => by have:=Nat.pow_pos (n:=k) (show 0 < 2 by decide);omega
  have mono : ∀ j,j < i → ((2 ^ (ns.take (j + 1)).countP binN : Nat) : Int) ≤ ((2 ^ (ns.take i).countP binN : Nat) : Int):=fun j hj => Int.ofNat_le.2 (Nat.pow_le_pow_right (by decide) (take_mono binN (by omega)))
  have up : ((2 ^ (ns.take i).countP binN : Nat) : Int) ≤ ((2 ^ (ns.take (i + 1)).countP binN : Nat) : Int):=Int.ofNat_le.2 (Nat.pow_le_pow_right (by decide) (take_mono binN (by omega)))
  have part : ∀ x : Int,0 ≤ x → x < i → LV ns x.toNat ≤ ((2 ^ (ns.take i).countP binN : Nat) : Int):=fun x x0 x1 => Int.le_trans (ih x.toNat (by omega) (by omega)) (mono _ (by omega))
  have hk:=(hr.2.2 (i : Int) h0 h1).1
  have hn4:=no_kind4 h4 hi
  have hk' : (ndA ns (i : Int)).kind = 1 ∨ (ndA ns (i : Int)).kind = 2 ∨ (ndA ns (i : Int)).kind = 3 ∨ (ndA ns (i : Int)).kind = 5 ∨ ((ndA ns (i : Int)).kind = 0 ∨ (ndA ns (i : Int)).kind = 6 ∨ (ndA ns (i : Int)).kind = 7 ∨ (ndA ns (i : Int)).kind = 8):=by omega
  have o1:=one ((ns.take (i + 1)).countP binN)
  rcases hk' with hk | hk | hk | hk | hk
  · have:=lv_1 h0 h1 hk
    rw [show ((i : Int)).toNat = i by omega] at this
    omega
  · have h:=lv_2 hr h0 h1 hk
    rw [show ((i : Int)).toNat = i by omega] at h
    obtain ⟨⟨a0,a1⟩,b0,b1⟩:=(hr.2.2 (i : Int) h0 h1).2.1 (.inl hk)
    have ha:=part _ a0 a1
    have hb:=part _ b0 b1
    have e : (ns.take (i + 1)).countP binN = (ns.take i).countP binN + 1:=by
     rw [List.take_add_one,List.getElem?_eq_getElem hi,List.countP_append]
     have : binN (ns[i]'hi) = true:=by
      rw [ndA_at (by simpa using hi)] at hk
      unfold binN
      rw [decide_eq_true_eq]
      exact .inl (by simpa using hk)
     simp [this]
    rw [e,Nat.pow_succ]
    omega
  · have h:=(lv_3 hr h0 h1 hk).1
    rw [show ((i : Int)).toNat = i by omega] at h
    obtain ⟨⟨a0,a1⟩,b0,b1⟩:=(hr.2.2 (i : Int) h0 h1).2.1 (.inr hk)
    have ha:=part _ a0 a1
    omega
  · have h:=lv_5 hr h0 h1 hk
    rw [show ((i : Int)).toNat = i by omega] at h
    obtain ⟨a0,a1⟩:=(hr.2.2 (i : Int) h0 h1).2.2.1 (.inr hk)
    have ha:=part _ a0 a1
    omega
  · have:=lv_0 h0 h1 hk
    rw [show ((i : Int)).toNat = i by omega] at this
    omega
theorem nine_chain (hR : rightN ns 9 = true) (hn : ns.length ≤ 12) (hl : 6 ≤ LV ns (ns.length - 1)) : ns.countP binN = 0:=by
 have h1:=few_parts (g:=9) hR
 rw [parts_sum] at h1
 have h2:=nine_groups (g:=9) hR
 have h3 : 1 ≤ ns.length:=(rightN_all hR).1.1
 rcases Nat.eq_zero_or_pos (ns.countP binN) with h | h
 · exact h
 · exfalso
   have h4 : ns.countP (fun n => decide (n.kind = 4)) = 0:=by omega
   have h5:=lv_pow hR h4 (ns.length - 1) (by omega)
   rw [show ns.length - 1 + 1 = ns.length by omega,List.take_length,show ns.countP binN = 1 by omega] at h5
   omega
def Strict13 (p : Pt) : Prop:=∀ k,p.sp k = (-1,-1) ∨ (p.sp k).1 < (p.sp k).2
def StrJ (ns : List Nod) (p q : Pt) : Job → Prop
 | .node n => 0 ≤ n → n < ns.length → 1 ≤ LV ns n.toNat → Strict13 p → Strict13 q
 | .more n k => 0 ≤ n → n < ns.length → (ndA ns n).kind = 4 → 1 ≤ LV ns (ndA ns n).a.toNat → Strict13 p → Strict13 q
theorem lv_rep (hR : rightN ns g = true) {n : Int} (h0 : 0 ≤ n) (h1 : n < ns.length) (hk : (ndA ns n).kind = 4) (hl : 1 ≤ LV ns n.toNat) : 1 ≤ LV ns (ndA ns n).a.toNat:=by
 have hr:=right_rt hR
 have h:=lv_4 hr h0 h1 hk
 obtain ⟨a0,a1⟩:=(hr.2.2 n h0 h1).2.2.1 (.inl hk)
 have h2:=(lv_low hR (ndA ns n).a.toNat (by omega)).1
 by_cases h3 : 0 < LV ns (ndA ns n).a.toNat
 · omega
 · rw [show LV ns (ndA ns n).a.toNat = 0 by omega,Int.mul_zero] at h
   omega
theorem rel_strict (hR : rightN ns g = true) (hb : ns.countP binN = 0) {j : Job} {p q : Pt} (h : Rel ns t j p q) : StrJ ns p q j:=by
 have hr:=right_rt hR
 have nb : ∀ n : Int,0 ≤ n → n < ns.length → ¬ ((ndA ns n).kind = 2 ∨ (ndA ns n).kind = 3):=fun n h0 h1 => by
  have:=no_bin hb (i:=n.toNat) (by omega)
  rwa [show ((n.toNat : Nat) : Int) = n by omega] at this
 induction h with
 | empty n p hk => exact fun _ _ _ h => h
 | set n p c hk hc hs => exact fun _ _ _ h k => h k
 | cat n hk _ _ _ _ => exact fun h0 h1 _ _ => absurd (.inl hk) (nb _ h0 h1)
 | altA n hk _ _ => exact fun h0 h1 _ _ => absurd (.inr hk) (nb _ h0 h1)
 | altB n hk _ _ => exact fun h0 h1 _ _ => absurd (.inr hk) (nb _ h0 h1)
 | rep n hk _ i1 => exact fun h0 h1 hl h => i1 h0 h1 hk (lv_rep hR h0 h1 hk hl) h
 | @group n p q hk k1 i1 =>
  intro h0 h1 hl h k
  obtain ⟨a0,a1⟩:=(hr.2.2 n h0 h1).2.2.1 (.inr hk)
  have h5:=lv_5 hr h0 h1 hk
  have hq:=i1 a0 (by omega) (by omega) h
  have h6:=rel_least hR a0 (by omega) k1
  show setSp q.sp (ndA ns n).grp.toNat ((p.i : Int),(q.i : Int)) k = _ ∨ (setSp q.sp (ndA ns n).grp.toNat ((p.i : Int),(q.i : Int)) k).1 < (setSp q.sp (ndA ns n).grp.toNat ((p.i : Int),(q.i : Int)) k).2
  unfold setSp
  by_cases e : k = (ndA ns n).grp.toNat
  · rw [if_pos e]
    right
    show (p.i : Int) < (q.i : Int)
    omega
  · rw [if_neg e]
    exact hq k
 | back n p j hk hb => exact fun _ _ _ h k => h k
 | bol n p hk hp => exact fun _ _ _ h => h
 | eol n p hk hp => exact fun _ _ _ h => h
 | stop n k p hl => exact fun _ _ _ _ h => h
 | same n k hh _ he hl i1 =>
  intro h0 h1 hk hl h
  obtain ⟨a0,a1⟩:=(hr.2.2 n h0 h1).2.2.1 (.inl hk)
  exact i1 a0 (by omega) hl h
 | on n k hh _ he _ i1 i2 =>
  intro h0 h1 hk hl h
  obtain ⟨a0,a1⟩:=(hr.2.2 n h0 h1).2.2.1 (.inl hk)
  exact i2 h0 h1 hk hl (i1 a0 (by omega) hl h)
theorem it_strict (hR : rightN ns g = true) (hb : ns.countP binN = 0) {n : Int} (h0 : 0 ≤ n) (h1 : n < ns.length) (hk : (ndA ns n).kind = 4) (hl : 1 ≤ LV ns (ndA ns n).a.toNat) {p q : Pt} {k : Nat} (h : It ns t n p k q) (hp : Strict13 p) : Strict13 q:=by
 obtain ⟨a0,a1⟩:=((right_rt hR).2.2 n h0 h1).2.2.1 (.inl hk)
 induction h with
 | zero => exact hp
 | succ _ _ h1' _ ih => exact rel_strict hR hb h1' a0 (by omega) hl ih
theorem few_str {l : List Pt} (hn : l.Nodup) (hl : ∀ q ∈ l,POK ns t g a q ∧ Strict13 q) (ht : t.length ≤ a + 5) (hg : g ≤ 9) (hg0 : 0 ≤ g) : l.length ≤ 500000000000:=by
 have hf:=few_code (a:=a) (r:=5) (o:=16) (G:=9) (fun x => digS a (x.1,x.2 - 1)) (fun x => x = (-1,-1) ∨ ((a : Int) ≤ x.1 ∧ x.1 < x.2 ∧ x.2 ≤ (a : Int) + 5)) ?_ ?_ hn fun p hp => ?_
 · exact Nat.le_trans hf (by decide)
 · rintro ⟨x1,x2⟩ ⟨y1,y2⟩ hx hy e
   unfold digS at e
   simp only at e hx hy
   rcases hx with hx | ⟨hx1,hx2,hx3⟩ <;> rcases hy with hy | ⟨hy1,hy2,hy3⟩
   · rw [hx,hy]
   · injection hx with e1 e2
     rw [if_pos (by omega),if_neg (by omega)] at e
     omega
   · injection hy with e1 e2
     rw [if_neg (by omega),if_pos (by omega)] at e
     omega
   · rw [if_neg (by omega),if_neg (by omega)] at e
     have:=tri_inj (x2 - 1 - a).toNat (by omega) (x1 - a).toNat (by omega) (y2 - 1 - a).toNat (by omega) (y1 - a).toNat (by omega) (by omega) (by omega) (by omega)
     rw [show x1 = y1 by omega,show x2 = y2 by omega]
 · rintro ⟨x1,x2⟩ hx
   unfold digS
   simp only at hx ⊢
   rcases hx with hx | ⟨hx1,hx2,hx3⟩
   · injection hx with e1 e2
     rw [if_pos (by omega)]
     omega
   · rw [if_neg (by omega)]
     exact tri_lt 4 (by decide) (x2 - 1 - a).toNat (by omega) (x1 - a).toNat (by omega) (by omega) (by omega)
 · obtain ⟨h,hs⟩:=hl p hp
   have h1:=h.lo
   have h2:=h.hi
   refine ⟨⟨h1,by have : p.i ≤ t.length:=h2;omega⟩,fun k => ⟨fun hk => ?_,fun hk => ?_⟩⟩
   · rcases h.lies k with h | ⟨-,q1,q2,q3⟩
     · exact .inl h
     · rcases hs k with h | hs
       · exact .inl h
       · exact .inr ⟨q1,hs,by have : p.i ≤ t.length:=h2;have q3' : (p.sp k).2 ≤ (p.i : Int):=q3;omega⟩
   · rcases h.lies k with h | ⟨⟨q0,q0'⟩,-⟩
     · exact h
     · exact absurd ⟨q0,by omega⟩ hk
def StrF (ns : List Nod) (t : List UInt8) (g : Int) (a : Nat) (n : Int) (p : Pt) : Prop:=(0 ≤ n ∧ n < ns.length) ∧ POK ns t g a p ∧ Strict13 p ∧ 1 ≤ LV ns n.toNat
theorem str_bnd (hR : rightN ns g = true) (hb : ns.countP binN = 0) (ht : t.length ≤ a + 5) : Bnd ns t (StrF ns t g a):=by
 have hr:=right_rt hR
 have nb : ∀ n : Int,0 ≤ n → n < ns.length → ¬ ((ndA ns n).kind = 2 ∨ (ndA ns n).kind = 3):=fun n h0 h1 => by
  have:=no_bin hb (i:=n.toNat) (by omega)
  rwa [show ((n.toNat : Nat) : Int) = n by omega] at this
 exact {
  cat:=fun {n p} hk ⟨hn,_⟩ => absurd (.inl hk) (nb n hn.1 hn.2)
  alt:=fun {n p} hk ⟨hn,_⟩ => absurd (.inr hk) (nb n hn.1 hn.2)
  grp:=fun {n p} hk ⟨hn,hp,hs,hl⟩ => by
   obtain ⟨a0,a1⟩:=(hr.2.2 n hn.1 hn.2).2.2.1 (.inr hk)
   have:=lv_5 hr hn.1 hn.2 hk
   exact ⟨⟨a0,by omega⟩,hp,hs,by omega⟩
  rep:=fun {n p} hk ⟨hn,hp,hs,hl⟩ k q hq hh => by
   obtain ⟨a0,a1⟩:=(hr.2.2 n hn.1 hn.2).2.2.1 (.inl hk)
   have h2:=lv_rep hR hn.1 hn.2 hk hl
   exact ⟨⟨a0,by omega⟩,POK.it hr hp hn hk hq,it_strict hR hb hn.1 hn.2 hk h2 hq hs,h2⟩
  few:=fun {n p} ⟨hn,hp,hs,hl⟩ l hnd hql => few_str hnd (fun q hq => ⟨hp.rel hr hn.1 hn.2 (hql q hq),rel_strict hR hb (hql q hq) hn.1 hn.2 hl hs⟩) ht hr.2.1 hr.1
  fewI:=fun {n p} hk ⟨hn,hp,hs,hl⟩ k l hnd hql => few_str hnd (fun q hq => ⟨POK.it hr hp hn hk (hql q hq),it_strict hR hb hn.1 hn.2 hk (lv_rep hR hn.1 hn.2 hk hl) (hql q hq) hs⟩) ht hr.2.1 hr.1 }
theorem beyond_bnd (hR : rightN ns g = true) (hn : ns.length ≤ 12) (ht : t.length ≤ 5) (ha : a ≤ t.length) (hl : (t.length : Int) - LV ns (ns.length - 1) < (a : Int)) : ∃ F,Bnd ns t F ∧ F ((ns.length : Int) - 1) (pt0 a):=by
 have hr:=right_rt hR
 have h1 : 1 ≤ ns.length:=(rightN_all hR).1.1
 have hp : POK ns t g a (pt0 a):=⟨nlr _,ha,pt0_lies _ _ _,fun _ hx => nomatch hx⟩
 by_cases hs : g ≤ 8 ∨ t.length ≤ a + 4
 · exact ⟨_,few_bnd hr ha (by omega) hs,⟨by omega,by omega⟩,hp⟩
 · have hg : g = 9:=by have:=hr.2.1;omega
   subst hg
   have hb:=nine_chain hR hn (by omega)
   exact ⟨_,str_bnd hR hb (by omega),⟨by omega,by omega⟩,hp,fun k => .inl rfl,by rw [show ((ns.length : Int) - 1).toNat = ns.length - 1 by omega];omega⟩
theorem rBest_beyond {w : World} {B : Nat} {A : Option Addr} {n c : Nat} {A2 : Option Addr} {n2 c2 : Nat} (h : AtIn w B A n c A2 n2 c2 ns t) (hR : rightN ns g = true) (hn : ns.length ≤ 12) (ht : t.length ≤ 5) (ha : a ≤ t.length) (hl : (t.length : Int) - LV ns (ns.length - 1) < (a : Int)) :
    Calls Try.prog 13 #[.agg #[.slice A n c,.int .i64 g],.slice A2 n2 c2,.int .i64 (a : Int)] w fun e w' => e = .returned (.tuple #[.agg (hitC (ansS none)),.bool false]) ∧ Below w.heap.size w w':=by
 obtain ⟨F,hF,hst⟩:=beyond_bnd hR hn ht ha hl
 have h1 : 1 ≤ ns.length:=(rightN_all hR).1.1
 refine (rBest_any (h.thru hR) ha hF hst).mono ?_
 rintro e w' ⟨⟨l,hl',rfl⟩,hb⟩
 have e0 : l = []:=by
  cases l with
  | nil => rfl
  | cons q r =>
   exfalso
   have hq:=(hl'.2 q).1 List.mem_cons_self
   exact none_beyond hR hl h1 (hq.le.2 ha) hq
 subst e0
 exact ⟨rfl,hb⟩
end
section
variable {ns : List Nod} {t : List UInt8} {g : Int}
theorem told_less {n : Int} {a : Nat} {M left : Int} {b : Option Spn} (h : Told11 ns t n a M (some (b,left))) : left ≤ M:=by
 generalize ho : (some (b,left) : Option (Option Spn × Int)) = o at h
 cases h with
 | fin h hc =>
  simp only [Option.some.injEq,Prod.mk.injEq] at ho
  omega
 | over h => cases ho
theorem last_lv (hR : rightN ns g = true) : lastP ns t g = (t.length : Int) - LV ns (ns.length - 1):=by
 have h1 : 1 ≤ ns.length:=(rightN_all hR).1.1
 unfold lastP leastNs
 rw [if_pos hR,lv_lt ns _ _ (by omega)]
theorem last_le (hR : rightN ns g = true) : lastP ns t g ≤ t.length:=by
 unfold lastP
 have:=(least_bounds (ns:=ns) (g:=g)).1
 omega
def Row12 (ns : List Nod) (t : List UInt8) (g : Int) (k : Nat) (e : Int) (rest : List Spn) : Prop :=
 ∃ M left,M ≤ 3000 ∧ All12 ns t ((ns.length : Int) - 1) (lastP ns t g) k e M (some (rest,left))
theorem Row12.head (hR : rightN ns g = true) {k : Nat} {e : Int} {s : Spn} {r : List Spn} (h : Row12 ns t g k e (s :: r)) : (k : Int) ≤ (s 0).1 ∧ (s 0).1 ≤ t.length:=by
 obtain ⟨M,left,-,h⟩:=h
 have hl:=last_le (t:=t) hR
 have h1 : 1 ≤ ns.length:=(rightN_all hR).1.1
 generalize hx : (some (s :: r,left) : Option (List Spn × Int)) = x at h
 induction h generalizing s r left with
 | over => cases hx
 | miss hl2 hT hr ih => have:=ih _ hx;omega
 | drop hl2 hT he hr ih => have:=ih _ hx;omega
 | @take a e M left2 s2 b r2 hl2 hT he hb hr ih =>
  have hs:=told_span (right_rt hR) h1 (by omega) hT
  cases r2 with
  | none => cases hx
  | some y =>
   simp only [Option.map_some,Option.some.injEq,Prod.mk.injEq,List.cons.injEq] at hx
   obtain ⟨⟨rfl,_⟩,_⟩:=hx
   have q1:=hs.1
   have q2:=hs.2.1
   have q3:=hs.2.2.1
   omega
 | ends => cases hx
inductive Stp12 (ns : List Nod) (t : List UInt8) (g : Int) (k : Nat) (e : Int) (rest : List Spn) (b : Option Spn) : Prop
 | none_ (hb : b = none) (hr : Row12 ns t g (k + 1) e rest)
 | old (s : Spn) (hb : b = some s) (hs : (s 0).2 ≤ e) (hk : (s 0).1 = (k : Int) ∧ (k : Int) ≤ (s 0).2) (hr : Row12 ns t g (k + 1) e rest)
 | next (s : Spn) (r : List Spn) (b' : Nat) (hb : b = some s) (hx : rest = s :: r) (hs : e < (s 0).2) (hk : (s 0).1 = (k : Int) ∧ (k : Int) ≤ (s 0).2 ∧ (s 0).2 ≤ t.length) (hb' : (b' : Int) = max ((k : Int) + 1) (s 0).2) (hr : Row12 ns t g b' (s 0).2 r)
 | done (hb : b = none) (hx : rest = []) (hr : Row12 ns t g (k + 1) e rest)
theorem Row12.step (hR : rightN ns g = true) (hn : ns.length ≤ 12) (ht : t.length ≤ 5) {k : Nat} {e : Int} {rest : List Spn} (h : Row12 ns t g k e rest) (hk : k ≤ t.length) {B : Nat} {A : Option Addr} {n c : Nat} {A2 : Option Addr} {n2 c2 : Nat} :
    ∃ b,Stp12 ns t g k e rest b ∧ ∀ w,AtIn w B A n c A2 n2 c2 ns t → Calls Try.prog 13 #[.agg #[.slice A n c,.int .i64 g],.slice A2 n2 c2,.int .i64 (k : Int)] w fun e w' => e = .returned (.tuple #[.agg (hitC (ansS b)),.bool b.isSome]) ∧ Below w.heap.size w w':=by
 obtain ⟨M,left,hM,h⟩:=h
 have h1 : 1 ≤ ns.length:=(rightN_all hR).1.1
 generalize hx : (some (rest,left) : Option (List Spn × Int)) = x at h
 cases h with
 | over => cases hx
 | miss hl2 hT hr =>
  subst hx
  exact ⟨none,.none_ rfl ⟨_,left,Int.le_trans (told_less hT) hM,hr⟩,fun w hw => rBest_told hw hR hk (by omega) hT⟩
 | @drop _ _ _ _ s _ hl2 hT he hr =>
  subst hx
  have hs:=told_span (right_rt hR) h1 hk hT
  exact ⟨some s,.old s rfl he ⟨hs.1,hs.2.1⟩ ⟨_,left,Int.le_trans (told_less hT) hM,hr⟩,fun w hw => rBest_told hw hR hk (by omega) hT⟩
 | @take _ _ _ _ s b r hl2 hT he hb hr =>
  have hs:=told_span (right_rt hR) h1 hk hT
  cases r with
  | none => cases hx
  | some y =>
   simp only [Option.map_some,Option.some.injEq,Prod.mk.injEq] at hx
   obtain ⟨rfl,rfl⟩:=hx
   exact ⟨some s,.next s y.1 b rfl rfl he ⟨hs.1,hs.2.1,hs.2.2.1⟩ hb ⟨_,y.2,Int.le_trans (told_less hT) hM,hr⟩,fun w hw => rBest_told hw hR hk (by omega) hT⟩
 | ends hl2 =>
  simp only [Option.some.injEq,Prod.mk.injEq] at hx
  obtain ⟨rfl,rfl⟩:=hx
  rw [last_lv hR] at hl2
  refine ⟨none,.done rfl rfl ⟨_,_,hM,.ends (by rw [last_lv hR];omega)⟩,fun w hw => rBest_beyond hw hR hn ht hk hl2⟩
end
end Go.Proofs.Ytbdfhmefjfaofaa
