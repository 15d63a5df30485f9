/- Contracts and plain facts: M27. -/
import Derived.Test.YtonjnagcdnmcpaaGreatDoorM26
import Derived.Test.YtonjnagcdnmcpaaGreatDoorM13
set_option linter.unusedVariables false
set_option linter.unusedSimpArgs false
set_option maxRecDepth 100000
set_option maxHeartbeats 32000000
namespace Go.Proofs.YtonjnagcdnmcpaaGreatDoor
open Go.RowKit
def TokE (a : List UInt8) : Prop:=∀ p s : List UInt8,nxtE (p ++ (a ++ s)) p.length = some (p.length + a.length)
inductive Toks : Nat → List UInt8 → Prop
 | nil : Toks 0 []
 | cons {a t : List UInt8} {k : Nat} (h : TokE a) (r : Toks k t) : Toks (k + 1) (a ++ t)
theorem Toks.app {k m : Nat} {t u : List UInt8} (h : Toks k t) (r : Toks m u) : Toks (k + m) (t ++ u):=by
 induction h with
 | nil => rw [Nat.zero_add];exact r
 | cons ha _ ih => rw [List.append_assoc,Nat.add_right_comm];exact .cons ha ih
theorem Toks.one {a : List UInt8} (h : TokE a) : Toks 1 a:=by have:=Toks.cons h .nil;rwa [List.append_nil] at this
theorem Toks.dep {k : Nat} {t : List UInt8} (h : Toks k t) : ∀ p s : List UInt8,DE (p ++ (t ++ s)) p.length = k + DE (p ++ (t ++ s)) (p.length + t.length):=by
 induction h with
 | nil => intro p s;simp
 | @cons a t k ha _ ih =>
  intro p s
  have h1:=DE_next (ha p (t ++ s))
  have h2:=ih (p ++ a) s
  rw [List.append_assoc p a,lla] at h2
  rw [List.append_assoc a t s,h1,h2,lla,Nat.add_assoc p.length]
  omega
theorem Toks.few {k : Nat} {t : List UInt8} (h : Toks k t) : DE t 0 = k:=by
 have:=h.dep [] []
 rw [List.nil_append,List.append_nil,List.length_nil,Nat.zero_add] at this
 rw [this]
 unfold DE
 rw [Nat.sub_self]
 rfl
theorem tok_one {k : UInt8} (h : k = 40 ∨ k = 41 ∨ k = 124) : TokE [k]:=fun p s => by
 have hn : nx (p ++ ([k] ++ s)) p.length = (k.toNat : Int):=nx_here p k s
 refine nxt_one ?_
 rw [hn]
 rcases h with rfl | rfl | rfl <;> decide
theorem tok_bol : TokE [94]:=fun p s => nxt_anc (pie_bol (r:=s) (by rw [List.drop_left];rfl))
theorem tok_eol : TokE [36]:=fun p s => nxt_anc (pie_eol (r:=s) (by rw [List.drop_left];rfl))
theorem tok_bak {q : Nat} (h1 : 1 ≤ q) (h9 : q ≤ 9) : TokE [92,UInt8.ofNat (48 + q)]:=fun p s => by
 refine nxt_bak (q:=q) ?_
 have e0 : (UInt8.ofNat (48 + q)).toNat = 48 + q:=by simp;omega
 have e1 : UInt8.ofNat (48 + q) ≠ 110:=fun e => by have:=congrArg UInt8.toNat e;rw [e0] at this;have e2 : (110 : UInt8).toNat = 110:=rfl;omega
 have e2 : (49 : UInt8) ≤ UInt8.ofNat (48 + q) ∧ UInt8.ofNat (48 + q) ≤ 57:=by
  have a1 : (49 : UInt8).toNat = 49:=rfl
  have a2 : (57 : UInt8).toNat = 57:=rfl
  exact ⟨UInt8.le_iff_toNat_le.2 (by rw [e0];omega),UInt8.le_iff_toNat_le.2 (by rw [e0];omega)⟩
 rw [pie_esc (r:=UInt8.ofNat (48 + q) :: s) (by rw [List.drop_left];rfl)]
 simp only [escE]
 rw [if_neg e1,if_pos e2,e0,Nat.add_sub_cancel_left]
 rfl
theorem tok_set {F : Fms} (hF : FormE F) (f : Nat → Bool) : TokE (F.st f):=fun p s => by
 obtain ⟨f',-,hp⟩:=hF.set f
 obtain ⟨k,r,hk,-⟩:=hF.head f
 have:=(Alts.in_pie (p:=p) (t:=F.st f) (s:=s) (i:=0) (by rw [hk];simp) hp).1
 rw [Nat.zero_add] at this
 rw [nxt_nod this,Nat.add_comm]
theorem Fo.off {ns : List Nod} {n : Nod} {g : Nat} {R : List Int} (h : Fo (ns ++ [n]) g R) : ∃ R',R.Perm ((ns.length : Int) :: R') ∧ Fo ns g (partsN n ++ R') ∧ fitsN n (ns.length : Int) (g : Int) = true:=by
 have hfit : fitsN n (ns.length : Int) (g : Int) = true:=by
  have:=h.fit ns.length (by simp)
  rw [List.getElem_append_right (nlr _)] at this
  simpa using this
 have hparts : ∀ k (hk : k < ns.length),∀ p ∈ partsN (ns[k]'hk),0 ≤ p ∧ p < (k : Int):=fun k hk p hp => by
  have:=h.fit k (by simp;omega)
  rw [List.getElem_append_left hk] at this
  exact fits_part this hp
 have hnone : usesN (ns ++ [n]) ns.length = 0:=cntI_zero fun x hx e => by
  obtain ⟨nd,hn,hx2⟩:=List.mem_flatMap.1 hx
  rcases List.mem_append.1 hn with hn | hn
  · obtain ⟨k,hk,rfl⟩:=List.getElem_of_mem hn
    have:=hparts k hk x hx2
    omega
  · simp only [List.mem_singleton] at hn
    rw [hn] at hx2
    have:=fits_part hfit hx2
    omega
 have h1:=h.use ns.length (by simp)
 rw [hnone] at h1
 have hmem : (ns.length : Int) ∈ R:=by
  by_cases hm : (ns.length : Int) ∈ R
  · exact hm
  · have:=cntI_zero (l:=R) (i:=ns.length) (fun x hx e => hm (e ▸ hx))
    omega
 obtain ⟨R1,R2,rfl⟩:=List.append_of_mem hmem
 have hperm : (R1 ++ (ns.length : Int) :: R2).Perm ((ns.length : Int) :: (R1 ++ R2)):=List.perm_middle
 refine ⟨R1 ++ R2,hperm,⟨fun k hk => ?_,fun p hp => ?_,fun j hj => ?_⟩,hfit⟩
 · have:=h.fit k (by simp;omega)
   rw [List.getElem_append_left hk] at this
   exact this
 · rcases List.mem_append.1 hp with hp | hp
   · have:=fits_part hfit hp
     rw [okP_iff];exact this
   · have hp' : p ∈ R1 ++ (ns.length : Int) :: R2:=by
       rcases List.mem_append.1 hp with hp | hp <;> simp [hp]
     have hk:=h.ok p hp'
     rw [okP_iff] at hk ⊢
     rw [lla,lls] at hk
     have hne : p ≠ (ns.length : Int):=fun e => by
      subst e
      have hc:=cntI_perm hperm ns.length
      rw [cntI_cons,if_pos rfl] at hc
      have h2 : 1 ≤ cntI (R1 ++ R2) ns.length:=by
       unfold cntI
       have : 0 < (R1 ++ R2).countP (fun x => decide (x = (ns.length : Int))):=List.countP_pos_iff.2 ⟨_,hp,by simp⟩
       omega
      omega
     omega
 · have h2:=h.use j (by simp;omega)
   rw [usesN_snoc,cntI_perm hperm,cntI_cons,if_neg (by omega)] at h2
   rw [cntI_append]
   omega
theorem sum_map_le {K K' : Int → Nat} : ∀ R : List Int,(∀ r ∈ R,K r = K' r) → (R.map K).sum = (R.map K').sum
 | [],_ => rfl
 | r :: R,h => by rw [List.map_cons,List.map_cons,List.sum_cons,List.sum_cons,h r (by simp),sum_map_le R (fun x hx => h x (by simp [hx]))]
theorem sum_perm {K : Int → Nat} {R R' : List Int} (h : R.Perm R') : (R.map K).sum = (R'.map K).sum:=(h.map K).sum_nat
theorem toks_forest {F : Fms} (hF : FormE F) (hT : ∀ lo hi,timesN lo hi = true → TokE (F.rt lo hi)) {g : Nat} (hg : g ≤ 9) : ∀ ns : List Nod,∀ R,Fo ns g R → ∃ K : Int → Nat,(∀ r ∈ R,Toks (K r) (tx F ns r)) ∧ (R.map K).sum ≤ 2 * ns.length :=
 snoc_ind (fun R h => by
  cases R with
  | nil => exact ⟨fun _ => 0,fun r hr => (by cases hr),by simp⟩
  | cons r R =>
   have:=h.ok r (by simp)
   rw [okP_iff] at this
   simp at this
   omega) fun ns n ih R h => by
  obtain ⟨R',hperm,hfo,hfit⟩:=h.off
  obtain ⟨K,hK,hs⟩:=ih _ hfo
  rw [List.map_append,List.sum_append] at hs
  have hnew : ∃ m,m ≤ 2 + ((partsN n).map K).sum ∧ Toks m (tx F (ns ++ [n]) (ns.length : Int)):=by
   rw [tx_new]
   have hp : ∀ p ∈ partsN n,Toks (K p) (tat (txs F ns) p):=fun p hp => hK p (by simp [hp])
   have hf:=hfit
   unfold fitsN at hf
   simp only [Bool.and_eq_true,Bool.or_eq_true,decide_eq_true_eq] at hf
   obtain ⟨-,f2,f3,f4⟩:=hf
   unfold ntx
   by_cases k1 : n.kind = 1
   · rw [if_pos k1];exact ⟨1,by omega,.one (tok_set hF _)⟩
   rw [if_neg k1]
   by_cases k2 : n.kind = 2
   · rw [if_pos k2]
     have e : partsN n = [n.a,n.b]:=by unfold partsN;rw [if_pos (.inl k2)]
     rw [e] at hp ⊢
     exact ⟨K n.a + K n.b,by simp,(hp n.a (by simp)).app (hp n.b (by simp))⟩
   rw [if_neg k2]
   by_cases k3 : n.kind = 3
   · rw [if_pos k3]
     have e : partsN n = [n.a,n.b]:=by unfold partsN;rw [if_pos (.inr k3)]
     rw [e] at hp ⊢
     exact ⟨K n.a + (1 + K n.b),by simp;omega,(hp n.a (by simp)).app ((Toks.one (tok_one (.inr (.inr rfl)))).app (hp n.b (by simp)))⟩
   rw [if_neg k3]
   by_cases k4 : n.kind = 4
   · rw [if_pos k4]
     have e : partsN n = [n.a]:=by unfold partsN;rw [if_neg (by omega),if_pos (.inl k4)]
     rw [e] at hp ⊢
     have ht : timesN n.lo n.hi = true:=f2.resolve_left (fun h => h k4)
     exact ⟨K n.a + 1,by simp;omega,(hp n.a (by simp)).app (.one (hT _ _ ht))⟩
   rw [if_neg k4]
   by_cases k5 : n.kind = 5
   · rw [if_pos k5]
     have e : partsN n = [n.a]:=by unfold partsN;rw [if_neg (by omega),if_pos (.inr k5)]
     rw [e] at hp ⊢
     rw [hF.op,hF.cs]
     exact ⟨1 + (K n.a + 1),by simp;omega,(Toks.one (tok_one (.inl rfl))).app ((hp n.a (by simp)).app (.one (tok_one (.inr (.inl rfl)))))⟩
   rw [if_neg k5]
   by_cases k6 : n.kind = 6
   · rw [if_pos k6]
     have hgr : 1 ≤ n.grp ∧ n.grp ≤ (g : Int):=f3.resolve_left (fun h => h.2 k6)
     exact ⟨1,by omega,.one (tok_bak (by omega) (by omega))⟩
   rw [if_neg k6]
   by_cases k7 : n.kind = 7
   · rw [if_pos k7];exact ⟨1,by omega,.one tok_bol⟩
   rw [if_neg k7]
   by_cases k8 : n.kind = 8
   · rw [if_pos k8];exact ⟨1,by omega,.one tok_eol⟩
   rw [if_neg k8]
   exact ⟨0,by omega,.nil⟩
  obtain ⟨m,hm,htk⟩:=hnew
  have hold : ∀ r ∈ R',r ≠ (ns.length : Int) ∧ okP (ns.length : Int) r = true:=fun r hr => by
   have:=hfo.ok r (by simp [hr])
   have h2:=this
   rw [okP_iff] at h2
   exact ⟨by omega,this⟩
  refine ⟨fun r => if r = (ns.length : Int) then m else K r,fun r hr => ?_,?_⟩
  · simp only
    by_cases e : r = (ns.length : Int)
    · rw [if_pos e,e];exact htk
    · rw [if_neg e]
      have hr' : r ∈ R':=by
       rcases List.mem_cons.1 (hperm.mem_iff.1 hr) with h1 | h1
       · exact absurd h1 e
       · exact h1
      rw [tx_old (hold r hr').2]
      exact hK r (by simp [hr'])
  · rw [sum_perm hperm,List.map_cons,List.sum_cons,if_pos rfl,sum_map_le (K':=K) R' (fun r hr => if_neg (hold r hr).1),lla,lls]
    omega
theorem right_fo {ns : List Nod} {g : Int} (h : rightN ns g = true) : 1 ≤ ns.length ∧ 0 ≤ g ∧ g ≤ 9 ∧ Fo ns g.toNat [(ns.length : Int) - 1]:=by
 unfold rightN at h
 simp only [Bool.and_eq_true,decide_eq_true_eq] at h
 obtain ⟨⟨⟨⟨a1,a2⟩,a3⟩,a4⟩,h2,h3,h4⟩:=h
 have hf:=h2
 have hg : ((g.toNat : Nat) : Int) = g:=by omega
 refine ⟨a1,a3,a4,⟨fun k hk => by rw [hg];exact hf k hk,fun p hp => ?_,fun j hj => ?_⟩⟩
 · simp only [List.mem_singleton] at hp
   subst hp
   rw [okP_iff];omega
 · rw [cntI_cons]
   have e0 : cntI [] j = 0:=cntI_nil j
   rw [e0]
   by_cases e : (ns.length : Int) - 1 = (j : Int)
   · rw [if_pos e]
     have : usesN ns j = 0:=cntI_zero fun x hx ex => by
      obtain ⟨nd,hn,hx2⟩:=List.mem_flatMap.1 hx
      obtain ⟨k,hk,rfl⟩:=List.getElem_of_mem hn
      have:=fits_part (hf k hk) hx2
      omega
     omega
   · rw [if_neg e]
     unfold onceL at h3
     rw [List.all_eq_true] at h3
     have:=h3 (usesN ns j) (List.mem_map.2 ⟨j,List.mem_range.2 (by omega),rfl⟩)
     have:=of_decide_eq_true this
     omega
theorem right_few {F : Fms} (hF : FormE F) (hT : ∀ lo hi,timesN lo hi = true → TokE (F.rt lo hi)) {ns : List Nod} {g : Int} (h : rightN ns g = true) : DE (tx F ns ((ns.length : Int) - 1)) 0 ≤ 2 * ns.length:=by
 obtain ⟨h1,h2,h3,h4⟩:=right_fo h
 obtain ⟨K,hK,hs⟩:=toks_forest hF hT (g:=g.toNat) (by omega) ns _ h4
 rw [(hK _ (by simp)).few]
 simpa using hs
def frm (e : Bool) : Fms:=if e then ⟨setT true,timT [123] [125],[40],[41]⟩ else ⟨setT false,timT [92,123] [92,125],[92,40],[92,41]⟩
theorem one_head (c : UInt8) : ∃ k r,oneT true c = k :: r ∧ ¬ repB k ∧ k ≠ 124 ∧ k ≠ 41:=by
 unfold oneT
 by_cases h1 : c = 10
 · rw [if_pos h1];exact ⟨92,[110],rfl,by decide,by decide,by decide⟩
 rw [if_neg h1]
 by_cases h2 : c ∈ escS true
 · rw [if_pos h2];exact ⟨92,[c],rfl,by decide,by decide,by decide⟩
 · rw [if_neg h2]
   simp only [escS,if_true,List.mem_cons,List.not_mem_nil,or_false,not_or] at h2
   obtain ⟨n1,n2,n3,n4,n5,n6,n7,n8,n9,n10,n11,n12⟩:=h2
   exact ⟨c,[],rfl,by unfold repB;simp [n4,n10,n11,n9],n12,n8⟩
theorem one_pie (c : UInt8) : pieE (oneT true c) 0 = .nod (oneT true c).length (setN (ofL [c])):=by
 unfold oneT
 by_cases h1 : c = 10
 · rw [if_pos h1,h1];exact pie_nl
 rw [if_neg h1]
 by_cases h2 : c ∈ escS true
 · rw [if_pos h2];exact pie_escd (esc_n true c h2).1 (esc_al true c h2)
 · rw [if_neg h2]
   simp only [escS,if_true,List.mem_cons,List.not_mem_nil,or_false,not_or] at h2
   obtain ⟨n1,n2,n3,n4,n5,n6,n7,n8,n9,n10,n11,n12⟩:=h2
   show pieR [c] 0 [c] = _
   simp only [pieR]
   rw [if_neg (by unfold repB;simp [n4,n10,n11,n9]),if_neg n8,if_neg n5,if_neg n6,if_neg n7,if_neg n1,if_neg n2,if_neg n3]
   rfl
theorem setE_head (f : Nat → Bool) : ∃ k r,setT true f = k :: r ∧ ¬ repB k ∧ k ≠ 124 ∧ k ≠ 41:=by
 rcases setT_ways true f with ⟨-,h⟩ | ⟨c,-,-,h⟩ | h
 · exact ⟨46,[],h,by decide,by decide,by decide⟩
 · rw [h];exact one_head c
 · obtain ⟨r,hr⟩:=textR_hd (sameS f (ofL [])) f
   exact ⟨91,r,h.trans hr,by decide,by decide,by decide⟩
theorem setE_pie (f : Nat → Bool) : ∃ f',alike f' f ∧ pieE (setT true f) 0 = .nod (setT true f).length (setN f'):=by
 rcases setT_ways true f with ⟨ha,h⟩ | ⟨c,-,ha,h⟩ | h
 · exact ⟨allS,ha,by rw [h];rfl⟩
 · exact ⟨_,ha,by rw [h];exact one_pie c⟩
 · obtain ⟨g,h1,h2⟩:=pie_textR (sameS f (ofL [])) f (void_iff f)
   exact ⟨g,h1,by rw [h];exact h2⟩
theorem tim_iv {a : List UInt8} {e0 : UInt8} {er : List UInt8} (h0 : cDigit (e0.toNat : Int) = false) (h1 : e0 ≠ 44) {lo hi : Int} (h : timesN lo hi = true) (hs : ¬ (lo = 0 ∧ hi = -1)) (s : List UInt8) :
    (∃ r,timT a (e0 :: er) lo hi = a ++ r) ∧ ivG a.length (e0 :: er) (timT a (e0 :: er) lo hi ++ s) = some (lo,hi,(timT a (e0 :: er) lo hi).length):=by
 obtain ⟨b1,b2,b3⟩:=times_bd h
 obtain ⟨m,rfl⟩:=Int.eq_ofNat_of_zero_le b1
 unfold timT
 rw [if_neg hs]
 by_cases h2 : hi = -1
 · subst h2
   rw [if_pos rfl]
   refine ⟨⟨_,rfl⟩,?_⟩
   have:=ivG_from (pre:=a) (en:=e0 :: er) (s:=s) (m:=m) (by omega)
   simp only [List.append_assoc,List.cons_append,lla,List.length_cons] at this ⊢
   rw [this]
   congr 3
   omega
 rw [if_neg h2]
 by_cases h3 : hi = (m : Int)
 · subst h3
   rw [if_pos rfl]
   refine ⟨⟨_,rfl⟩,?_⟩
   have:=ivG_one (pre:=a) (e0:=e0) (er:=er) (s:=s) (m:=m) (by omega) h0 h1
   simp only [List.append_assoc,List.cons_append,lla,List.length_cons] at this ⊢
   rw [this]
   congr 3
   omega
 · rw [if_neg h3]
   obtain ⟨n,rfl⟩:=Int.eq_ofNat_of_zero_le (show 0 ≤ hi by omega)
   refine ⟨⟨_,rfl⟩,?_⟩
   have:=ivG_to (pre:=a) (e0:=e0) (er:=er) (s:=s) (m:=m) (n:=n) (by omega) (by omega) h0
   simp only [List.append_assoc,List.cons_append,lla,List.length_cons] at this ⊢
   rw [this]
   congr 3
   omega
theorem timE_nx {lo hi : Int} (h : timesN lo hi = true) (hs : ¬ (lo = 0 ∧ hi = -1)) (p s : List UInt8) :
    nx (p ++ (timT [123] [125] lo hi ++ s)) p.length = 123 ∧ ivE (p ++ (timT [123] [125] lo hi ++ s)) p.length = some (lo,hi,p.length + (timT [123] [125] lo hi).length):=by
 have hv:=fun s => tim_iv (a:=[123]) (e0:=125) (er:=[]) (by decide) (by decide) h hs s
 obtain ⟨⟨r,hr⟩,-⟩:=hv []
 refine ⟨?_,ivE_of (fun s => (hv s).2) (by rw [hr];simp)⟩
 rw [hr]
 exact nx_here p 123 (r ++ s)
theorem formE : FormE (frm true) where
 op:=rfl
 cs:=rfl
 head:=setE_head
 set:=setE_pie
 rep lo hi ht p s x ns g cl ps bs lv:=by
  show stepE (p ++ (timT [123] [125] lo hi ++ s)) _ = .go ⟨_,p.length + (timT [123] [125] lo hi).length,_,_,_,_,_,_⟩
  by_cases hs : lo = 0 ∧ hi = -1
  · obtain ⟨rfl,rfl⟩:=hs
    rw [tim_star]
    exact stepE_star (nx_here p 42 s)
  · obtain ⟨h1,h2⟩:=timE_nx ht hs p s
    exact stepE_ivl h1 h2
theorem tok_tim (lo hi : Int) (ht : timesN lo hi = true) : TokE ((frm true).rt lo hi):=fun p s => by
 show nxtE (p ++ (timT [123] [125] lo hi ++ s)) p.length = some (p.length + (timT [123] [125] lo hi).length)
 by_cases hs : lo = 0 ∧ hi = -1
 · obtain ⟨rfl,rfl⟩:=hs
   rw [tim_star]
   have hn : nx (p ++ ([42] ++ s)) p.length = 42:=nx_here p 42 s
   exact nxt_one (.inl hn)
 · obtain ⟨h1,h2⟩:=timE_nx ht hs p s
   exact nxt_iv h1 h2
theorem oneB_facts (c : UInt8) (s : List UInt8) : oneT false c ≠ [] ∧ bg [42] (oneT false c ++ s) = false ∧ bg [94] (oneT false c ++ s) = false ∧ bg [92,123] (oneT false c ++ s) = false ∧ bg [92,41] (oneT false c ++ s) = false:=by
 unfold oneT
 by_cases h1 : c = 10
 · rw [if_pos h1];exact ⟨by simp,rfl,rfl,rfl,rfl⟩
 rw [if_neg h1]
 have ne : ∀ {a b : UInt8},b ≠ a → (a == b) = false:=fun h => bef.2 fun e => h e.symm
 by_cases h2 : c ∈ escS false
 · rw [if_pos h2]
   obtain ⟨k1,k2,k3⟩:=esc_b c h2
   refine ⟨by simp,rfl,rfl,?_,?_⟩
   · simp only [List.cons_append,List.nil_append,bg_cons,ne k3,Bool.false_and,Bool.and_false]
   · simp only [List.cons_append,List.nil_append,bg_cons,ne k2,Bool.false_and,Bool.and_false]
 · rw [if_neg h2]
   simp only [escS,List.mem_cons,List.not_mem_nil,or_false,not_or,Bool.false_eq_true,if_false] at h2
   obtain ⟨n1,n2,n3,n4,n5,n6⟩:=h2
   simp only [List.cons_append,List.nil_append,bg_cons,ne n1,ne n4,ne n5,Bool.false_and]
   exact ⟨by simp,trivial,trivial,trivial,trivial⟩
theorem oneB_atm (c : UInt8) (p s : List UInt8) : atomA (p ++ (oneT false c ++ s)) p.length = .nod (p.length + (oneT false c).length) (setN (ofL [c])):=by
 unfold oneT
 by_cases h1 : c = 10
 · rw [if_pos h1,h1,atom_esc (c:=110) (r:=s) (by rw [List.drop_left];rfl)]
   rfl
 rw [if_neg h1]
 by_cases h2 : c ∈ escS false
 · rw [if_pos h2,atom_esc (c:=c) (r:=s) (by rw [List.drop_left];rfl)]
   obtain ⟨k1,k2,k3⟩:=esc_b c h2
   obtain ⟨k4,k5⟩:=esc_n false c h2
   simp only [escA]
   rw [if_neg k1,if_neg k2,if_neg k3,if_neg k4,if_neg k5,esc_al false c h2]
   rfl
 · rw [if_neg h2,atom_at (c:=c) (r:=s) (by rw [List.drop_left];rfl)]
   simp only [escS,List.mem_cons,List.not_mem_nil,or_false,not_or,Bool.false_eq_true,if_false] at h2
   obtain ⟨n1,n2,n3,n4,n5,n6⟩:=h2
   simp only [atomR]
   rw [if_neg n1,if_neg n2,if_neg n3,if_neg (fun h => n6 h.1)]
   rfl
theorem setB_facts (f : Nat → Bool) (s : List UInt8) : setT false f ≠ [] ∧ bg [42] (setT false f ++ s) = false ∧ bg [94] (setT false f ++ s) = false ∧ bg [92,123] (setT false f ++ s) = false ∧ bg [92,41] (setT false f ++ s) = false:=by
 rcases setT_ways false f with ⟨-,h⟩ | ⟨c,-,-,h⟩ | h
 · rw [h];exact ⟨by simp,rfl,rfl,rfl,rfl⟩
 · rw [h];exact oneB_facts c s
 · obtain ⟨r,hr⟩:=textR_hd (sameS f (ofL [])) f
   rw [h,hr];exact ⟨by simp,rfl,rfl,rfl,rfl⟩
theorem setB_atm (f : Nat → Bool) : ∃ f',alike f' f ∧ ∀ p s : List UInt8,atomA (p ++ (setT false f ++ s)) p.length = .nod (p.length + (setT false f).length) (setN f'):=by
 rcases setT_ways false f with ⟨ha,h⟩ | ⟨c,-,ha,h⟩ | h
 · refine ⟨allS,ha,fun p s => ?_⟩
   rw [h,atom_at (c:=46) (r:=s) (by rw [List.drop_left];rfl)]
   rfl
 · exact ⟨_,ha,fun p s => by rw [h];exact oneB_atm c p s⟩
 · obtain ⟨g,h1,h2⟩:=atm_textR (sameS f (ofL [])) f (void_iff f)
   exact ⟨g,h1,fun p s => by rw [h];exact h2 p s⟩
theorem formB : FormB (frm false) where
 op:=rfl
 cs:=rfl
 head:=setB_facts
 set:=setB_atm
 rep lo hi ht p s x ns g cl ps lv hl:=by
  show step (p ++ (timT [92,123] [92,125] lo hi ++ s)) _ = .go ⟨_,p.length + (timT [92,123] [92,125] lo hi).length,_,_,_,_,_⟩
  by_cases hs : lo = 0 ∧ hi = -1
  · obtain ⟨rfl,rfl⟩:=hs
    rw [tim_star]
    exact step_star (by rw [List.drop_left];rfl) hl
  · have hv:=fun s => tim_iv (a:=[92,123]) (e0:=92) (er:=[125]) (by decide) (by decide) ht hs s
    obtain ⟨⟨r,hr⟩,-⟩:=hv []
    refine step_ivl (by rw [List.drop_left,hr];rfl) (by rw [List.drop_left,hr];rfl) (ivl_of fun s => ?_) hl
    rw [← ivG_two]
    exact (hv s).2
structure ShortF (F : Fms) : Prop where
 st : ∀ f,(F.st f).length ≤ 3000
 rt : ∀ lo hi,timesN lo hi = true → (F.rt lo hi).length ≤ 20
 op : F.op.length ≤ 2
 cs : F.cs.length ≤ 2
theorem ntx_len {F : Fms} (hF : ShortF F) {ts : List (List UInt8)} {n : Nod} {t g : Int} (hf : fitsN n t g = true) : (ntx F ts n).length ≤ 3000 + ((partsN n).map fun p => (tat ts p).length).sum:=by
 unfold fitsN at hf
 simp only [Bool.and_eq_true,Bool.or_eq_true,decide_eq_true_eq] at hf
 obtain ⟨-,f2,-⟩:=hf
 unfold ntx
 by_cases k1 : n.kind = 1
 · rw [if_pos k1];have:=hF.st n.set;omega
 rw [if_neg k1]
 by_cases k2 : n.kind = 2
 · rw [if_pos k2,show partsN n = [n.a,n.b] by unfold partsN;rw [if_pos (.inl k2)]]
   simp
 rw [if_neg k2]
 by_cases k3 : n.kind = 3
 · rw [if_pos k3,show partsN n = [n.a,n.b] by unfold partsN;rw [if_pos (.inr k3)]]
   simp;omega
 rw [if_neg k3]
 by_cases k4 : n.kind = 4
 · rw [if_pos k4,show partsN n = [n.a] by unfold partsN;rw [if_neg (by omega),if_pos (.inl k4)]]
   have:=hF.rt n.lo n.hi (f2.resolve_left (fun h => h k4))
   simp;omega
 rw [if_neg k4]
 by_cases k5 : n.kind = 5
 · rw [if_pos k5,show partsN n = [n.a] by unfold partsN;rw [if_neg (by omega),if_pos (.inr k5)]]
   have:=hF.op
   have:=hF.cs
   simp;omega
 rw [if_neg k5]
 repeat' split
 all_goals simp;try omega
theorem lens_forest {F : Fms} (hF : ShortF F) {g : Nat} : ∀ ns : List Nod,∀ R,Fo ns g R → (R.map fun r => (tx F ns r).length).sum ≤ 3000 * ns.length :=
 snoc_ind (fun R h => by
  cases R with
  | nil => simp
  | cons r R =>
   have:=h.ok r (by simp)
   rw [okP_iff] at this
   simp at this
   omega) fun ns n ih R h => by
  obtain ⟨R',hperm,hfo,hfit⟩:=h.off
  have hs:=ih _ hfo
  rw [List.map_append,List.sum_append] at hs
  have hn:=ntx_len hF (ts:=txs F ns) hfit
  have hold : (R'.map fun r => (tx F (ns ++ [n]) r).length) = R'.map fun r => (tx F ns r).length:=List.map_congr_left fun r hr => by
   rw [tx_old (hfo.ok r (by simp [hr]))]
  rw [sum_perm hperm,List.map_cons,List.sum_cons,hold,tx_new,lla,lls]
  have e : ((partsN n).map fun p => (tat (txs F ns) p).length) = (partsN n).map fun r => (tx F ns r).length:=rfl
  rw [e] at hn
  omega
theorem mem_le_sum {K : Int → Nat} : ∀ {R : List Int} {x : Int},x ∈ R → K x ≤ (R.map K).sum
 | r :: R,x,h => by
  rw [List.map_cons,List.sum_cons]
  rcases List.mem_cons.1 h with rfl | h
  · omega
  · have:=mem_le_sum (K:=K) h
    omega
theorem lens_nodes {F : Fms} (hF : ShortF F) {g : Nat} : ∀ ns : List Nod,∀ R,Fo ns g R → ∀ k,k < ns.length → (tx F ns (k : Nat)).length ≤ 3000 * ns.length :=
 snoc_ind (fun R _ k hk => by simp at hk) fun ns n ih R h k hk => by
  have hsum:=lens_forest hF _ _ h
  obtain ⟨R',hperm,hfo,hfit⟩:=h.off
  rw [lla,lls] at hk
  by_cases e : k = ns.length
  · subst e
    have hm : ((ns.length : Nat) : Int) ∈ R:=hperm.mem_iff.2 (by simp)
    exact Nat.le_trans (mem_le_sum (K:=fun r => (tx F (ns ++ [n]) r).length) hm) hsum
  · have hok : okP (ns.length : Int) (k : Int) = true:=okP_yes (by omega) (by omega)
    rw [tx_old hok,lla]
    have:=ih _ hfo k (by omega)
    omega
theorem right_short {F : Fms} (hF : ShortF F) {ns : List Nod} {g : Int} (h : rightN ns g = true) : ∀ k,k < ns.length → (tx F ns (k : Nat)).length ≤ 3000000:=fun k hk => by
 have hl:=(rightN_len h).2
 obtain ⟨h1,h2,h3,h4⟩:=right_fo h
 have:=lens_nodes hF ns _ h4 k hk
 omega
theorem txs_take (F : Fms) (ns : List Nod) (k : Nat) : txs F (ns.take k) = (txs F ns).take k:=by
 by_cases hk : k ≤ ns.length
 · obtain ⟨r,hr⟩:=txs_app (F:=F) (ns.take k) (ns.drop k)
   rw [List.take_append_drop] at hr
   rw [hr,List.take_left' (by rw [txs_len,List.length_take];omega)]
 · rw [List.take_of_length_le (by omega),List.take_of_length_le (by rw [txs_len];omega)]
theorem txs_next (F : Fms) (ns : List Nod) {k : Nat} (hk : k < ns.length) : txs F (ns.take (k + 1)) = txs F (ns.take k) ++ [ntx F (txs F (ns.take k)) (ns[k]'hk)]:=by
 rw [List.take_succ_eq_append_getElem hk,txs_snoc]
theorem tat_more (ts : List (List UInt8)) (m : Nat) (x : Int) : tat (ts ++ List.replicate m []) x = tat ts x:=by
 unfold tat
 rw [List.getD_eq_getElem?_getD,List.getD_eq_getElem?_getD]
 by_cases h : x.toNat < ts.length
 · rw [List.getElem?_append_left h]
 · rw [List.getElem?_append_right (by omega),List.getElem?_eq_none (l:=ts) (by omega)]
   cases hr : (List.replicate m ([] : List UInt8))[x.toNat - ts.length]? with
   | none => rfl
   | some v =>
    have:=List.mem_of_getElem? hr
    rw [List.mem_replicate] at this
    rw [this.2];rfl
theorem ntx_more (F : Fms) (ts : List (List UInt8)) (m : Nat) (n : Nod) : ntx F (ts ++ List.replicate m []) n = ntx F ts n:=by
 unfold ntx
 simp only [tat_more]
end Go.Proofs.YtonjnagcdnmcpaaGreatDoor
