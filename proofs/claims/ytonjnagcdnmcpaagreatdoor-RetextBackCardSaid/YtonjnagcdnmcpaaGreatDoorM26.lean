/- Contracts and plain facts: M26. -/
import Derived.Test.YtonjnagcdnmcpaaGreatDoorM41
import Derived.Test.YtonjnagcdnmcpaaGreatDoorM25
set_option linter.unusedVariables false
set_option linter.unusedSimpArgs false
set_option maxRecDepth 100000
set_option maxHeartbeats 32000000
namespace Go.Proofs.YtonjnagcdnmcpaaGreatDoor
open Go.RowKit
theorem bg_skip (p s q : List UInt8) : bg q ((p ++ s).drop p.length) = bg q s:=by rw [List.drop_left]
theorem escA_kinds {i : Nat} {r : List UInt8} : (∀ j nd,escA i r = .nod j nd → ∃ f,nd = setN f) ∧ (∀ q,escA i r = .bak q → 1 ≤ q ∧ q ≤ 9):=by
 cases r with
 | nil => exact ⟨fun j nd h => (by cases h),fun q h => (by cases h)⟩
 | cons c r =>
  simp only [escA]
  refine ⟨fun j nd h => ?_,fun q h => ?_⟩
  · repeat' split at h
    all_goals first
     | cases h;done
     | (injection h with h1 h2;exact ⟨_,h2.symm⟩)
  · repeat' split at h
    all_goals first
     | cases h;done
     | (rename_i hc
        injection h with h
        have h1 : (49 : UInt8).toNat ≤ c.toNat:=UInt8.le_iff_toNat_le.1 hc.1
        have h2 : c.toNat ≤ (57 : UInt8).toNat:=UInt8.le_iff_toNat_le.1 hc.2
        have e1 : (49 : UInt8).toNat = 49:=rfl
        have e2 : (57 : UInt8).toNat = 57:=rfl
        omega)
theorem atm_kinds {t : List UInt8} {i : Nat} : (∀ j nd,atomA t i = .nod j nd → (∃ f,nd = setN f) ∨ (nd = eolN ∧ j = i + 1 ∧ (t.length ≤ i + 1 ∨ bg [92,41] (t.drop (i + 1)) = true))) ∧ (∀ q,atomA t i = .bak q → 1 ≤ q ∧ q ≤ 9):=by
 unfold atomA
 cases hd : t.drop i with
 | nil => exact ⟨fun j nd h => (by cases h),fun q h => (by cases h)⟩
 | cons c r =>
  have hr : t.drop (i + 1) = r:=by
   have:=congrArg (List.drop 1) hd
   rw [List.drop_drop,List.drop_one] at this
   exact this
  simp only [atomR]
  split
  · exact ⟨fun j nd h => .inl (escA_kinds.1 j nd h),fun q h => escA_kinds.2 q h⟩
  split
  · unfold brkA
    cases readB t (i + 1) with
    | error e => exact ⟨fun j nd h => (by cases h),fun q h => (by cases h)⟩
    | ok p => exact ⟨fun j nd h => (by injection h with h1 h2;exact .inl ⟨_,h2.symm⟩),fun q h => (by cases h)⟩
  split
  · exact ⟨fun j nd h => (by injection h with h1 h2;exact .inl ⟨_,h2.symm⟩),fun q h => (by cases h)⟩
  split
  · rename_i hc
    refine ⟨fun j nd h => ?_,fun q h => (by cases h)⟩
    injection h with h1 h2
    refine .inr ⟨h2.symm,h1.symm,?_⟩
    rcases hc.2 with e | e
    · left
      have:=congrArg List.length hr
      rw [e,List.length_drop] at this
      simp at this
      omega
    · right;rw [hr];exact e
  · exact ⟨fun j nd h => (by injection h with h1 h2;exact .inl ⟨_,h2.symm⟩),fun q h => (by cases h)⟩
structure FormB (F : Fms) : Prop where
 op : F.op = [92,40]
 cs : F.cs = [92,41]
 head : ∀ f s,F.st f ≠ [] ∧ bg [42] (F.st f ++ s) = false ∧ bg [94] (F.st f ++ s) = false ∧ bg [92,123] (F.st f ++ s) = false ∧ bg [92,41] (F.st f ++ s) = false
 set : ∀ f,∃ f',alike f' f ∧ ∀ p s : List UInt8,atomA (p ++ (F.st f ++ s)) p.length = .nod (p.length + (F.st f).length) (setN f')
 rep : ∀ lo hi,timesN lo hi = true → ∀ (p s : List UInt8) (x : Int) (ns : List Nod) (g : Nat) (cl : Nat → Bool) (ps : List Int) (lv : List (Nat × List Int)),ns.length < 1000 →
  step (p ++ (F.rt lo hi ++ s)) ⟨.P x,p.length,ns,g,cl,ps,lv⟩ = .go ⟨.P (ns.length : Int),p.length + (F.rt lo hi).length,ns ++ [repN x lo hi],g,cl,ps,lv⟩
def lv3 (lv : List (Nat × List Int)) : List (Nat × List Int × List Int):=lv.map fun a => (a.1,a.2,[])
def canB (F : Fms) (c : Cf) : List UInt8:=lvT F c.ns (lv3 c.lv) ++ bodyT F c.ns [] c.ps c.ct
theorem lv3_flat (lv : List (Nat × List Int)) : ((lv3 lv).flatMap fun a => a.2.1 ++ a.2.2) = lv.flatMap (·.2):=by
 induction lv with
 | nil => rfl
 | cons a lv ih => simp only [lv3,List.map_cons,List.flatMap_cons,List.append_nil] at ih ⊢;rw [ih]
def FolB (c : Cf) (s : List UInt8) : Prop:=(c.ct = .L → bg [42] s = false ∧ bg [92,123] s = false ∧ bg [94] s = false) ∧ (c.ns.getLast? = some eolN → s = [] ∨ bg [92,41] s = true)
def EolI (l : List UInt8) (c : Cf) : Prop:=c.ns.getLast? = some eolN → c.ct ≠ .B ∧ (l.length ≤ c.i ∨ bg [92,41] (l.drop c.i) = true)
def SimB (F : Fms) (c : Cf) : Prop:=∃ ns',Lk c.ns ns' ∧ ∀ s,FolB c s → Steps (canB F c ++ s) cf0 ⟨c.ct,(canB F c).length,ns',c.g,c.cl,c.ps,c.lv⟩
theorem SimB.adv {F : Fms} {c c1 : Cf} {ns' ns1' : List Nod} {a : List UInt8} (hr : ∀ s,FolB c s → Steps (canB F c ++ s) cf0 ⟨c.ct,(canB F c).length,ns',c.g,c.cl,c.ps,c.lv⟩) (hl : Lk c1.ns ns1') (hcan : canB F c1 = canB F c ++ a) (hfol : ∀ s,FolB c1 s → FolB c (a ++ s))
    (hst : ∀ s,FolB c1 s → step (canB F c ++ (a ++ s)) ⟨c.ct,(canB F c).length,ns',c.g,c.cl,c.ps,c.lv⟩ = .go ⟨c1.ct,(canB F c).length + a.length,ns1',c1.g,c1.cl,c1.ps,c1.lv⟩) : SimB F c1:=by
 refine ⟨ns1',hl,fun s hs => ?_⟩
 rw [hcan,List.append_assoc,lla]
 exact (hr _ (hfol s hs)).snoc (hst s hs)
theorem last_snoc (ns : List Nod) (n : Nod) : (ns ++ [n]).getLast? = some n:=List.getLast?_concat
theorem catGo_is : ∀ (r : List Int) (x : Int) (ns : List Nod) (y : Int) (ns' : List Nod),catGo x ns r = some (y,ns') → chnF 2 x ns r = (y,ns')
 | [],x,ns,y,ns',h => by rw [catGo_nil] at h;rw [chnF_nil];exact Option.some.inj h
 | p :: r,x,ns,y,ns',h => by
  rw [catGo_cons] at h
  split at h
  · rw [chnF_cons];exact catGo_is r _ _ y ns' h
  · cases h
theorem catGo_lk : ∀ (r : List Int) (x : Int) (a b : List Nod) (y : Int) (a' : List Nod),Lk a b → catGo x a r = some (y,a') → ∃ b',catGo x b r = some (y,b') ∧ Lk a' b'
 | [],x,a,b,y,a',hl,h => by
  rw [catGo_nil] at h ⊢
  simp only [Option.some.injEq,Prod.mk.injEq] at h
  obtain ⟨rfl,rfl⟩:=h
  exact ⟨b,rfl,hl⟩
 | p :: r,x,a,b,y,a',hl,h => by
  rw [catGo_cons] at h ⊢
  split at h
  · rename_i hlt
    rw [if_pos (by rw [← hl.len];exact hlt),← hl.len]
    exact catGo_lk r _ _ _ y a' (hl.snoc rfl) h
  · cases h
theorem catS_lk {ps : List Int} {a b : List Nod} {y : Int} {a' : List Nod} (hl : Lk a b) (h : catS a ps = some (y,a')) : ∃ b',catS b ps = some (y,b') ∧ Lk a' b':=by
 cases ps with
 | nil =>
  rw [catS_nil] at h ⊢
  split at h
  · rename_i hlt
    simp only [Option.some.injEq,Prod.mk.injEq] at h
    obtain ⟨rfl,rfl⟩:=h
    rw [if_pos (by rw [← hl.len];exact hlt),← hl.len]
    exact ⟨_,rfl,hl.snoc rfl⟩
  · cases h
 | cons x r => exact catGo_lk r x a b y a' hl h
theorem catS_ext {ps : List Int} {ns ns' : List Nod} {y : Int} (h : catS ns ps = some (y,ns')) : ∃ m,ns' = ns ++ m:=by
 cases ps with
 | nil =>
  rw [catS_nil] at h
  split at h
  · simp only [Option.some.injEq,Prod.mk.injEq] at h
    exact ⟨_,h.2.symm⟩
  · cases h
 | cons x r =>
  obtain ⟨m,hm⟩:=chnF_ext 2 r x ns
  rw [catGo_is r x ns y ns' h] at hm
  exact ⟨m,hm⟩
theorem catS_txt (F : Fms) {ps : List Int} {ns ns' : List Nod} {y : Int} (hp : ∀ p ∈ ps,okP (ns.length : Int) p = true) (h : catS ns ps = some (y,ns')) : tx F ns' y = (ps.map (tx F ns)).flatten:=by
 cases ps with
 | nil =>
  rw [catS_nil] at h
  split at h
  · simp only [Option.some.injEq,Prod.mk.injEq] at h
    obtain ⟨rfl,rfl⟩:=h
    rw [tx_new];rfl
  · cases h
 | cons x r =>
  have e:=catGo_is r x ns y ns' h
  have:=chnF_txt F 2 (.inl rfl) r x ns (hp x (by simp)) (fun p hq => hp p (by simp [hq]))
  rw [e] at this
  rw [this,List.map_cons,List.flatten_cons]
  rfl
theorem bg2 {x y : UInt8} {t : List UInt8} {i : Nat} (h : bg [x,y] (t.drop i) = true) : ∃ r,t.drop i = x :: y :: r:=by
 cases hd : t.drop i with
 | nil => rw [hd] at h;cases h
 | cons a r =>
  rw [hd,bg_cons,Bool.and_eq_true,beq_iff_eq] at h
  obtain ⟨rfl,h⟩:=h
  cases r with
  | nil => cases h
  | cons b r =>
   rw [bg_cons,Bool.and_eq_true,beq_iff_eq] at h
   obtain ⟨rfl,_⟩:=h
   exact ⟨r,rfl⟩
theorem simB_step {F : Fms} (hF : FormB F) {l : List UInt8} {c c1 : Cf} (hinv : InvC c) (hE : EolI l c) (h : SimB F c) (hs : step l c = .go c1) : SimB F c1 ∧ EolI l c1:=by
 obtain ⟨ct,i,ns,g,cl,ps,lv⟩:=c
 obtain ⟨ns',hl,hr⟩:=h
 simp only at hl hr
 have hlen:=hl.len
 have hok:=hinv.tree.ok
 have kps : ∀ p ∈ ps,okP (ns.length : Int) p = true:=fun p hp => hok p (by simp [rootsC,hp])
 have klv : ∀ p ∈ (lv3 lv).flatMap fun a => a.2.1 ++ a.2.2,okP (ns.length : Int) p = true:=fun p hp => hok p (by rw [lv3_flat] at hp;simp only [rootsC,List.mem_append];exact .inr (.inr hp))
 have hlv : ∀ m,lvT F (ns ++ m) (lv3 lv) = lvT F ns (lv3 lv):=fun m => lv_old F _ klv
 have hpb : ∀ m ct',headE ct' = [] → bodyT F (ns ++ m) [] ps ct' = bodyT F ns [] ps .L:=fun m ct' e => by
  rw [body_old F (by rw [e];simp) kps (by simp)]
  cases ct' with
  | P x => cases e
  | B => rfl
  | L => rfl
 have hpm : ct = .L → stepA ⟨.L,i,ns,g,cl,ps,lv⟩ (atomA l i) = .go c1 → SimB F c1 ∧ EolI l c1:=by
  rintro rfl hs
  have hnE : ns.getLast? ≠ some eolN:=fun e => by
   obtain ⟨-,h1 | h1⟩:=hE e
   · have e0 : atomA l i = .bad 0:=by unfold atomA;rw [List.drop_eq_nil_of_le (by simpa using h1)];rfl
     rw [e0] at hs;cases hs
   · rw [atom_par h1] at hs;cases hs
  have hfol : ∀ a : List UInt8,(∀ s,bg [42] (a ++ s) = false ∧ bg [92,123] (a ++ s) = false ∧ bg [94] (a ++ s) = false) → ∀ s,FolB ⟨.L,i,ns,g,cl,ps,lv⟩ (a ++ s):=fun a ha s => ⟨fun _ => ha s,fun e => absurd e hnE⟩
  have hP : ∀ (nd : Nod) (a : List UInt8),tx F (ns ++ [nd]) (ns.length : Int) = a → ∀ j g' cl',canB F ⟨.P (ns.length : Int),j,ns ++ [nd],g',cl',ps,lv⟩ = canB F ⟨.L,i,ns,g,cl,ps,lv⟩ ++ a:=fun nd a ea j g' cl' => by
   show lvT F (ns ++ [nd]) (lv3 lv) ++ bodyT F (ns ++ [nd]) [] ps (.P (ns.length : Int)) = (lvT F ns (lv3 lv) ++ bodyT F ns [] ps .L) ++ a
   have e : bodyT F (ns ++ [nd]) [] ps (.P (ns.length : Int)) = bodyT F (ns ++ [nd]) [] ps .L ++ a:=by unfold bodyT;simp only [ea,List.append_nil,List.append_assoc]
   rw [e,hlv,hpb _ _ rfl,List.append_assoc]
  have hstep : ∀ (a s : List UInt8),a ≠ [] → bg [92,41] (a ++ s) = false → step (canB F ⟨.L,i,ns,g,cl,ps,lv⟩ ++ (a ++ s)) ⟨.L,(canB F ⟨.L,i,ns,g,cl,ps,lv⟩).length,ns',g,cl,ps,lv⟩ = stepA ⟨.L,(canB F ⟨.L,i,ns,g,cl,ps,lv⟩).length,ns',g,cl,ps,lv⟩ (atomA (canB F ⟨.L,i,ns,g,cl,ps,lv⟩ ++ (a ++ s)) (canB F ⟨.L,i,ns,g,cl,ps,lv⟩).length):=fun a s ha hb =>
   step_atom (inG:=!lv.isEmpty) (by have:=List.length_pos_iff.2 ha;simp;omega) (fun _ => by rw [bg_skip];exact hb) (by simp)
  cases ha : atomA l i with
  | bad e => rw [ha] at hs;cases hs
  | opn =>
   rw [ha] at hs
   simp only [stepA] at hs
   split at hs
   · rename_i hg
     injection hs with hs
     subst hs
     refine ⟨SimB.adv (a:=[92,40]) hr hl ?_ (fun s _ => hfol _ (fun s => ⟨rfl,rfl,rfl⟩) s) (fun s _ => ?_),fun e => absurd e hnE⟩
     · show (lvT F ns (lv3 lv) ++ (bodyT F ns [] ps .L ++ F.op)) ++ bodyT F ns [] [] .B = (lvT F ns (lv3 lv) ++ bodyT F ns [] ps .L) ++ [92,40]
       rw [hF.op]
       simp [bodyT]
     · rw [hstep [92,40] s (by simp) rfl,atom_opn (by rw [bg_skip];rfl)]
       simp only [stepA]
       rw [if_pos hg]
       rfl
   · cases hs
  | bak q =>
   have hq9:=atm_kinds.2 q ha
   rw [ha] at hs
   simp only [stepA] at hs
   split at hs
   · rename_i hq
     obtain ⟨hlt,hs⟩:=putS_go hs
     injection hs with hs
     subst hs
     have e0 : (UInt8.ofNat (48 + q)).toNat = 48 + q:=by simp;omega
     have ne : ∀ k : UInt8,k.toNat < 49 ∨ 57 < k.toNat → UInt8.ofNat (48 + q) ≠ k:=fun k hk e => by have:=congrArg UInt8.toNat e;rw [e0] at this;omega
     have e2 : (49 : UInt8) ≤ UInt8.ofNat (48 + q) ∧ UInt8.ofNat (48 + q) ≤ 57:=by
      have a1 : (49 : UInt8).toNat = 49:=rfl
      have a2 : (57 : UInt8).toNat = 57:=rfl
      exact ⟨UInt8.le_iff_toNat_le.2 (by rw [e0];omega),UInt8.le_iff_toNat_le.2 (by rw [e0];omega)⟩
     have nb : ∀ (k : UInt8) (s : List UInt8),k.toNat < 49 ∨ 57 < k.toNat → bg [92,k] ([92,UInt8.ofNat (48 + q)] ++ s) = false:=fun k s hk => by
      show (92 == 92 && (k == UInt8.ofNat (48 + q) && bg [] s)) = false
      rw [bef.2 (fun e => ne k hk e.symm)];rfl
     refine ⟨SimB.adv (a:=[92,UInt8.ofNat (48 + q)]) hr (hl.snoc rfl) (hP _ _ (tx_back q) _ _ _) (fun s _ => hfol _ (fun s => ⟨rfl,nb 123 s (.inr (by decide)),rfl⟩) s) (fun s _ => ?_),fun e => by rw [last_snoc] at e;simp [backN,eolN] at e⟩
     rw [hstep _ s (by simp) (nb 41 s (.inl (by decide))),atom_esc (c:=UInt8.ofNat (48 + q)) (r:=s) (by rw [List.drop_left];rfl)]
     simp only [escA]
     rw [if_neg (ne 40 (.inl (by decide))),if_neg (ne 41 (.inl (by decide))),if_neg (ne 123 (.inr (by decide))),if_neg (ne 110 (.inr (by decide))),if_pos e2,e0,Nat.add_sub_cancel_left]
     simp only [stepA]
     rw [if_pos hq]
     unfold putS
     rw [if_pos (by rw [← hlen];exact hlt),hlen]
     rfl
   · cases hs
  | nod j nd =>
   have hk:=atm_kinds.1 j nd ha
   rw [ha] at hs
   simp only [stepA] at hs
   obtain ⟨hlt,hs⟩:=putS_go hs
   injection hs with hs
   subst hs
   rcases hk with ⟨f,rfl⟩ | ⟨rfl,rfl,hk⟩
   · obtain ⟨f',ef,hp⟩:=hF.set f
     refine ⟨SimB.adv (a:=F.st f) hr (hl.snoc (nodL_alike ef).symm) (hP _ _ (tx_set f) _ _ _) (fun s _ => hfol _ (fun s => ⟨(hF.head f s).2.1,(hF.head f s).2.2.2.1,(hF.head f s).2.2.1⟩) s) (fun s _ => ?_),fun e => by rw [last_snoc] at e;simp [setN,eolN] at e⟩
     rw [hstep _ s (hF.head f s).1 (hF.head f s).2.2.2.2,hp]
     simp only [stepA]
     unfold putS
     rw [if_pos (by rw [← hlen];exact hlt),hlen]
   · refine ⟨SimB.adv (a:=[36]) hr (hl.snoc rfl) (hP _ _ tx_eol _ _ _) (fun s _ => hfol _ (fun s => ⟨rfl,rfl,rfl⟩) s) (fun s hs => ?_),fun _ => ⟨by simp,hk⟩⟩
     have hs2:=hs.2 (last_snoc ns eolN)
     rw [hstep [36] s (by simp) rfl,atom_at (c:=36) (r:=s) (by rw [List.drop_left];rfl)]
     simp only [atomR]
     rw [if_neg (by decide),if_neg (by decide),if_neg (by decide),if_pos ⟨trivial,hs2⟩]
     simp only [stepA]
     unfold putS
     rw [if_pos (by rw [← hlen];exact hlt),hlen]
     rfl
 cases ct with
 | B =>
  have hps : ps = []:=hinv.last
  subst hps
  have hnE : ns.getLast? ≠ some eolN:=fun e => (hE e).1 rfl
  change stepB l _ = _ at hs
  simp only [stepB] at hs
  split at hs
  · obtain ⟨hlt,hs⟩:=putS_go hs
    injection hs with hs
    subst hs
    refine ⟨SimB.adv (a:=[94]) hr (hl.snoc rfl) ?_ (fun s _ => ⟨fun e => (by cases e),fun e => absurd e hnE⟩) (fun s _ => ?_),fun e => by rw [last_snoc] at e;simp [bolN,eolN] at e⟩
    · show lvT F (ns ++ [bolN]) (lv3 lv) ++ bodyT F (ns ++ [bolN]) [] [(ns.length : Int)] .L = (lvT F ns (lv3 lv) ++ bodyT F ns [] [] .B) ++ [94]
      rw [hlv]
      unfold bodyT
      simp [tx_bol]
    · show stepB _ _ = _
      simp only [stepB]
      rw [if_pos (by rw [bg_skip];rfl)]
      unfold putS
      rw [if_pos (by rw [← hlen];exact hlt),hlen]
      rfl
  · injection hs with hs
    subst hs
    refine ⟨SimB.adv (a:=[]) hr hl ?_ (fun s _ => ⟨fun e => (by cases e),fun e => absurd e hnE⟩) (fun s hs => ?_),fun e => absurd e hnE⟩
    · show lvT F ns (lv3 lv) ++ bodyT F ns [] [] .L = (lvT F ns (lv3 lv) ++ bodyT F ns [] [] .B) ++ []
      simp [bodyT]
    · exact step_plain (by rw [List.nil_append,bg_skip];exact (hs.1 rfl).2.2)
 | P x =>
  have hx : okP (ns.length : Int) x = true:=hok x (by simp [rootsC,headC])
  have hR : ∀ lo hi j,timesN lo hi = true → ns.length < 1000 → ns.getLast? ≠ some eolN → SimB F ⟨.P (ns.length : Int),j,ns ++ [repN x lo hi],g,cl,ps,lv⟩ ∧ EolI l ⟨.P (ns.length : Int),j,ns ++ [repN x lo hi],g,cl,ps,lv⟩:=fun lo hi j ht hlt hnE => by
   refine ⟨SimB.adv (a:=F.rt lo hi) hr (hl.snoc rfl) ?_ (fun s _ => ⟨fun e => (by cases e),fun e => absurd e hnE⟩) (fun s _ => ?_),fun e => by rw [last_snoc] at e;simp [repN,eolN] at e⟩
   · show lvT F (ns ++ [repN x lo hi]) (lv3 lv) ++ bodyT F (ns ++ [repN x lo hi]) [] ps (.P (ns.length : Int)) = (lvT F ns (lv3 lv) ++ bodyT F ns [] ps (.P x)) ++ F.rt lo hi
     have e : bodyT F (ns ++ [repN x lo hi]) [] ps (.P (ns.length : Int)) = bodyT F (ns ++ [repN x lo hi]) [] ps .L ++ (tx F ns x ++ F.rt lo hi):=by unfold bodyT;simp only [tx_rep,List.append_nil,List.append_assoc]
     have e2 : bodyT F ns [] ps (.P x) = bodyT F ns [] ps .L ++ tx F ns x:=by unfold bodyT;simp only [List.append_nil,List.append_assoc]
     rw [e,hlv,hpb _ _ rfl,e2,List.append_assoc,List.append_assoc]
   · rw [hF.rep lo hi ht _ s x ns' g cl ps lv (by rw [← hlen];exact hlt),hlen]
  have hno : ∀ q : List UInt8,bg q (l.drop i) = true → q = [42] ∨ q = [92,123] → ns.getLast? ≠ some eolN:=fun q hq hk e => by
   obtain ⟨-,h1 | h1⟩:=hE e
   · have h1 : l.length ≤ i:=h1
     rw [List.drop_eq_nil_of_le h1] at hq
     rcases hk with rfl | rfl <;> cases hq
   · obtain ⟨r,hr⟩:=bg2 (t:=l) (i:=i) h1
     rw [hr] at hq
     rcases hk with rfl | rfl
     · cases hq
     · cases hq
  change stepP l _ x = _ at hs
  simp only [stepP] at hs
  split at hs
  · rename_i hb
    obtain ⟨hlt,hs⟩:=putS_go hs
    injection hs with hs;subst hs
    exact hR 0 (-1) _ (by decide) hlt (hno _ hb (.inl rfl))
  split at hs
  · rename_i hb
    cases hv : ivl l i with
    | none => rw [hv] at hs;cases hs
    | some p =>
     obtain ⟨lo,hi,j⟩:=p
     rw [hv] at hs
     simp only at hs
     obtain ⟨hlt,hs⟩:=putS_go hs
     injection hs with hs;subst hs
     refine hR lo hi _ ?_ hlt (hno _ hb (.inr rfl))
     unfold ivl at hv
     obtain ⟨⟨a,b,k⟩,h1,h2⟩:=Option.map_eq_some_iff.1 hv
     simp only [Prod.mk.injEq] at h2
     obtain ⟨rfl,rfl,rfl⟩:=h2
     exact (ivB_ok h1).2.1
  · injection hs with hs
    subst hs
    refine ⟨SimB.adv (a:=[]) hr hl ?_ (fun s hs => ⟨fun e => (by cases e),fun e => hs.2 e⟩) (fun s hs => ?_),fun e => ⟨by simp,(hE e).2⟩⟩
    · show lvT F ns (lv3 lv) ++ bodyT F ns [] (ps ++ [x]) .L = (lvT F ns (lv3 lv) ++ bodyT F ns [] ps (.P x)) ++ []
      unfold bodyT
      simp
    · obtain ⟨f1,f2,f3⟩:=hs.1 rfl
      exact step_off (by rw [List.nil_append,bg_skip];exact f1) (by rw [List.nil_append,bg_skip];exact f2)
 | L =>
  change stepL l _ = _ at hs
  cases lv with
  | nil =>
   simp only [stepL] at hs
   split at hs
   · split at hs <;> cases hs
   · exact hpm rfl hs
  | cons a lv =>
   obtain ⟨q,ps'⟩:=a
   simp only [stepL] at hs
   split at hs
   · cases hs
   split at hs
   · split at hs
     · cases hs
     · rename_i x ns2 hc
       obtain ⟨hlt,hs⟩:=putS_go hs
       injection hs with hs
       subst hs
       obtain ⟨m,rfl⟩:=catS_ext hc
       have htx:=catS_txt F kps hc
       obtain ⟨b',hb1,hb2⟩:=catS_lk hl hc
       refine ⟨SimB.adv (a:=[92,41]) hr (hb2.snoc rfl) ?_ (fun s _ => ⟨fun _ => ⟨rfl,rfl,rfl⟩,fun _ => .inr rfl⟩) (fun s _ => ?_),fun e => by rw [last_snoc] at e;simp [groupN,eolN] at e⟩
       · show lvT F ((ns ++ m) ++ [groupN (q : Int) x]) (lv3 lv) ++ bodyT F ((ns ++ m) ++ [groupN (q : Int) x]) [] ps' (.P ((ns ++ m).length : Int)) = ((lvT F ns (lv3 lv) ++ (bodyT F ns [] ps' .L ++ F.op)) ++ bodyT F ns [] ps .L) ++ [92,41]
         have k2 : ∀ p ∈ ps',okP (ns.length : Int) p = true:=fun p hp => klv p (by simp [lv3,hp])
         have k4 : ∀ p ∈ (lv3 lv).flatMap fun a => a.2.1 ++ a.2.2,okP (ns.length : Int) p = true:=fun p hp => klv p (by rw [lv3_flat] at hp ⊢;simp only [List.flatMap_cons,List.mem_append];exact .inr hp)
         have e1 : ∀ (N : List Nod) (y : Int),bodyT F N [] ps' (.P y) = bodyT F N [] ps' .L ++ tx F N y:=fun N y => by unfold bodyT;simp
         have e2 : bodyT F ns [] ps .L = (ps.map (tx F ns)).flatten:=by unfold bodyT;simp
         rw [e1,tx_group,htx,hF.cs,e2,List.append_assoc,lv_old F _ k4,body_old F (by simp [headE]) k2 (by simp)]
         simp only [List.append_assoc]
       · show stepL (canB F ⟨.L,i,ns,g,cl,ps,(q,ps') :: lv⟩ ++ ([92,41] ++ s)) ⟨.L,(canB F ⟨.L,i,ns,g,cl,ps,(q,ps') :: lv⟩).length,ns',g,cl,ps,(q,ps') :: lv⟩ = _
         simp only [stepL]
         rw [if_neg (by simp),if_pos (by rw [bg_skip];rfl),hb1]
         simp only
         unfold putS
         rw [if_pos (by rw [← hb2.len];exact hlt),hb2.len]
         rfl
   · exact hpm rfl hs
theorem step_fin {t : List UInt8} {c : Cf} {ns : List Nod} {g : Nat} (h : step t c = .fin ns g) : c.ct = .L ∧ t.length ≤ c.i ∧ c.lv = [] ∧ (∃ x,catS c.ns c.ps = some (x,ns)) ∧ c.g = g:=by
 obtain ⟨ct,i,ns1,g1,cl,ps,lv⟩:=c
 have hput : ∀ (ns1 : List Nod) (i : Nat) (n : Nod) (k : Int → List Nod → Cf),putS ns1 i n (fun x m => .go (k x m)) ≠ .fin ns g:=fun ns1 i n k h => by
  unfold putS at h
  split at h <;> cases h
 have hat : ∀ (c : Cf) (a : Am),stepA c a ≠ .fin ns g:=fun c a h => by
  cases a with
  | bad e => cases h
  | opn => simp only [stepA] at h;split at h <;> cases h
  | bak q =>
   simp only [stepA] at h
   split at h
   · exact hput _ _ _ _ h
   · cases h
  | nod j n => simp only [stepA] at h;exact hput _ _ _ _ h
 cases ct with
 | B =>
  change stepB t _ = _ at h
  simp only [stepB] at h
  split at h
  · exact absurd h (hput _ _ _ _)
  · cases h
 | P x =>
  change stepP t _ x = _ at h
  simp only [stepP] at h
  split at h
  · exact absurd h (hput _ _ _ _)
  split at h
  · split at h
    · cases h
    · exact absurd h (hput _ _ _ _)
  · cases h
 | L =>
  change stepL t _ = _ at h
  cases lv with
  | nil =>
   simp only [stepL] at h
   split at h
   · rename_i hi
     split at h
     · cases h
     · rename_i x ns2 hc
       injection h with e1 e2
       subst e1
       exact ⟨rfl,hi,rfl,⟨x,hc⟩,e2⟩
   · exact absurd h (hat _ _)
  | cons a lv =>
   obtain ⟨q,p⟩:=a
   simp only [stepL] at h
   split at h
   · cases h
   split at h
   · split at h
     · cases h
     · exact absurd h (hput _ _ _ _)
   · exact absurd h (hat _ _)
theorem simB_all {F : Fms} (hF : FormB F) {l : List UInt8} {c c' : Cf} (hs : Steps l c c') (hi : InvC c) (hE : EolI l c) (h : SimB F c) : SimB F c' ∧ InvC c':=by
 induction hs with
 | refl => exact ⟨h,hi⟩
 | head h1 _ ih =>
  obtain ⟨k1,k2⟩:=simB_step hF hi hE h h1
  exact ih (step_inv hi h1) k2 k1
theorem simB0 (F : Fms) : SimB F cf0:=⟨[],rfl,fun s _ => .refl _⟩
theorem bas_back {F : Fms} (hF : FormB F) {l : List UInt8} {ns : List Nod} {g : Nat} (h : Ends l cf0 (.fin ns g)) : ∃ ns',Lk ns ns' ∧ Ends (tx F ns ((ns.length : Int) - 1)) cf0 (.fin ns' g):=by
 obtain ⟨c,hs,hst,-⟩:=h
 obtain ⟨⟨ns1',hl,hr⟩,hinv⟩:=simB_all hF hs inv0 (fun e => by simp [cf0] at e) (simB0 F)
 obtain ⟨e1,e2,e3,⟨x,e4⟩,e5⟩:=step_fin hst
 obtain ⟨ct,i,ns1,g1,cl,ps,lv⟩:=c
 simp only at e1 e2 e3 e4 e5 hl hr
 subst e1 e3 e5
 have hok:=hinv.tree.ok
 have kps : ∀ p ∈ ps,okP (ns1.length : Int) p = true:=fun p hp => hok p (by simp [rootsC,hp])
 have ht : Tree ns1 g1 (ps ++ []):=by simpa [rootsC,headC] using hinv.tree
 obtain ⟨-,hroot,-⟩:=catS_tree ht hinv.last e4
 have hcan : canB F ⟨.L,i,ns1,g1,cl,ps,[]⟩ = tx F ns ((ns.length : Int) - 1):=by
  rw [← hroot,catS_txt F kps e4]
  show ([] : List UInt8) ++ bodyT F ns1 [] ps .L = _
  unfold bodyT
  simp
 obtain ⟨b',hb1,hb2⟩:=catS_lk hl e4
 have hs2:=hr [] ⟨fun _ => ⟨rfl,rfl,rfl⟩,fun _ => .inl rfl⟩
 rw [List.append_nil,hcan] at hs2
 refine ⟨b',hb2,hs2.ends (.fin ?_)⟩
 show stepL _ ⟨.L,_,ns1',g1,cl,ps,[]⟩ = _
 simp only [stepL]
 rw [if_pos (nlr _),hb1]
section
variable {pre en s : List UInt8} {m n : Nat} {e0 : UInt8} {er : List UInt8}
theorem num_at (pre r : List UInt8) (m : Nat) (hm : m ≤ 255) (hr : ∀ c ∈ r.head?,cDigit c.toNat = false) : numS (pre ++ (Lib.itoa m ++ r)) (pre.length : Int) 255 = ((m : Int),((pre.length + (Lib.itoa m).length : Nat) : Int),0):=by
 rw [numS_mid pre r m 255 hr,if_pos (by omega)]
theorem drop_num (pre r : List UInt8) (m : Nat) : (pre ++ (Lib.itoa m ++ r)).drop (pre.length + (Lib.itoa m).length) = r:=by
 rw [← List.append_assoc,← lla,List.drop_left]
theorem bg_self (en s : List UInt8) : bg en (en ++ s) = true:=by
 induction en with
 | nil => rfl
 | cons x r ih => rw [List.cons_append,bg_cons,ih];simp
theorem ivG_one (hm : m ≤ 255) (h0 : cDigit (e0.toNat : Int) = false) (h1 : e0 ≠ 44) : ivG pre.length (e0 :: er) (pre ++ (Lib.itoa m ++ (e0 :: er ++ s))) = some ((m : Int),(m : Int),pre.length + (Lib.itoa m).length + (er.length + 1)):=by
 have hb : ∀ q,bg (44 :: q) (e0 :: er ++ s) = false:=fun q => by rw [List.cons_append,bg_cons,bef.2 (fun e => h1 e.symm)];rfl
 unfold ivG
 rw [num_at pre _ m hm (fun c hc => by simp at hc;subst hc;exact h0)]
 simp only
 rw [if_neg (by simp),Int.toNat_natCast,drop_num,hb,hb,if_neg (by simp),if_neg (by simp),bg_self,if_pos rfl]
 rfl
theorem ivG_from (hm : m ≤ 255) : ivG pre.length en (pre ++ (Lib.itoa m ++ (44 :: (en ++ s)))) = some ((m : Int),-1,pre.length + (Lib.itoa m).length + (1 + en.length)):=by
 unfold ivG
 rw [num_at pre _ m hm (fun c hc => by simp at hc;subst hc;rfl)]
 simp only
 rw [if_neg (by simp),Int.toNat_natCast,drop_num,show (44 :: (en ++ s)) = (44 :: en) ++ s from rfl,bg_self,if_pos rfl]
theorem ivG_to (hmn : m ≤ n) (hn : n ≤ 255) (h0 : cDigit (e0.toNat : Int) = false) : ivG pre.length (e0 :: er) (pre ++ (Lib.itoa m ++ (44 :: (Lib.itoa n ++ (e0 :: er ++ s))))) = some ((m : Int),(n : Int),pre.length + (Lib.itoa m).length + 1 + (Lib.itoa n).length + (er.length + 1)):=by
 obtain ⟨d1,d2,d3⟩:=itoa_facts n n (nlr _)
 have hb : bg (44 :: e0 :: er) (44 :: (Lib.itoa n ++ (e0 :: er ++ s))) = false:=by
  rw [bg_cons]
  cases hi : Lib.itoa n with
  | nil => exact absurd hi d3
  | cons x r =>
   have hx:=d1 x (by rw [hi];simp)
   rw [List.cons_append,bg_cons,show (e0 == x) = false from bef.2 (fun e => by rw [e] at h0;rw [h0] at hx;cases hx)]
   simp
 have e2 : pre ++ (Lib.itoa m ++ (44 :: (Lib.itoa n ++ (e0 :: er ++ s)))) = (pre ++ (Lib.itoa m ++ [44])) ++ (Lib.itoa n ++ (e0 :: er ++ s)):=by simp
 have l2 : (pre ++ (Lib.itoa m ++ [44])).length = pre.length + (Lib.itoa m).length + 1:=by simp;omega
 have hN:=num_at (pre ++ (Lib.itoa m ++ [44])) (e0 :: er ++ s) n hn (fun c hc => by simp at hc;subst hc;exact h0)
 have hD:=drop_num (pre ++ (Lib.itoa m ++ [44])) (e0 :: er ++ s) n
 rw [← e2,l2] at hN hD
 unfold ivG
 rw [num_at pre _ m (by omega) (fun c hc => by simp at hc;subst hc;rfl)]
 simp only
 rw [if_neg (by simp),Int.toNat_natCast,drop_num,hb,if_neg (by simp),show bg [44] (44 :: (Lib.itoa n ++ (e0 :: er ++ s))) = true from rfl,if_pos rfl]
 rw [show (((pre.length + (Lib.itoa m).length : Nat) : Int) + 1) = ((pre.length + (Lib.itoa m).length + 1 : Nat) : Int) by omega,hN]
 simp only
 rw [if_neg (by rintro (h | h);exact h rfl;omega),Int.toNat_natCast,hD,bg_self,if_pos rfl]
 rfl
end
theorem ivE_of {p s : List UInt8} {rt : List UInt8} {lo hi : Int} (h : ∀ s,ivG 1 [125] (rt ++ s) = some (lo,hi,rt.length)) (h1 : rt ≠ []) : ivE (p ++ (rt ++ s)) p.length = some (lo,hi,p.length + rt.length):=by
 rw [← ivE_ivl (by have:=List.length_pos_iff.2 h1;simp;omega)]
 unfold ivlG
 rw [List.drop_left,h]
 rfl
theorem ivl_of {p s : List UInt8} {rt : List UInt8} {lo hi : Int} (h : ∀ s,ivB (rt ++ s) = some (lo,hi,rt.length)) : ivl (p ++ (rt ++ s)) p.length = some (lo,hi,p.length + rt.length):=by
 unfold ivl
 rw [List.drop_left,h]
 rfl
theorem textR_at (e : Bool) (f : Nat → Bool) (he : e = true ↔ ∀ c,c < 256 → f c = false) : ∃ g,alike g f ∧ ∀ p s : List UInt8,readB (p ++ (textR e f ++ s)) (p.length + 1) = .ok (g,p.length + (textR e f).length):=by
 obtain ⟨g,h1,h2⟩:=textR_read e f he []
 rw [List.append_nil] at h1
 refine ⟨g,h2,fun p s => ?_⟩
 have hl : 1 ≤ (textR e f).length:=by unfold textR;split <;> simp
 have:=Alts.in_readB (p:=p) (s:=s) hl h1
 rw [Nat.add_comm p.length 1,this,Nat.add_comm p.length]
theorem textR_hd (e : Bool) (f : Nat → Bool) : ∃ r,textR e f = 91 :: r:=by
 unfold textR;split
 · exact ⟨_,rfl⟩
 · exact ⟨_,rfl⟩
theorem pie_textR (e : Bool) (f : Nat → Bool) (he : e = true ↔ ∀ c,c < 256 → f c = false) : ∃ g,alike g f ∧ pieE (textR e f) 0 = .nod (textR e f).length (setN g):=by
 obtain ⟨g,h1,h2⟩:=textR_at e f he
 obtain ⟨r,hr⟩:=textR_hd e f
 have h3:=h2 [] []
 rw [List.nil_append,List.append_nil,List.length_nil,Nat.zero_add,Nat.zero_add] at h3
 refine ⟨g,h1,?_⟩
 rw [pie_brk (r:=r) (by rw [hr];rfl)]
 unfold brkA
 rw [h3]
 rfl
theorem atm_textR (e : Bool) (f : Nat → Bool) (he : e = true ↔ ∀ c,c < 256 → f c = false) : ∃ g,alike g f ∧ ∀ p s : List UInt8,atomA (p ++ (textR e f ++ s)) p.length = .nod (p.length + (textR e f).length) (setN g):=by
 obtain ⟨g,h1,h2⟩:=textR_at e f he
 obtain ⟨r,hr⟩:=textR_hd e f
 refine ⟨g,h1,fun p s => ?_⟩
 have h3:=h2 p s
 rw [atom_at (c:=91) (r:=r ++ s) (by rw [List.drop_left,hr];rfl)]
 simp only [atomR]
 rw [if_neg (by decide)]
 simp only [if_true]
 unfold brkA
 rw [h3]
theorem pie_escd {c : UInt8} (h1 : c ≠ 110) (h2 : isAl c = false) : pieE [92,c] 0 = .nod 2 (setN (ofL [c])):=by
 rw [pie_esc (r:=[c]) rfl]
 have hd : ¬ (49 ≤ c ∧ c ≤ 57):=fun h => by
  have a1 : (49 : UInt8).toNat ≤ c.toNat:=UInt8.le_iff_toNat_le.1 h.1
  have a2 : c.toNat ≤ (57 : UInt8).toNat:=UInt8.le_iff_toNat_le.1 h.2
  have e1 : (49 : UInt8).toNat = 49:=rfl
  have e2 : (57 : UInt8).toNat = 57:=rfl
  have : isAl c = true:=by unfold isAl cAlnum cDigit;rw [isW_in (by omega) (by omega)];simp
  rw [this] at h2;cases h2
 simp only [escE]
 rw [if_neg h1,if_neg hd,h2]
 rfl
theorem pie_nl : pieE [92,110] 0 = .nod 2 (setN (ofL [10])):=by rfl
def No3 (ns : List Nod) : Prop:=∀ n ∈ ns,n.kind ≠ 3
theorem No3.snoc {ns : List Nod} (h : No3 ns) {n : Nod} (hn : n.kind ≠ 3) : No3 (ns ++ [n]):=fun m hm => by
 rcases List.mem_append.1 hm with hm | hm
 · exact h m hm
 · simp only [List.mem_singleton] at hm;subst hm;exact hn
theorem No3.chnF : ∀ (r : List Int) (x : Int) (ns : List Nod),No3 ns → No3 (Go.Proofs.YtonjnagcdnmcpaaGreatDoor.chnF 2 x ns r).2
 | [],x,ns,h => by rw [chnF_nil];exact h
 | p :: r,x,ns,h => by rw [chnF_cons];exact No3.chnF r _ _ (h.snoc (by simp [twoN]))
theorem No3.cat {ps : List Int} {ns ns' : List Nod} {y : Int} (h : No3 ns) (hc : catS ns ps = some (y,ns')) : No3 ns':=by
 cases ps with
 | nil =>
  rw [catS_nil] at hc
  split at hc
  · simp only [Option.some.injEq,Prod.mk.injEq] at hc
    obtain ⟨-,rfl⟩:=hc
    exact h.snoc (by simp [emptyN])
  · cases hc
 | cons x r =>
  have:=No3.chnF r x ns h
  rw [catGo_is r x ns y ns' hc] at this
  exact this
theorem No3.step {l : List UInt8} {c c1 : Cf} (h : No3 c.ns) (hs : step l c = .go c1) : No3 c1.ns:=by
 obtain ⟨ct,i,ns,g,cl,ps,lv⟩:=c
 have hat : stepA ⟨.L,i,ns,g,cl,ps,lv⟩ (atomA l i) = .go c1 → No3 c1.ns:=fun hs => by
  cases ha : atomA l i with
  | bad e => rw [ha] at hs;cases hs
  | opn =>
   rw [ha] at hs
   simp only [stepA] at hs
   split at hs
   · injection hs with hs;subst hs;exact h
   · cases hs
  | bak q =>
   rw [ha] at hs
   simp only [stepA] at hs
   split at hs
   · obtain ⟨-,hs⟩:=putS_go hs
     injection hs with hs;subst hs;exact h.snoc (by simp [backN])
   · cases hs
  | nod j nd =>
   have hk:=atm_kinds.1 j nd ha
   rw [ha] at hs
   simp only [stepA] at hs
   obtain ⟨-,hs⟩:=putS_go hs
   injection hs with hs;subst hs
   refine h.snoc ?_
   rcases hk with ⟨f,rfl⟩ | ⟨rfl,-⟩
   · simp [setN]
   · simp [eolN]
 cases ct with
 | B =>
  change stepB l _ = _ at hs
  simp only [stepB] at hs
  split at hs
  · obtain ⟨-,hs⟩:=putS_go hs
    injection hs with hs;subst hs;exact h.snoc (by simp [bolN])
  · injection hs with hs;subst hs;exact h
 | P x =>
  change stepP l _ x = _ at hs
  simp only [stepP] at hs
  split at hs
  · obtain ⟨-,hs⟩:=putS_go hs
    injection hs with hs;subst hs;exact h.snoc (by simp [repN])
  split at hs
  · split at hs
    · cases hs
    · obtain ⟨-,hs⟩:=putS_go hs
      injection hs with hs;subst hs;exact h.snoc (by simp [repN])
  · injection hs with hs;subst hs;exact h
 | L =>
  change stepL l _ = _ at hs
  cases lv with
  | nil =>
   simp only [stepL] at hs
   split at hs
   · split at hs <;> cases hs
   · exact hat hs
  | cons a lv =>
   obtain ⟨q,p⟩:=a
   simp only [stepL] at hs
   split at hs
   · cases hs
   split at hs
   · split at hs
     · cases hs
     · rename_i x ns2 hc
       obtain ⟨-,hs⟩:=putS_go hs
       injection hs with hs;subst hs
       exact (No3.cat h hc).snoc (by simp [groupN])
   · exact hat hs
theorem stepE_fin {t : List UInt8} {c : Ce} {ns : List Nod} {g : Nat} (h : stepE t c = .fin ns g) : c.ct = .L ∧ t.length ≤ c.i ∧ c.lv = [] ∧ (altsE c).2 = ns ∧ c.g = g:=by
 obtain ⟨ct,i,ns1,g1,cl,ps,bs,lv⟩:=c
 have hpm : ∀ (c : Ce) (a : Pm),stepPm c a ≠ .fin ns g:=fun c a h => by
  cases a with
  | bad e => cases h
  | opn => simp only [stepPm] at h;split at h <;> cases h
  | bak q => simp only [stepPm] at h;split at h <;> cases h
  | nod j n => cases h
  | anc n => cases h
 cases ct with
 | B =>
  change stepEB t _ = _ at h
  simp only [stepEB] at h
  split at h
  · cases h
  · exact absurd h (hpm _ _)
 | P x =>
  change stepEP t _ x = _ at h
  simp only [stepEP] at h
  repeat' split at h
  all_goals cases h
 | L =>
  change stepEL t _ = _ at h
  simp only [stepEL] at h
  split at h
  · rename_i hi
    cases lv with
    | cons a lv => cases h
    | nil =>
     simp only at h
     injection h with e1 e2
     exact ⟨rfl,hi,rfl,e1,e2⟩
  · split at h
    · cases h
    · cases lv with
      | nil => exact absurd h (hpm _ _)
      | cons a lv =>
       obtain ⟨q,p,b⟩:=a
       simp only at h
       split at h
       · cases h
       · exact absurd h (hpm _ _)
theorem simE_all {F : Fms} (hF : FormE F) {l : List UInt8} {c c' : Ce} (hs : StepsE l c c') (hi : InvE c) (h : SimE F c) : SimE F c' ∧ InvE c':=by
 induction hs with
 | refl => exact ⟨h,hi⟩
 | head h1 _ ih => exact ih (stepE_inv hi h1) (simE_step hF hi h h1)
theorem simE0 (F : Fms) : SimE F ce0:=⟨[],rfl,fun s _ => .refl _⟩
theorem ext_back {F : Fms} (hF : FormE F) {l : List UInt8} {ns : List Nod} {g : Nat} (h : EndX l (.fin ns g)) : ∃ ns',Lk ns ns' ∧ EndX (tx F ns ((ns.length : Int) - 1)) (.fin ns' g):=by
 rcases h with ⟨rfl,h⟩ | ⟨hne,c,hs,hst,-⟩
 · injection h with h1 h2
   subst h1 h2
   exact ⟨[emptyN],rfl,.inl ⟨rfl,rfl⟩⟩
 · obtain ⟨⟨ns1',hl,hr⟩,hinv⟩:=simE_all hF hs invE0 (simE0 F)
   obtain ⟨e1,e2,e3,e4,e5⟩:=stepE_fin hst
   obtain ⟨ct,i,ns1,g1,cl,ps,bs,lv⟩:=c
   simp only at e1 e2 e3 e4 e5 hl hr
   subst e1 e3 e5
   have hok:=hinv.tree.ok
   have kps : ∀ p ∈ ps,okP (ns1.length : Int) p = true:=fun p hp => hok p (by simp [rootsE,hp])
   have kbs : ∀ p ∈ bs,okP (ns1.length : Int) p = true:=fun p hp => hok p (by simp [rootsE,hp])
   obtain ⟨hpe,hlast⟩ : ∃ hne : ps ≠ [],ps.getLast hne = (ns1.length : Int) - 1:=hinv.last
   obtain ⟨m,hm⟩:=chn_ext 2 ns1 ps
   have hlen : ns1.length ≤ (chn 2 ns1 ps).2.length:=by rw [hm];simp
   have hbr : ∀ p ∈ bs ++ [(chn 2 ns1 ps).1],okP ((chn 2 ns1 ps).2.length : Int) p = true:=fun p hp => by
    rcases List.mem_append.1 hp with hp | hp
    · exact okP_more (kbs p hp) (by omega)
    · simp only [List.mem_singleton] at hp;subst hp;exact chn_ok 2 hpe kps
   have hroot : (altsE ⟨.L,i,ns1,g1,cl,ps,bs,[]⟩).1 = ((altsE ⟨.L,i,ns1,g1,cl,ps,bs,[]⟩).2.length : Int) - 1:=by
    have ht : Fo ns1 g1 (ps ++ (bs ++ [])):=by simpa [rootsE,headE] using hinv.tree
    obtain ⟨k1,k2,k3⟩:=chn_fo 2 (.inl rfl) ht hpe hlast
    have ht2 : Fo (chn 2 ns1 ps).2 g1 ((bs ++ [(chn 2 ns1 ps).1]) ++ []):=by
     refine k1.perm ?_
     rw [← List.cons_append]
     exact List.Perm.append_right _ (List.perm_append_comm (l₁:=[(chn 2 ns1 ps).1]))
    exact (chn_fo 3 (.inr rfl) ht2 (by simp) (by simpa using k2)).2.1
   have hcan : canE F ⟨.L,i,ns1,g1,cl,ps,bs,[]⟩ = tx F ns ((ns.length : Int) - 1):=by
    rw [← e4,← hroot]
    simp only [altsE,branE]
    rw [chn_alt_txt F hbr,chn_cat_txt F hpe kps,hm,List.map_congr_left (g:=fun b => tx F ns1 b ++ [124]) fun b hb => by rw [tx_old (kbs b hb)]]
    show ([] : List UInt8) ++ bodyT F ns1 bs ps .L = _
    unfold bodyT
    simp
   have hc:=hl.chn 2 ps
   have ha:=hc.2.chn 3 (bs ++ [(chn 2 ns1 ps).1])
   have hs2:=hr [] (fun _ => by have : nx [] 0 = -1:=nx_none (nlr _);rw [this];decide)
   rw [List.append_nil,hcan] at hs2
   have hne2 : tx F ns ((ns.length : Int) - 1) ≠ []:=fun e => by
    rw [e] at hs2
    cases hs2 with
    | head h1 _ =>
     change stepEB [] ce0 = _ at h1
     simp [stepEB] at h1
   refine ⟨(chn 3 (chn 2 ns1' ps).2 (bs ++ [(chn 2 ns1 ps).1])).2,by rw [← e4];exact ha.2,.inr ⟨hne2,hs2.ends (.fin ?_)⟩⟩
   show stepEL _ _ = _
   simp only [stepEL]
   rw [if_pos (nlr _)]
   simp only [altsE,branE]
   rw [← hc.1]
def nxtE (l : List UInt8) (i : Nat) : Option Nat :=
 if nx l i = 42 ∨ nx l i = 43 ∨ nx l i = 63 ∨ nx l i = 40 ∨ nx l i = 41 ∨ nx l i = 124 then some (i + 1)
 else if nx l i = 123 then (match ivE l i with | some (_,_,j) => some j | none => none)
 else match pieE l i with | .nod j _ => some j | .anc _ => some (i + 1) | .bak _ => some (i + 2) | _ => none
def depE (l : List UInt8) : Nat → Nat → Nat
 | 0,_ => 0
 | k + 1,i => match nxtE l i with | some j => 1 + depE l k j | none => 0
theorem nxtE_in {l : List UInt8} {i j : Nat} (h : nxtE l i = some j) : i < l.length ∧ i < j:=by
 unfold nxtE at h
 split at h
 · have:=nx_lt (l:=l) (i:=i) (by omega)
   injection h with h
   omega
 · split at h
   · have hi:=nx_lt (l:=l) (i:=i) (by omega)
     split at h
     · rename_i lo hi' k hv
       injection h with h
       have:=ivE_size hi hv
       omega
     · cases h
   · have hp:=pieE_in (t:=l) (i:=i)
     split at h
     · rename_i j' nd hv
       injection h with h
       have:=hp.1 _ _ hv
       omega
     · rename_i nd hv
       injection h with h
       have:=hp.2.1 _ hv
       omega
     · rename_i q hv
       injection h with h
       have:=hp.2.2 _ hv
       omega
     · cases h
theorem depE_more (l : List UInt8) : ∀ k i,depE l k i ≤ depE l (k + 1) i
 | 0,i => Nat.zero_le _
 | k + 1,i => by
  cases hn : nxtE l i with
  | none => simp only [depE,hn];exact nlr _
  | some j =>
   have:=depE_more l k j
   rw [depE,depE,hn]
   simp only
   omega
theorem depE_mono (l : List UInt8) (i : Nat) {k m : Nat} (h : k ≤ m) : depE l k i ≤ depE l m i:=by
 induction h with
 | refl => exact nlr _
 | step _ ih => exact Nat.le_trans ih (depE_more l _ i)
theorem depE_full (l : List UInt8) : ∀ k i,depE l k i ≤ depE l (l.length - i) i
 | 0,i => Nat.zero_le _
 | k + 1,i => by
  cases hn : nxtE l i with
  | none => simp only [depE,hn];exact Nat.zero_le _
  | some j =>
   obtain ⟨h1,h2⟩:=nxtE_in hn
   have e : l.length - i = (l.length - i - 1) + 1:=by omega
   rw [e,depE,depE,hn]
   simp only
   have:=depE_full l k j
   have:=depE_mono l j (show l.length - j ≤ l.length - i - 1 by omega)
   omega
def DE (l : List UInt8) (i : Nat) : Nat:=depE l (l.length - i) i
theorem DE_next {l : List UInt8} {i j : Nat} (h : nxtE l i = some j) : DE l i = DE l j + 1:=by
 obtain ⟨h1,h2⟩:=nxtE_in h
 have e : l.length - i = (l.length - i - 1) + 1:=by omega
 unfold DE
 rw [e,depE,h]
 simp only
 have:=depE_full l (l.length - i - 1) j
 have:=depE_mono l j (show l.length - j ≤ l.length - i - 1 by omega)
 omega
theorem nxt_one {l : List UInt8} {i : Nat} (h : nx l i = 42 ∨ nx l i = 43 ∨ nx l i = 63 ∨ nx l i = 40 ∨ nx l i = 41 ∨ nx l i = 124) : nxtE l i = some (i + 1):=by
 unfold nxtE;rw [if_pos h]
theorem nxt_iv {l : List UInt8} {i j : Nat} {lo hi : Int} (h : nx l i = 123) (hv : ivE l i = some (lo,hi,j)) : nxtE l i = some j:=by
 unfold nxtE;rw [if_neg (by omega),if_pos h,hv]
theorem nxt_nod {l : List UInt8} {i j : Nat} {nd : Nod} (h : pieE l i = .nod j nd) : nxtE l i = some j:=by
 have hi:=(pieE_in (t:=l) (i:=i)).1 _ _ h
 by_cases x0 : nx l i = 42 ∨ nx l i = 43 ∨ nx l i = 63 ∨ nx l i = 123
 · rw [pie_rep_of x0] at h;cases h
 by_cases x4 : nx l i = 41
 · obtain ⟨r,hr⟩:=pie_of (k:=41) x4;rw [pie_par hr] at h;cases h
 by_cases x7 : nx l i = 40
 · rw [pie_opn x7] at h;cases h
 by_cases x1 : nx l i = 124
 · rw [nxt_one (.inr (.inr (.inr (.inr (.inr x1)))))]
   obtain ⟨r,hr⟩:=pie_of (k:=124) x1
   rw [pie_one hr (by decide) (by decide) (by decide) (by decide) (by decide) (by decide) (by decide) (by decide)] at h
   injection h with h1 h2
   rw [h1]
 unfold nxtE
 rw [if_neg (by omega),if_neg (by omega),h]
theorem nxt_anc {l : List UInt8} {i : Nat} {nd : Nod} (h : pieE l i = .anc nd) : nxtE l i = some (i + 1):=by
 by_cases x0 : nx l i = 42 ∨ nx l i = 43 ∨ nx l i = 63 ∨ nx l i = 123
 · rw [pie_rep_of x0] at h;cases h
 by_cases x4 : nx l i = 41
 · exact nxt_one (by omega)
 by_cases x7 : nx l i = 40
 · exact nxt_one (by omega)
 by_cases x1 : nx l i = 124
 · exact nxt_one (by omega)
 unfold nxtE
 rw [if_neg (by omega),if_neg (by omega),h]
theorem nxt_bak {l : List UInt8} {i q : Nat} (h : pieE l i = .bak q) : nxtE l i = some (i + 2):=by
 have hi:=(pieE_in (t:=l) (i:=i)).2.2 _ h
 by_cases x0 : nx l i = 42 ∨ nx l i = 43 ∨ nx l i = 63 ∨ nx l i = 123
 · rw [pie_rep_of x0] at h;cases h
 by_cases x4 : nx l i = 41
 · obtain ⟨r,hr⟩:=pie_of (k:=41) x4;rw [pie_par hr] at h;cases h
 by_cases x7 : nx l i = 40
 · rw [pie_opn x7] at h;cases h
 by_cases x1 : nx l i = 124
 · obtain ⟨r,hr⟩:=pie_of (k:=124) x1
   rw [pie_one hr (by decide) (by decide) (by decide) (by decide) (by decide) (by decide) (by decide) (by decide)] at h
   cases h
 unfold nxtE
 rw [if_neg (by omega),if_neg (by omega),h]
theorem pot_DE (l : List UInt8) : Pot l (fun i => 2 * DE l i) where
 one i h:=by have:=DE_next (nxt_one h);omega
 iv i lo hi j h e:=by have:=DE_next (nxt_iv h e);omega
 nod i j nd h:=by have:=DE_next (nxt_nod h);omega
 anc i nd h:=by have:=DE_next (nxt_anc h);omega
 bak i q h:=by have:=DE_next (nxt_bak h);omega
end Go.Proofs.YtonjnagcdnmcpaaGreatDoor
