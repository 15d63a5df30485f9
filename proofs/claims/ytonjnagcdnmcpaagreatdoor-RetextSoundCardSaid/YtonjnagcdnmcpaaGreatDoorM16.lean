/- Contracts and plain facts: M16. -/
import Derived.Test.YtonjnagcdnmcpaaGreatDoorM15
set_option linter.unusedVariables false
set_option linter.unusedSimpArgs false
set_option maxRecDepth 100000
set_option maxHeartbeats 32000000
namespace Go.Proofs.YtonjnagcdnmcpaaGreatDoor
open Go.RowKit
structure Fo (ns : List Nod) (g : Nat) (R : List Int) : Prop where
 fit : ∀ k (hk : k < ns.length),fitsN (ns[k]'hk) (k : Int) (g : Int) = true
 ok : ∀ p ∈ R,okP (ns.length : Int) p = true
 use : ∀ j,j < ns.length → usesN ns j + cntI R j = 1
theorem Fo.nil_ (g : Nat) : Fo [] g []:=⟨fun k hk => by simp at hk,fun p h => by simp at h,fun j h => by simp at h⟩
section
variable {ns : List Nod} {g : Nat} {R R' : List Int}
theorem Fo.perm (h : Fo ns g R) (hp : R.Perm R') : Fo ns g R':=⟨h.fit,fun p hm => h.ok p (hp.mem_iff.2 hm),fun j hj => by rw [← cntI_perm hp];exact h.use j hj⟩
theorem Fo.more (h : Fo ns g R) {g' : Nat} (hg : g ≤ g') : Fo ns g' R:=⟨fun k hk => fitsN_more (h.fit k hk) (by omega),h.ok,h.use⟩
theorem Fo.parts (h : Fo ns g R) : ∀ p ∈ ns.flatMap partsN,okP (ns.length : Int) p = true:=by
 intro p hp
 obtain ⟨nd,hn,hp⟩:=List.mem_flatMap.1 hp
 obtain ⟨k,hk,rfl⟩:=List.getElem_of_mem hn
 have:=fits_part (h.fit k hk) hp
 rw [okP_iff];omega
theorem Fo.node {P : List Int} (h : Fo ns g (P ++ R)) {nd : Nod} (hP : partsN nd = P) (hf : fitsN nd (ns.length : Int) (g : Int) = true) : Fo (ns ++ [nd]) g ((ns.length : Int) :: R):=by
 refine ⟨fun k hk => ?_,fun p hp => ?_,fun j hj => ?_⟩
 · rw [lla,lls] at hk
   by_cases hk' : k < ns.length
   · rw [List.getElem_append_left hk'];exact h.fit k hk'
   · obtain rfl : k = ns.length:=by omega
     rw [List.getElem_append_right (nlr _)]
     simpa using hf
 · rw [lla,lls]
   rcases List.mem_cons.1 hp with rfl | hp
   · exact okP_last _
   · exact okP_more (h.ok p (by simp [hp])) (by omega)
 · rw [lla,lls] at hj
   rw [usesN_snoc,hP,cntI_cons]
   by_cases hj' : j < ns.length
   · have:=h.use j hj'
     rw [cntI_append] at this
     rw [if_neg (by omega)];omega
   · obtain rfl : j = ns.length:=by omega
     have h1 : usesN ns ns.length = 0:=cntI_zero fun x hx e => by have:=h.parts x hx;rw [okP_iff] at this;omega
     have h2 : cntI P ns.length = 0:=cntI_zero fun x hx e => by have:=h.ok x (by simp [hx]);rw [okP_iff] at this;omega
     have h3 : cntI R ns.length = 0:=cntI_zero fun x hx e => by have:=h.ok x (by simp [hx]);rw [okP_iff] at this;omega
     rw [if_pos rfl];omega
end
theorem grps_two {ns : List Nod} {k a b : Int} (hk : k ≠ 5) (q : Nat) : grpsN (ns ++ [twoN k a b]) q = grpsN ns q:=by
 rw [grpsN_snoc,if_neg (by rintro ⟨e,_⟩;exact hk e)];omega
theorem chnF_fo (k : Int) (hk : k = 2 ∨ k = 3) (g : Nat) (R : List Int) : ∀ (ps : List Int) (x : Int) (ns : List Nod),Fo ns g (x :: ps ++ R) → (ps = [] → x = (ns.length : Int) - 1) →
    Fo (chnF k x ns ps).2 g ((chnF k x ns ps).1 :: R) ∧ (chnF k x ns ps).1 = ((chnF k x ns ps).2.length : Int) - 1 ∧ (∀ q,grpsN (chnF k x ns ps).2 q = grpsN ns q)
 | [],x,ns,h,hl => by rw [chnF_nil];exact ⟨h,hl rfl,fun _ => rfl⟩
 | p :: r,x,ns,h,hl => by
  have hx:=h.ok x (by simp)
  have hp:=h.ok p (by simp)
  have h1 : Fo (ns ++ [twoN k x p]) g ((ns.length : Int) :: (r ++ R)):=Fo.node (P:=[x,p]) (R:=r ++ R) h (by rcases hk with rfl | rfl <;> rfl) (by rw [fits_two k hk,hx,hp];rfl)
  have:=chnF_fo k hk g R r _ _ h1 (fun _ => by rw [lla,lls];omega)
  rw [chnF_cons]
  exact ⟨this.1,this.2.1,fun q => by rw [this.2.2 q,grps_two (by rcases hk with rfl | rfl <;> decide)]⟩
theorem chn_fo (k : Int) (hk : k = 2 ∨ k = 3) {g : Nat} {R ps : List Int} {ns : List Nod} (h : Fo ns g (ps ++ R)) (hne : ps ≠ []) (hl : ps.getLast hne = (ns.length : Int) - 1) :
    Fo (chn k ns ps).2 g ((chn k ns ps).1 :: R) ∧ (chn k ns ps).1 = ((chn k ns ps).2.length : Int) - 1 ∧ (∀ q,grpsN (chn k ns ps).2 q = grpsN ns q):=by
 cases ps with
 | nil => exact absurd rfl hne
 | cons x r =>
  rw [chn_cons]
  exact chnF_fo k hk g R r x ns h (fun e => by subst e;simpa using hl)
def headE : Ct → List Int
 | .P x => [x]
 | _ => []
def rootsE (c : Ce) : List Int:=headE c.ct ++ (c.ps ++ (c.bs ++ c.lv.flatMap fun a => a.2.1 ++ a.2.2))
def opensE (c : Ce) : List Int:=c.lv.map fun a => (a.1 : Int)
structure InvE (c : Ce) : Prop where
 tree : Fo c.ns c.g (rootsE c)
 grp : ∀ q,1 ≤ q → q ≤ c.g → grpsN c.ns q + cntI (opensE c) q = 1
 opn : ∀ q ∈ opensE c,1 ≤ q ∧ q ≤ (c.g : Int)
 nine : c.g ≤ 9
 clg : ∀ q,c.cl q = true → 1 ≤ q ∧ q ≤ c.g
 last : match c.ct with
  | .P x => x = (c.ns.length : Int) - 1
  | .L => ∃ hne : c.ps ≠ [],c.ps.getLast hne = (c.ns.length : Int) - 1
  | .B => c.ps = []
theorem invE0 : InvE ce0:=⟨Fo.nil_ 0,fun q h1 h2 => by simp [ce0] at h2;omega,fun q h => by simp [opensE,ce0] at h,by simp [ce0],fun q h => by simp [ce0] at h,rfl⟩
theorem InvE.atom {t : List UInt8} {c c' : Ce} (h : InvE c) (hct : c.ct = .B ∨ c.ct = .L) (hs : stepPm c (pieE t c.i) = .go c') : InvE c':=by
 obtain ⟨ct,i,ns,g,cl,ps,bs,lv⟩:=c
 have ht : Fo ns g (ps ++ (bs ++ lv.flatMap fun a => a.2.1 ++ a.2.2)):=by
  have:=h.tree
  simp only [rootsE] at this
  rcases hct with e | e
  · simp only at e;subst e;simpa [headE] using this
  · simp only at e;subst e;simpa [headE] using this
 have hgrp:=h.grp
 have hopn:=h.opn
 have hnine:=h.nine
 have hclg:=h.clg
 simp only [opensE] at hgrp hopn hnine hclg
 have leaf : ∀ (nd : Nod) (j : Nat),partsN nd = [] → fitsN nd (ns.length : Int) (g : Int) = true → nd.kind ≠ 5 → InvE ⟨.P (ns.length : Int),j,ns ++ [nd],g,cl,ps,bs,lv⟩:=fun nd j hp hf hk =>
  ⟨Fo.node (P:=[]) ht hp hf,fun q h1 h2 => by rw [grpsN_snoc,if_neg (fun e => hk e.1)];have:=hgrp q h1 h2;simp only [opensE];omega,hopn,hnine,hclg,by simp⟩
 have ham : ∀ a : Am,stepPm ⟨ct,i,ns,g,cl,ps,bs,lv⟩ (ofAm a) = .go c' → (∀ j nd,a = .nod j nd → (∃ f,nd = setN f)) → InvE c':=by
  intro a hs hn
  cases a with
  | bad e => cases hs
  | opn =>
   simp only [ofAm,stepPm] at hs
   split at hs
   · rename_i hg
     injection hs with hs
     subst hs
     refine ⟨?_,fun q q1 q2 => ?_,fun q hq => ?_,hg,fun q hq => ?_,rfl⟩
     · have:=ht.more (Nat.le_succ g)
       simpa [rootsE,headE] using this
     · simp only [opensE,List.map_cons] at q2 ⊢
       rw [cntI_cons]
       by_cases hq : q = g + 1
       · subst hq
         have e1 : grpsN ns (g + 1) = 0:=cntI_zero fun x hx e => by
          obtain ⟨nd,hn,rfl⟩:=List.mem_map.1 hx
          obtain ⟨hn,hk⟩:=List.mem_filter.1 hn
          obtain ⟨k,hk2,rfl⟩:=List.getElem_of_mem hn
          have:=fits_grp (ht.fit k hk2) (by simpa using hk)
          omega
         have e2 : cntI (lv.map fun a => (a.1 : Int)) (g + 1) = 0:=cntI_zero fun x hx e => by
          have:=hopn x hx
          omega
         rw [if_pos rfl];omega
       · have:=hgrp q q1 (by omega)
         rw [if_neg (by omega)];omega
     · simp only [opensE,List.map_cons,List.mem_cons] at hq
       simp only
       rcases hq with rfl | hq
       · omega
       · have:=hopn q hq
         omega
     · have:=hclg q hq
       simp only
       omega
   · cases hs
  | bak q =>
   simp only [ofAm,stepPm] at hs
   split at hs
   · rename_i hq
     injection hs with hs
     subst hs
     have hqg:=hclg q hq
     exact leaf (backN (q : Int)) _ rfl (fits_back (by omega) (by omega)) (by simp [backN])
   · cases hs
  | nod j nd =>
   simp only [ofAm,stepPm] at hs
   injection hs with hs
   subst hs
   obtain ⟨f,rfl⟩:=hn j nd rfl
   exact leaf (setN f) _ rfl (fits_set f _ _) (by simp [setN])
 have anc : ∀ nd : Nod,stepPm ⟨ct,i,ns,g,cl,ps,bs,lv⟩ (.anc nd) = .go c' → partsN nd = [] → fitsN nd (ns.length : Int) (g : Int) = true → nd.kind ≠ 5 → InvE c':=by
  intro nd hs hp hf hk
  simp only [stepPm] at hs
  injection hs with hs
  subst hs
  refine ⟨?_,fun q h1 h2 => by rw [grpsN_snoc,if_neg (fun e => hk e.1)];have:=hgrp q h1 h2;simp only [opensE];omega,hopn,hnine,hclg,⟨by simp,by simp⟩⟩
  have h1:=Fo.node (P:=[]) ht hp hf
  refine h1.perm ?_
  show ((ns.length : Int) :: (ps ++ (bs ++ lv.flatMap fun a => a.2.1 ++ a.2.2))).Perm ([] ++ ((ps ++ [(ns.length : Int)]) ++ (bs ++ lv.flatMap fun a => a.2.1 ++ a.2.2)))
  rw [List.nil_append,← List.cons_append]
  exact List.Perm.append_right _ (List.perm_append_comm (l₁:=[(ns.length : Int)]))
 have pie : ∀ r : List UInt8,stepPm ⟨ct,i,ns,g,cl,ps,bs,lv⟩ (pieR t i r) = .go c' → InvE c':=by
  intro r hs
  cases r with
  | nil => cases hs
  | cons x r =>
   simp only [pieR] at hs
   split at hs
   · cases hs
   · split at hs
     · cases hs
     · split at hs
       · exact anc bolN hs rfl (fits_plain 7 (.inr (.inl rfl)) _ _) (by decide)
       · split at hs
         · exact anc eolN hs rfl (fits_plain 8 (.inr (.inr rfl)) _ _) (by decide)
         · split at hs
           · exact ham .opn hs (fun j nd e => by cases e)
           · split at hs
             · refine ham _ hs fun j nd e => ?_
               cases r with
               | nil => cases e
               | cons y r =>
                simp only [escE] at e
                repeat' split at e
                all_goals first
                 | (simp only [Am.nod.injEq] at e;exact ⟨_,e.2.symm⟩)
                 | cases e
             · split at hs
               · refine ham _ hs fun j nd e => ?_
                 unfold brkA at e
                 split at e
                 · cases e
                 · simp only [Am.nod.injEq] at e;exact ⟨_,e.2.symm⟩
               · split at hs
                 · exact ham (.nod (i + 1) (setN allS)) hs (fun j nd e => by simp only [Am.nod.injEq] at e;exact ⟨_,e.2.symm⟩)
                 · exact ham (.nod (i + 1) (setN (ofL [x]))) hs (fun j nd e => by simp only [Am.nod.injEq] at e;exact ⟨_,e.2.symm⟩)
 exact pie _ hs
theorem stepE_inv {t : List UInt8} {c c' : Ce} (h : InvE c) (hs : stepE t c = .go c') : InvE c':=by
 obtain ⟨ct,i,ns,g,cl,ps,bs,lv⟩:=c
 cases ct with
 | B =>
  change stepEB t _ = _ at hs
  simp only [stepEB] at hs
  split at hs
  · cases hs
  · exact InvE.atom h (.inl rfl) hs
 | P x =>
  have hx : x = (ns.length : Int) - 1:=h.last
  have ht : Fo ns g ([x] ++ (ps ++ (bs ++ lv.flatMap fun a => a.2.1 ++ a.2.2))):=h.tree
  have hok:=ht.ok x (by simp)
  have hrep : ∀ (lo hi : Int) (j : Nat),timesN lo hi = true → InvE ⟨.P (ns.length : Int),j,ns ++ [repN x lo hi],g,cl,ps,bs,lv⟩:=fun lo hi j htm =>
   ⟨Fo.node (P:=[x]) ht rfl (fits_rep hok htm),fun q h1 h2 => by rw [grpsN_snoc,if_neg (by rintro ⟨e,_⟩;simp [repN] at e)];have:=h.grp q h1 h2;simp only [opensE] at this ⊢;omega,h.opn,h.nine,h.clg,by simp⟩
  change stepEP t _ x = _ at hs
  simp only [stepEP] at hs
  split at hs
  · injection hs with hs;subst hs;exact hrep 0 (-1) _ (by decide)
  · split at hs
    · injection hs with hs;subst hs;exact hrep 1 (-1) _ (by decide)
    · split at hs
      · injection hs with hs;subst hs;exact hrep 0 1 _ (by decide)
      · split at hs
        · rename_i hn
          cases hv : ivE t i with
          | none => rw [hv] at hs;cases hs
          | some p =>
           obtain ⟨lo,hi,j⟩:=p
           rw [hv] at hs
           simp only at hs
           injection hs with hs
           subst hs
           refine hrep lo hi _ ?_
           have hil:=nx_lt (l:=t) (i:=i) (by omega)
           unfold ivE at hv
           cases hr : rivI t (i + 1) with
           | none => rw [hr] at hv;cases hv
           | some p2 =>
            obtain ⟨a,b,k⟩:=p2
            rw [hr] at hv
            simp only at hv
            split at hv
            · have:=riv_times (by omega) hr
              simp only [Option.some.injEq,Prod.mk.injEq] at hv
              obtain ⟨rfl,rfl,-⟩:=hv
              exact this
            · cases hv
        · injection hs with hs
          subst hs
          refine ⟨ht.perm ?_,h.grp,h.opn,h.nine,h.clg,⟨by simp,by simp [hx]⟩⟩
          show ([x] ++ (ps ++ (bs ++ lv.flatMap fun a => a.2.1 ++ a.2.2))).Perm ([] ++ ((ps ++ [x]) ++ (bs ++ lv.flatMap fun a => a.2.1 ++ a.2.2)))
          rw [List.nil_append,← List.append_assoc]
          exact List.Perm.append_right _ List.perm_append_comm
 | L =>
  obtain ⟨hne,hlast⟩ : ∃ hne : ps ≠ [],ps.getLast hne = (ns.length : Int) - 1:=h.last
  have ht : Fo ns g (ps ++ (bs ++ lv.flatMap fun a => a.2.1 ++ a.2.2)):=by simpa [rootsE,headE] using h.tree
  obtain ⟨k1,k2,k3⟩:=chn_fo 2 (.inl rfl) ht hne hlast
  change stepEL t _ = _ at hs
  simp only [stepEL] at hs
  split at hs
  · cases lv with
    | nil => cases hs
    | cons a lv => cases hs
  · split at hs
    · injection hs with hs
      subst hs
      refine ⟨?_,fun q h1 h2 => by have:=h.grp q h1 h2;simp only [opensE,branE] at this ⊢;rw [k3];exact this,h.opn,h.nine,h.clg,rfl⟩
      refine k1.perm ?_
      simp only [rootsE,headE,branE,List.nil_append]
      rw [← List.cons_append]
      exact List.Perm.append_right _ (List.perm_append_comm (l₁:=[(chn 2 ns ps).1]))
    · cases lv with
      | nil => exact InvE.atom h (.inr rfl) hs
      | cons a lv =>
       obtain ⟨q,p,b⟩:=a
       simp only at hs
       split at hs
       · injection hs with hs
         subst hs
         have ht2 : Fo (chn 2 ns ps).2 g ((bs ++ [(chn 2 ns ps).1]) ++ ((p ++ b) ++ lv.flatMap fun a => a.2.1 ++ a.2.2)):=by
          refine k1.perm ?_
          simp only [List.flatMap_cons]
          rw [← List.cons_append]
          exact List.Perm.append_right _ (List.perm_append_comm (l₁:=[(chn 2 ns ps).1]))
         obtain ⟨m1,m2,m3⟩:=chn_fo 3 (.inr rfl) ht2 (by simp) (by simpa using k2)
         have hqg:=h.opn (q : Int) (by simp [opensE])
         simp only at hqg
         generalize hA : altsE ⟨.L,i,ns,g,cl,ps,bs,(q,p,b) :: lv⟩ = X
         have hA' : chn 3 (chn 2 ns ps).2 (bs ++ [(chn 2 ns ps).1]) = X:=hA
         rw [hA'] at m1 m2 m3
         have hxo:=m1.ok _ (List.mem_cons_self)
         have hq1 : 1 ≤ q:=by omega
         have hq2 : q ≤ g:=by omega
         refine ⟨?_,fun z h1 h2 => ?_,fun z hz => h.opn z (by simp only [opensE,List.map_cons,List.mem_cons] at hz ⊢;exact .inr hz),h.nine,fun z hz => ?_,by simp⟩
         · have:=Fo.node (nd:=groupN (q : Int) X.1) (P:=[X.1]) m1 rfl (fits_group hxo (by omega) (by omega))
           simpa [rootsE,headE,List.append_assoc] using this
         · rw [grpsN_snoc,m3,k3]
           have:=h.grp z h1 h2
           simp only [opensE,List.map_cons] at this ⊢
           rw [cntI_cons] at this
           have e5 : (groupN (q : Int) X.1).kind = 5:=rfl
           have eg : (groupN (q : Int) X.1).grp = (q : Int):=rfl
           rw [e5,eg]
           by_cases hz : (q : Int) = (z : Int)
           · rw [if_pos hz] at this
             rw [if_pos ⟨rfl,hz⟩];omega
           · rw [if_neg hz] at this
             rw [if_neg (fun e => hz e.2)];omega
         · simp only [setQ] at hz
           split at hz
           · rename_i e
             subst e
             exact ⟨hq1,hq2⟩
           · exact h.clg z hz
       · exact InvE.atom h (.inr rfl) hs
theorem StepsE.inv {t : List UInt8} {c c' : Ce} (hs : StepsE t c c') (h : InvE c) : InvE c':=by
 induction hs with
 | refl => exact h
 | head h1 _ ih => exact ih (stepE_inv h h1)
theorem InvE.right {i : Nat} {ns : List Nod} {g : Nat} {cl : Nat → Bool} {ps bs : List Int} {x : Int} {ns' : List Nod} (h : InvE ⟨.L,i,ns,g,cl,ps,bs,[]⟩) (hc : altsE ⟨.L,i,ns,g,cl,ps,bs,[]⟩ = (x,ns')) (hlen : ns'.length ≤ 1000) : rightN ns' (g : Int) = true ∧ x = (ns'.length : Int) - 1 ∧ 1 ≤ ns'.length ∧ g ≤ 9:=by
 obtain ⟨hne,hlast⟩ : ∃ hne : ps ≠ [],ps.getLast hne = (ns.length : Int) - 1:=h.last
 have ht : Fo ns g (ps ++ (bs ++ [])):=by simpa [rootsE,headE] using h.tree
 obtain ⟨k1,k2,k3⟩:=chn_fo 2 (.inl rfl) ht hne hlast
 have ht2 : Fo (chn 2 ns ps).2 g ((bs ++ [(chn 2 ns ps).1]) ++ []):=by
  refine k1.perm ?_
  rw [← List.cons_append]
  exact List.Perm.append_right _ (List.perm_append_comm (l₁:=[(chn 2 ns ps).1]))
 obtain ⟨m1,m2,m3⟩:=chn_fo 3 (.inr rfl) ht2 (by simp) (by simpa using k2)
 have hc' : chn 3 (chn 2 ns ps).2 (bs ++ [(chn 2 ns ps).1]) = (x,ns'):=hc
 rw [hc'] at m1 m2 m3
 simp only at m1 m2 m3
 have hxo:=m1.ok x (by simp)
 rw [okP_iff] at hxo
 have h9 : g ≤ 9:=h.nine
 have h1 : 1 ≤ ns'.length:=by omega
 refine ⟨?_,m2,h1,h9⟩
 rw [rightN_end ⟨h1,hlen,by omega,by omega⟩ m1.fit]
 rw [onceL_yes,onceL_yes]
 · rfl
 · intro k hk
   rw [List.length_map,List.length_range,Int.toNat_natCast] at hk
   rw [List.getElem_map,List.getElem_range,m3,k3]
   have:=h.grp (k + 1) (by omega) (by simp only;omega)
   simpa [opensE,cntI] using this
 · intro k hk
   rw [List.length_map,List.length_range] at hk
   rw [List.getElem_map,List.getElem_range]
   have:=m1.use k (by omega)
   rw [cntI_cons,if_neg (by omega)] at this
   simpa [cntI] using this
structure Fms where
 st : (Nat → Bool) → List UInt8
 rt : Int → Int → List UInt8
 op : List UInt8
 cs : List UInt8
theorem snoc_ind {α : Type} {P : List α → Prop} (h0 : P []) (h1 : ∀ l a,P l → P (l ++ [a])) : ∀ l,P l:=fun l => by
 rw [← List.reverse_reverse l]
 generalize l.reverse = r
 induction r with
 | nil => exact h0
 | cons a r ih => rw [List.reverse_cons];exact h1 _ _ ih
def tat (ts : List (List UInt8)) (x : Int) : List UInt8:=ts.getD x.toNat []
def ntx (F : Fms) (ts : List (List UInt8)) (n : Nod) : List UInt8 :=
 if n.kind = 1 then F.st n.set else if n.kind = 2 then tat ts n.a ++ tat ts n.b else if n.kind = 3 then tat ts n.a ++ 124 :: tat ts n.b
 else if n.kind = 4 then tat ts n.a ++ F.rt n.lo n.hi else if n.kind = 5 then F.op ++ (tat ts n.a ++ F.cs)
 else if n.kind = 6 then [92,UInt8.ofNat (48 + n.grp.toNat)] else if n.kind = 7 then [94] else if n.kind = 8 then [36] else []
def txs (F : Fms) (ns : List Nod) : List (List UInt8):=ns.foldl (fun ts n => ts ++ [ntx F ts n]) []
def tx (F : Fms) (ns : List Nod) (x : Int) : List UInt8:=tat (txs F ns) x
section
variable {F : Fms} {ns m : List Nod} {n : Nod} {x a b : Int}
theorem txs_snoc : txs F (ns ++ [n]) = txs F ns ++ [ntx F (txs F ns) n]:=by unfold txs;rw [List.foldl_append];rfl
theorem txs_len : ∀ ns : List Nod,(txs F ns).length = ns.length :=
 snoc_ind rfl fun l a ih => by rw [txs_snoc,lla,ih];simp
theorem txs_app (ns : List Nod) : ∀ m : List Nod,∃ r,txs F (ns ++ m) = txs F ns ++ r :=
 snoc_ind ⟨[],by simp⟩ fun l a ih => by
  obtain ⟨r,hr⟩:=ih
  refine ⟨r ++ [ntx F (txs F (ns ++ l)) a],?_⟩
  rw [← List.append_assoc,txs_snoc,hr,List.append_assoc]
theorem tx_old (hx : okP (ns.length : Int) x = true) : tx F (ns ++ m) x = tx F ns x:=by
 obtain ⟨r,hr⟩:=txs_app (F:=F) ns m
 rw [okP_iff] at hx
 unfold tx tat
 rw [hr,List.getD_eq_getElem?_getD,List.getD_eq_getElem?_getD,List.getElem?_append_left (by rw [txs_len];omega)]
theorem tx_new : tx F (ns ++ [n]) (ns.length : Int) = ntx F (txs F ns) n:=by
 unfold tx tat
 rw [txs_snoc,Int.toNat_natCast,List.getD_eq_getElem?_getD,List.getElem?_append_right (by rw [txs_len];omega),txs_len,Nat.sub_self]
 rfl
theorem tx_cat : tx F (ns ++ [twoN 2 a b]) (ns.length : Int) = tx F ns a ++ tx F ns b:=by rw [tx_new];rfl
theorem tx_alt : tx F (ns ++ [twoN 3 a b]) (ns.length : Int) = tx F ns a ++ 124 :: tx F ns b:=by rw [tx_new];rfl
theorem tx_set (f : Nat → Bool) : tx F (ns ++ [setN f]) (ns.length : Int) = F.st f:=by rw [tx_new];rfl
theorem tx_rep (lo hi : Int) : tx F (ns ++ [repN a lo hi]) (ns.length : Int) = tx F ns a ++ F.rt lo hi:=by rw [tx_new];rfl
theorem tx_group (q : Int) : tx F (ns ++ [groupN q a]) (ns.length : Int) = F.op ++ (tx F ns a ++ F.cs):=by rw [tx_new];rfl
theorem tx_back (q : Nat) : tx F (ns ++ [backN (q : Int)]) (ns.length : Int) = [92,UInt8.ofNat (48 + q)]:=by rw [tx_new];rfl
theorem tx_bol : tx F (ns ++ [bolN]) (ns.length : Int) = [94]:=by rw [tx_new];rfl
theorem tx_eol : tx F (ns ++ [eolN]) (ns.length : Int) = [36]:=by rw [tx_new];rfl
end
theorem chnF_ext (k : Int) : ∀ (r : List Int) (x : Int) (ns : List Nod),∃ m,(chnF k x ns r).2 = ns ++ m
 | [],x,ns => ⟨[],by rw [chnF_nil];simp⟩
 | p :: r,x,ns => by
  obtain ⟨m,hm⟩:=chnF_ext k r (ns.length : Int) (ns ++ [twoN k x p])
  exact ⟨twoN k x p :: m,by rw [chnF_cons,hm];simp⟩
theorem chn_ext (k : Int) (ns : List Nod) (ps : List Int) : ∃ m,(chn k ns ps).2 = ns ++ m:=by
 cases ps with
 | nil => exact ⟨[],by simp [chn]⟩
 | cons x r => rw [chn_cons];exact chnF_ext k r x ns
theorem chnF_txt (F : Fms) (k : Int) (hk : k = 2 ∨ k = 3) : ∀ (r : List Int) (x : Int) (ns : List Nod),okP (ns.length : Int) x = true → (∀ p ∈ r,okP (ns.length : Int) p = true) →
    tx F (chnF k x ns r).2 (chnF k x ns r).1 = tx F ns x ++ (r.map fun p => (if k = 3 then [124] else []) ++ tx F ns p).flatten
 | [],x,ns,_,_ => by rw [chnF_nil];simp
 | p :: r,x,ns,hx,hr => by
  have hp:=hr p (by simp)
  have hl : ((ns ++ [twoN k x p]).length : Int) = (ns.length : Int) + 1:=by simp
  rw [chnF_cons,chnF_txt F k hk r _ _ (by rw [hl,okP_iff];omega) (fun q hq => by have:=hr q (by simp [hq]);rw [okP_iff] at this;rw [hl,okP_iff];omega)]
  have e1 : tx F (ns ++ [twoN k x p]) (ns.length : Int) = tx F ns x ++ ((if k = 3 then [124] else []) ++ tx F ns p):=by
   rcases hk with rfl | rfl
   · rw [tx_cat];rfl
   · rw [tx_alt];rfl
  have e2 : (r.map fun q => (if k = 3 then [124] else []) ++ tx F (ns ++ [twoN k x p]) q) = r.map fun q => (if k = 3 then [124] else []) ++ tx F ns q :=
   List.map_congr_left fun q hq => by rw [tx_old (hr q (by simp [hq]))]
  rw [e1,e2,List.map_cons,List.flatten_cons,List.append_assoc]
theorem chn_cat_txt (F : Fms) {ns : List Nod} {ps : List Int} (hne : ps ≠ []) (h : ∀ p ∈ ps,okP (ns.length : Int) p = true) : tx F (chn 2 ns ps).2 (chn 2 ns ps).1 = (ps.map (tx F ns)).flatten:=by
 cases ps with
 | nil => exact absurd rfl hne
 | cons x r =>
  rw [chn_cons,chnF_txt F 2 (.inl rfl) r x ns (h x (by simp)) (fun p hp => h p (by simp [hp])),List.map_cons,List.flatten_cons]
  rfl
theorem bars (f : Int → List UInt8) : ∀ (bs : List Int) (y r : Int) (rest : List Int),bs ++ [r] = y :: rest → f y ++ (rest.map fun p => [124] ++ f p).flatten = (bs.map fun b => f b ++ [124]).flatten ++ f r
 | [],y,r,rest,h => by
  simp only [List.nil_append,List.cons.injEq] at h
  obtain ⟨rfl,rfl⟩:=h
  simp
 | b :: bs,y,r,rest,h => by
  simp only [List.cons_append,List.cons.injEq] at h
  obtain ⟨rfl,rfl⟩:=h
  cases hb : bs ++ [r] with
  | nil => simp at hb
  | cons z q =>
   have:=bars f bs z r q hb
   rw [List.map_cons,List.flatten_cons,List.map_cons,List.flatten_cons,List.append_assoc (f b ++ [124]),← this]
   simp
theorem chn_alt_txt (F : Fms) {ns : List Nod} {bs : List Int} {r : Int} (h : ∀ p ∈ bs ++ [r],okP (ns.length : Int) p = true) :
    tx F (chn 3 ns (bs ++ [r])).2 (chn 3 ns (bs ++ [r])).1 = (bs.map fun b => tx F ns b ++ [124]).flatten ++ tx F ns r:=by
 cases hb : bs ++ [r] with
 | nil => simp at hb
 | cons y rest =>
  rw [hb] at h
  rw [chn_cons,chnF_txt F 3 (.inr rfl) rest y ns (h y (by simp)) (fun p hp => h p (by simp [hp]))]
  exact bars (tx F ns) bs y r rest hb
def bodyT (F : Fms) (ns : List Nod) (bs ps : List Int) (ct : Ct) : List UInt8 :=
 (bs.map fun b => tx F ns b ++ [124]).flatten ++ ((ps.map (tx F ns)).flatten ++ (match ct with | .P x => tx F ns x | _ => []))
def lvT (F : Fms) (ns : List Nod) : List (Nat × List Int × List Int) → List UInt8
 | [] => []
 | (_,ps,bs) :: lv => lvT F ns lv ++ (bodyT F ns bs ps .L ++ F.op)
theorem body_old (F : Fms) {ns m : List Nod} {bs ps : List Int} {ct : Ct} (h1 : ∀ p ∈ headE ct,okP (ns.length : Int) p = true) (h2 : ∀ p ∈ ps,okP (ns.length : Int) p = true) (h3 : ∀ p ∈ bs,okP (ns.length : Int) p = true) :
    bodyT F (ns ++ m) bs ps ct = bodyT F ns bs ps ct:=by
 unfold bodyT
 rw [List.map_congr_left (g:=fun b => tx F ns b ++ [124]) fun b hb => by rw [tx_old (h3 b hb)],List.map_congr_left (g:=tx F ns) fun p hp => tx_old (h2 p hp)]
 cases ct with
 | P x => simp only;rw [tx_old (h1 x (by simp [headE]))]
 | B => rfl
 | L => rfl
theorem lv_old (F : Fms) {ns m : List Nod} : ∀ lv : List (Nat × List Int × List Int),(∀ p ∈ lv.flatMap fun a => a.2.1 ++ a.2.2,okP (ns.length : Int) p = true) → lvT F (ns ++ m) lv = lvT F ns lv
 | [],_ => rfl
 | (q,ps,bs) :: lv,h => by
  simp only [List.flatMap_cons,List.mem_append] at h
  show lvT F (ns ++ m) lv ++ (bodyT F (ns ++ m) bs ps .L ++ F.op) = lvT F ns lv ++ (bodyT F ns bs ps .L ++ F.op)
  rw [lv_old F lv (fun p hp => h p (.inr hp)),body_old F (fun p hp => by simp [headE] at hp) (fun p hp => h p (.inl (.inl hp))) (fun p hp => h p (.inl (.inr hp)))]
def Lk (a b : List Nod) : Prop:=a.map nodL = b.map nodL
theorem Lk.len {a b : List Nod} (h : Lk a b) : a.length = b.length:=by have:=congrArg List.length h;simpa using this
theorem Lk.snoc {a b : List Nod} (h : Lk a b) {n m : Nod} (hn : nodL n = nodL m) : Lk (a ++ [n]) (b ++ [m]):=by unfold Lk at h ⊢;rw [List.map_append,List.map_append,h];simp [hn]
theorem Lk.nil_ : Lk [] []:=rfl
theorem Lk.chnF (k : Int) : ∀ (r : List Int) (x : Int) (a b : List Nod),Lk a b → (Go.Proofs.YtonjnagcdnmcpaaGreatDoor.chnF k x a r).1 = (Go.Proofs.YtonjnagcdnmcpaaGreatDoor.chnF k x b r).1 ∧ Lk (Go.Proofs.YtonjnagcdnmcpaaGreatDoor.chnF k x a r).2 (Go.Proofs.YtonjnagcdnmcpaaGreatDoor.chnF k x b r).2
 | [],x,a,b,h => ⟨rfl,h⟩
 | p :: r,x,a,b,h => by
  rw [chnF_cons,chnF_cons,h.len]
  exact Lk.chnF k r _ _ _ (h.snoc rfl)
theorem Lk.chn (k : Int) {a b : List Nod} (h : Lk a b) (ps : List Int) : (Go.Proofs.YtonjnagcdnmcpaaGreatDoor.chn k a ps).1 = (Go.Proofs.YtonjnagcdnmcpaaGreatDoor.chn k b ps).1 ∧ Lk (Go.Proofs.YtonjnagcdnmcpaaGreatDoor.chn k a ps).2 (Go.Proofs.YtonjnagcdnmcpaaGreatDoor.chn k b ps).2:=by
 cases ps with
 | nil => exact ⟨rfl,h⟩
 | cons x r => rw [chn_cons,chn_cons];exact Lk.chnF k r x a b h
end Go.Proofs.YtonjnagcdnmcpaaGreatDoor
