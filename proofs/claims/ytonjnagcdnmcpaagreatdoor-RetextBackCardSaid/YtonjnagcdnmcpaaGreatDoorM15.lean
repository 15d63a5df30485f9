/- Contracts and plain facts: M15. -/
import Derived.Test.YtonjnagcdnmcpaaGreatDoorM14
set_option linter.unusedVariables false
set_option linter.unusedSimpArgs false
set_option maxRecDepth 100000
set_option maxHeartbeats 32000000
namespace Go.Proofs.YtonjnagcdnmcpaaGreatDoor
open Go.RowKit
structure Ce where
 ct : Ct
 i : Nat
 ns : List Nod
 g : Nat
 cl : Nat → Bool
 ps : List Int
 bs : List Int
 lv : List (Nat × List Int × List Int)
inductive Rx
 | go (c : Ce)
 | bad (i e : Nat)
 | fin (ns : List Nod) (g : Nat)
def chnF (k : Int) : Int → List Nod → List Int → Int × List Nod
 | x,ns,[] => (x,ns)
 | x,ns,p :: r => chnF k (ns.length : Int) (ns ++ [twoN k x p]) r
def chn (k : Int) (ns : List Nod) : List Int → Int × List Nod
 | [] => (0,ns)
 | x :: r => chnF k x ns r
theorem chnF_nil (k x : Int) (ns : List Nod) : chnF k x ns [] = (x,ns):=rfl
theorem chnF_cons (k x : Int) (ns : List Nod) (p : Int) (r : List Int) : chnF k x ns (p :: r) = chnF k (ns.length : Int) (ns ++ [twoN k x p]) r:=rfl
theorem chn_cons (k x : Int) (ns : List Nod) (r : List Int) : chn k ns (x :: r) = chnF k x ns r:=rfl
theorem chnF_len (k : Int) : ∀ (r : List Int) (x : Int) (ns : List Nod),(chnF k x ns r).2.length = ns.length + r.length
 | [],x,ns => rfl
 | p :: r,x,ns => by rw [chnF_cons,chnF_len k r,lla,lls,List.length_cons];omega
theorem chn_len (k : Int) (ns : List Nod) {ps : List Int} (h : ps ≠ []) : (chn k ns ps).2.length + 1 = ns.length + ps.length:=by
 cases ps with
 | nil => exact absurd rfl h
 | cons x r => rw [chn_cons,chnF_len,List.length_cons];omega
theorem chnF_snoc (k : Int) : ∀ (r : List Int) (x : Int) (ns : List Nod) (p : Int),chnF k x ns (r ++ [p]) = (((chnF k x ns r).2.length : Int),(chnF k x ns r).2 ++ [twoN k (chnF k x ns r).1 p])
 | [],x,ns,p => rfl
 | q :: r,x,ns,p => by rw [List.cons_append,chnF_cons,chnF_cons,chnF_snoc k r]
theorem chnF_ok (k : Int) : ∀ (r : List Int) (x : Int) (ns : List Nod),okP (ns.length : Int) x = true → okP ((chnF k x ns r).2.length : Int) (chnF k x ns r).1 = true
 | [],x,ns,h => h
 | p :: r,x,ns,h => by rw [chnF_cons];exact chnF_ok k r _ _ (by rw [lla];exact okP_last _)
theorem catGo_chn : ∀ (r : List Int) (x : Int) (ns : List Nod),ns.length + r.length ≤ 1000 → catGo x ns r = some (chnF 2 x ns r)
 | [],x,ns,h => by rw [catGo_nil,chnF_nil]
 | p :: r,x,ns,h => by
  rw [List.length_cons] at h
  rw [catGo_cons,if_pos (by omega),chnF_cons]
  exact catGo_chn r _ _ (by rw [lla,lls];omega)
theorem catS_chn {ns : List Nod} {ps : List Int} (h : ps ≠ []) (hl : ns.length + ps.length ≤ 1000) : catS ns ps = some (chn 2 ns ps):=by
 cases ps with
 | nil => exact absurd rfl h
 | cons x r => rw [catS_cons,chn_cons];exact catGo_chn r x ns (by rw [List.length_cons] at hl;omega)
inductive Pm
 | bad (e : Nat)
 | opn
 | bak (q : Nat)
 | nod (j : Nat) (n : Nod)
 | anc (n : Nod)
def ofAm : Am → Pm
 | .bad e => .bad e
 | .opn => .opn
 | .bak q => .bak q
 | .nod j n => .nod j n
def repB (c : UInt8) : Prop:=c = 42 ∨ c = 43 ∨ c = 63 ∨ c = 123
instance (c : UInt8) : Decidable (repB c):=by unfold repB;infer_instance
def pieR (t : List UInt8) (i : Nat) : List UInt8 → Pm
 | [] => .bad 0
 | c :: r => if repB c then .bad 13 else if c = 41 then .bad 14 else if c = 94 then .anc bolN else if c = 36 then .anc eolN else if c = 40 then .opn else
  if c = 92 then ofAm (escE i r) else if c = 91 then ofAm (brkA t i) else if c = 46 then .nod (i + 1) (setN allS) else .nod (i + 1) (setN (ofL [c]))
def pieE (t : List UInt8) (i : Nat) : Pm:=pieR t i (t.drop i)
def ivE (t : List UInt8) (i : Nat) : Option (Int × Int × Nat):=match rivI t (i + 1) with
 | some (lo,hi,k) => if nx t k = 125 then some (lo,hi,k + 1) else none
 | none => none
def stepPm (c : Ce) : Pm → Rx
 | .bad e => .bad c.i e
 | .opn => if c.g < 9 then .go ⟨.B,c.i + 1,c.ns,c.g + 1,c.cl,[],[],(c.g + 1,c.ps,c.bs) :: c.lv⟩ else .bad c.i 17
 | .bak q => if c.cl q then .go ⟨.P (c.ns.length : Int),c.i + 2,c.ns ++ [backN (q : Int)],c.g,c.cl,c.ps,c.bs,c.lv⟩ else .bad c.i 16
 | .nod j n => .go ⟨.P (c.ns.length : Int),j,c.ns ++ [n],c.g,c.cl,c.ps,c.bs,c.lv⟩
 | .anc n => .go ⟨.L,c.i + 1,c.ns ++ [n],c.g,c.cl,c.ps ++ [(c.ns.length : Int)],c.bs,c.lv⟩
def stepEB (t : List UInt8) (c : Ce) : Rx :=
 if t.length ≤ c.i ∨ nx t c.i = 124 ∨ (c.lv ≠ [] ∧ nx t c.i = 41) then .bad c.i 15 else stepPm c (pieE t c.i)
def stepEP (t : List UInt8) (c : Ce) (x : Int) : Rx :=
 if nx t c.i = 42 then .go ⟨.P (c.ns.length : Int),c.i + 1,c.ns ++ [repN x 0 (-1)],c.g,c.cl,c.ps,c.bs,c.lv⟩
 else if nx t c.i = 43 then .go ⟨.P (c.ns.length : Int),c.i + 1,c.ns ++ [repN x 1 (-1)],c.g,c.cl,c.ps,c.bs,c.lv⟩
 else if nx t c.i = 63 then .go ⟨.P (c.ns.length : Int),c.i + 1,c.ns ++ [repN x 0 1],c.g,c.cl,c.ps,c.bs,c.lv⟩
 else if nx t c.i = 123 then match ivE t c.i with
  | none => .bad c.i 13
  | some (lo,hi,j) => .go ⟨.P (c.ns.length : Int),j,c.ns ++ [repN x lo hi],c.g,c.cl,c.ps,c.bs,c.lv⟩
 else .go ⟨.L,c.i,c.ns,c.g,c.cl,c.ps ++ [x],c.bs,c.lv⟩
def branE (c : Ce) : Int × List Nod:=chn 2 c.ns c.ps
def altsE (c : Ce) : Int × List Nod:=chn 3 (branE c).2 (c.bs ++ [(branE c).1])
def stepEL (t : List UInt8) (c : Ce) : Rx :=
 if t.length ≤ c.i then (match c.lv with | [] => .fin (altsE c).2 c.g | _ :: _ => .bad c.i 14)
 else if nx t c.i = 124 then .go ⟨.B,c.i + 1,(branE c).2,c.g,c.cl,[],c.bs ++ [(branE c).1],c.lv⟩
 else match c.lv with
  | [] => stepPm c (pieE t c.i)
  | (q,ps,bs) :: lv => if nx t c.i = 41 then .go ⟨.P ((altsE c).2.length : Int),c.i + 1,(altsE c).2 ++ [groupN (q : Int) (altsE c).1],c.g,setQ c.cl q,ps,bs,lv⟩ else stepPm c (pieE t c.i)
def stepE (t : List UInt8) (c : Ce) : Rx:=match c.ct with
 | .B => stepEB t c
 | .L => stepEL t c
 | .P x => stepEP t c x
inductive StepsE (t : List UInt8) : Ce → Ce → Prop
 | refl (c : Ce) : StepsE t c c
 | head {c c1 c2 : Ce} (h : stepE t c = .go c1) (k : StepsE t c1 c2) : StepsE t c c2
theorem StepsE.trans {t : List UInt8} {a b c : Ce} (h : StepsE t a b) (k : StepsE t b c) : StepsE t a c:=by
 induction h with
 | refl => exact k
 | head h1 _ ih => exact .head h1 (ih k)
theorem StepsE.one {t : List UInt8} {a b : Ce} (h : stepE t a = .go b) : StepsE t a b:=.head h (.refl b)
theorem StepsE.snoc {t : List UInt8} {a b c : Ce} (h : StepsE t a b) (k : stepE t b = .go c) : StepsE t a c:=h.trans (.one k)
def EndsE (t : List UInt8) (c : Ce) (r : Rx) : Prop:=∃ c',StepsE t c c' ∧ stepE t c' = r ∧ ∀ c2,r ≠ .go c2
theorem EndsE.det {t : List UInt8} {c : Ce} {r s : Rx} (h : EndsE t c r) (k : EndsE t c s) : r = s:=by
 obtain ⟨c1,h1,h2,h3⟩:=h
 obtain ⟨c2,k1,k2,k3⟩:=k
 induction h1 with
 | refl =>
  cases k1 with
  | refl => rw [← h2,← k2]
  | head q _ => rw [q] at h2;exact absurd h2.symm (h3 _)
 | head q _ ih =>
  cases k1 with
  | refl => rw [q] at k2;exact absurd k2.symm (k3 _)
  | head q' k1 => rw [q] at q';injection q' with q';subst q';exact ih h2 k1
theorem StepsE.ends {t : List UInt8} {a b : Ce} {r : Rx} (h : StepsE t a b) (k : EndsE t b r) : EndsE t a r:=by
 obtain ⟨c,k1,k2⟩:=k
 exact ⟨c,h.trans k1,k2⟩
theorem EndsE.bad {t : List UInt8} {c : Ce} {i e : Nat} (h : stepE t c = .bad i e) : EndsE t c (.bad i e):=⟨c,.refl c,h,fun _ => by simp⟩
theorem EndsE.fin {t : List UInt8} {c : Ce} {ns : List Nod} {g : Nat} (h : stepE t c = .fin ns g) : EndsE t c (.fin ns g):=⟨c,.refl c,h,fun _ => by simp⟩
def ce0 : Ce:=⟨.B,0,[],0,fun _ => false,[],[],[]⟩
theorem cntI_append (l m : List Int) (i : Nat) : cntI (l ++ m) i = cntI l i + cntI m i:=by
 unfold cntI;rw [List.countP_append];omega
theorem cntI_cons (x : Int) (l : List Int) (i : Nat) : cntI (x :: l) i = (if x = (i : Int) then 1 else 0) + cntI l i:=by
 unfold cntI;rw [List.countP_cons]
 by_cases h : x = (i : Int)
 · simp [h];omega
 · simp [h]
theorem cntI_perm {l m : List Int} (h : l.Perm m) (i : Nat) : cntI l i = cntI m i:=by
 unfold cntI;rw [h.countP_eq]
theorem cntI_zero {l : List Int} {i : Nat} (h : ∀ x ∈ l,x ≠ (i : Int)) : cntI l i = 0:=by
 unfold cntI
 have : l.countP (fun x => decide (x = (i : Int))) = 0:=List.countP_eq_zero.2 fun x hx => by simp [h x hx]
 omega
theorem okP_iff {t p : Int} : okP t p = true ↔ 0 ≤ p ∧ p < t:=by simp [okP]
structure Tree (ns : List Nod) (g : Nat) (R : List Int) : Prop where
 fit : ∀ k (hk : k < ns.length),fitsN (ns[k]'hk) (k : Int) (g : Int) = true
 ok : ∀ p ∈ R,okP (ns.length : Int) p = true
 use : ∀ j,j < ns.length → usesN ns j + cntI R j = 1
 len : ns.length ≤ 1000
theorem Tree.nil_ (g : Nat) : Tree [] g []:=⟨fun k hk => by simp at hk,fun p h => by simp at h,fun j h => by simp at h,by simp⟩
section
variable {ns : List Nod} {g : Nat} {R R' : List Int}
theorem Tree.perm (h : Tree ns g R) (hp : R.Perm R') : Tree ns g R':=⟨h.fit,fun p hm => h.ok p (hp.mem_iff.2 hm),fun j hj => by rw [← cntI_perm hp];exact h.use j hj,h.len⟩
theorem Tree.more (h : Tree ns g R) {g' : Nat} (hg : g ≤ g') : Tree ns g' R:=⟨fun k hk => fitsN_more (h.fit k hk) (by omega),h.ok,h.use,h.len⟩
theorem Tree.parts (h : Tree ns g R) : ∀ p ∈ ns.flatMap partsN,okP (ns.length : Int) p = true:=by
 intro p hp
 obtain ⟨nd,hn,hp⟩:=List.mem_flatMap.1 hp
 obtain ⟨k,hk,rfl⟩:=List.getElem_of_mem hn
 have:=fits_part (h.fit k hk) hp
 rw [okP_iff];omega
theorem usesN_snoc (ns : List Nod) (nd : Nod) (j : Nat) : usesN (ns ++ [nd]) j = usesN ns j + cntI (partsN nd) j:=by
 unfold usesN;rw [List.flatMap_append,cntI_append];simp
theorem Tree.node {P : List Int} (h : Tree ns g (P ++ R)) {nd : Nod} (hl : ns.length < 1000) (hP : partsN nd = P) (hf : fitsN nd (ns.length : Int) (g : Int) = true) : Tree (ns ++ [nd]) g ((ns.length : Int) :: R):=by
 refine ⟨fun k hk => ?_,fun p hp => ?_,fun j hj => ?_,by rw [lla,lls];omega⟩
 · rw [lla,lls] at hk
   by_cases hk' : k < ns.length
   · rw [List.getElem_append_left hk'];exact h.fit k hk'
   · obtain rfl : k = ns.length:=by omega
     rw [List.getElem_append_right (nlr _)]
     simpa using hf
 · rw [lla,lls]
   rcases List.mem_cons.1 hp with rfl | hp
   · exact okP_last _
   · exact okP_more (h.ok p (by simp [hp])) (by omega)
 · rw [lla,lls] at hj
   rw [usesN_snoc,hP,cntI_cons]
   by_cases hj' : j < ns.length
   · have:=h.use j hj'
     rw [cntI_append] at this
     rw [if_neg (by omega)];omega
   · obtain rfl : j = ns.length:=by omega
     have h1 : usesN ns ns.length = 0:=cntI_zero fun x hx e => by have:=h.parts x hx;rw [okP_iff] at this;omega
     have h2 : cntI P ns.length = 0:=cntI_zero fun x hx e => by have:=h.ok x (by simp [hx]);rw [okP_iff] at this;omega
     have h3 : cntI R ns.length = 0:=cntI_zero fun x hx e => by have:=h.ok x (by simp [hx]);rw [okP_iff] at this;omega
     rw [if_pos rfl];omega
end
theorem grpsN_snoc (ns : List Nod) (nd : Nod) (q : Nat) : grpsN (ns ++ [nd]) q = grpsN ns q + (if nd.kind = 5 ∧ nd.grp = (q : Int) then 1 else 0):=by
 unfold grpsN
 rw [List.filter_append,List.map_append,cntI_append]
 by_cases hk : nd.kind = 5
 · by_cases hq : nd.grp = (q : Int)
   · simp [hk,hq,cntI]
   · simp [hk,hq,cntI]
 · simp [hk,cntI]
theorem catGo_tree (g : Nat) (R : List Int) : ∀ (ps : List Int) (x : Int) (ns : List Nod) (y : Int) (ns' : List Nod),Tree ns g (x :: ps ++ R) → (ps = [] → x = (ns.length : Int) - 1) → catGo x ns ps = some (y,ns') →
    Tree ns' g (y :: R) ∧ y = (ns'.length : Int) - 1 ∧ (∀ q,grpsN ns' q = grpsN ns q)
 | [],x,ns,y,ns',h,hl,he => by
  rw [catGo_nil] at he
  simp only [Option.some.injEq,Prod.mk.injEq] at he
  obtain ⟨rfl,rfl⟩:=he
  exact ⟨h,hl rfl,fun _ => rfl⟩
 | p :: r,x,ns,y,ns',h,hl,he => by
  rw [catGo_cons] at he
  split at he
  · rename_i hlt
    have hx:=h.ok x (by simp)
    have hp:=h.ok p (by simp)
    have h1 : Tree (ns ++ [twoN 2 x p]) g ((ns.length : Int) :: (r ++ R)):=Tree.node (P:=[x,p]) (R:=r ++ R) h hlt rfl (by rw [fits_two 2 (.inl rfl),hx,hp];rfl)
    have:=catGo_tree g R r _ _ y ns' h1 (fun _ => by rw [lla,lls];omega) he
    refine ⟨this.1,this.2.1,fun q => ?_⟩
    rw [this.2.2 q,grpsN_snoc,if_neg (by rintro ⟨e,_⟩;simp [twoN] at e)]
    omega
  · cases he
theorem catS_tree {ns : List Nod} {g : Nat} {R ps : List Int} {y : Int} {ns' : List Nod} (h : Tree ns g (ps ++ R)) (hl : ∀ hne : ps ≠ [],ps.getLast hne = (ns.length : Int) - 1) (he : catS ns ps = some (y,ns')) :
    Tree ns' g (y :: R) ∧ y = (ns'.length : Int) - 1 ∧ (∀ q,grpsN ns' q = grpsN ns q):=by
 cases ps with
 | nil =>
  rw [catS_nil] at he
  split at he
  · rename_i hlt
    simp only [Option.some.injEq,Prod.mk.injEq] at he
    obtain ⟨rfl,rfl⟩:=he
    refine ⟨Tree.node (P:=[]) h hlt rfl (fits_plain 0 (.inl rfl) _ _),by rw [lla,lls];omega,fun q => ?_⟩
    rw [grpsN_snoc,if_neg (by rintro ⟨e,_⟩;exact absurd e (by decide))];omega
  · cases he
 | cons x r =>
  rw [catS_cons] at he
  exact catGo_tree g R r x ns y ns' h (fun e => by subst e;exact hl (by simp)) he
structure PieAt (l : List UInt8) (i : Nat) (inG : Bool) : Prop where
 lt : i < l.length
 bar : nx l i ≠ 124
 par : inG = true → nx l i ≠ 41
theorem stepE_pie {l : List UInt8} {i : Nat} {inG : Bool} (h : PieAt l i inG) {ct : Ct} {ns : List Nod} {g : Nat} {cl : Nat → Bool} {ps bs : List Int} {lv : List (Nat × List Int × List Int)} (hct : ct = .B ∨ ct = .L) (hlv : lv.isEmpty = !inG) :
    stepE l ⟨ct,i,ns,g,cl,ps,bs,lv⟩ = stepPm ⟨ct,i,ns,g,cl,ps,bs,lv⟩ (pieE l i):=by
 have hi : ¬ l.length ≤ i:=by have:=h.lt;omega
 have hp : lv ≠ [] → nx l i ≠ 41:=fun hne => h.par (by cases lv with | nil => exact absurd rfl hne | cons a b => cases inG with | true => rfl | false => cases hlv)
 rcases hct with rfl | rfl
 · show stepEB l _ = _
   simp only [stepEB]
   rw [if_neg (fun h1 => h1.elim hi (fun h1 => h1.elim h.bar (fun h1 => hp h1.1 h1.2)))]
 · show stepEL l _ = _
   simp only [stepEL]
   rw [if_neg hi,if_neg h.bar]
   cases lv with
   | nil => rfl
   | cons a lv =>
    obtain ⟨q,p,b⟩:=a
    simp only
    rw [if_neg (hp (by simp))]
section
variable {t : List UInt8} {i : Nat} {ns : List Nod} {g : Nat} {cl : Nat → Bool} {ps bs : List Int} {lv : List (Nat × List Int × List Int)} {x : Int}
theorem stepE_star (h : nx t i = 42) : stepE t ⟨.P x,i,ns,g,cl,ps,bs,lv⟩ = .go ⟨.P (ns.length : Int),i + 1,ns ++ [repN x 0 (-1)],g,cl,ps,bs,lv⟩:=by
 show stepEP t _ x = _;simp only [stepEP];rw [if_pos h]
theorem stepE_plus (h : nx t i = 43) : stepE t ⟨.P x,i,ns,g,cl,ps,bs,lv⟩ = .go ⟨.P (ns.length : Int),i + 1,ns ++ [repN x 1 (-1)],g,cl,ps,bs,lv⟩:=by
 show stepEP t _ x = _;simp only [stepEP];rw [if_neg (by omega),if_pos h]
theorem stepE_qm (h : nx t i = 63) : stepE t ⟨.P x,i,ns,g,cl,ps,bs,lv⟩ = .go ⟨.P (ns.length : Int),i + 1,ns ++ [repN x 0 1],g,cl,ps,bs,lv⟩:=by
 show stepEP t _ x = _;simp only [stepEP];rw [if_neg (by omega),if_neg (by omega),if_pos h]
theorem stepE_ivl (h : nx t i = 123) {lo hi : Int} {j : Nat} (hv : ivE t i = some (lo,hi,j)) : stepE t ⟨.P x,i,ns,g,cl,ps,bs,lv⟩ = .go ⟨.P (ns.length : Int),j,ns ++ [repN x lo hi],g,cl,ps,bs,lv⟩:=by
 show stepEP t _ x = _;simp only [stepEP];rw [if_neg (by omega),if_neg (by omega),if_neg (by omega),if_pos h,hv]
theorem stepE_ivl_bad (h : nx t i = 123) (hv : ivE t i = none) : stepE t ⟨.P x,i,ns,g,cl,ps,bs,lv⟩ = .bad i 13:=by
 show stepEP t _ x = _;simp only [stepEP];rw [if_neg (by omega),if_neg (by omega),if_neg (by omega),if_pos h,hv]
theorem stepE_off (h1 : nx t i ≠ 42) (h2 : nx t i ≠ 43) (h3 : nx t i ≠ 63) (h4 : nx t i ≠ 123) : stepE t ⟨.P x,i,ns,g,cl,ps,bs,lv⟩ = .go ⟨.L,i,ns,g,cl,ps ++ [x],bs,lv⟩:=by
 show stepEP t _ x = _;simp only [stepEP];rw [if_neg h1,if_neg h2,if_neg h3,if_neg h4]
theorem riv_times {a : Nat} {lo hi : Int} {k : Nat} (ha : a ≤ t.length) (h : rivI t a = some (lo,hi,k)) : timesN lo hi = true:=by
 unfold rivI at h
 cases h1 : numS t (a : Int) 255 with
 | mk x q =>
  obtain ⟨y,e⟩:=q
  rw [h1] at h
  simp only at h
  by_cases he : e = 0
  · subst he
    obtain ⟨k1,rfl,hk1,hk2,hx0,hx1⟩:=numS_ok h1
    rw [if_neg (by decide),Int.toNat_natCast] at h
    by_cases hc : nx t k1 = 44
    · have hk3 : k1 + 1 ≤ t.length:=by have:=bg_room ((nx_bg t k1 44).1 hc);simp at this;omega
      rw [if_neg (by rw [hc];decide)] at h
      cases h3 : numS t ((k1 + 1 : Nat) : Int) 255 with
      | mk x2 q2 =>
       obtain ⟨y2,e3⟩:=q2
       rw [h3] at h
       simp only at h
       split at h
       · cases h
       · rename_i hno
         split at h
         · simp only [Option.some.injEq,Prod.mk.injEq] at h
           obtain ⟨rfl,rfl,-⟩:=h
           simp [timesN,hx0,hx1]
         · rename_i hz
           obtain rfl : e3 = 0:=by simpa using hz
           obtain ⟨k2,rfl,hk4,hk5,hx2,hx3⟩:=numS_ok h3
           simp only [Option.some.injEq,Prod.mk.injEq] at h
           obtain ⟨rfl,rfl,-⟩:=h
           have : x ≤ x2:=by simp at hno;omega
           simp [timesN,hx0,hx1,this,hx3]
    · rw [if_pos hc] at h
      simp only [Option.some.injEq,Prod.mk.injEq] at h
      obtain ⟨rfl,rfl,-⟩:=h
      simp [timesN,hx0,hx1]
  · rw [if_pos he] at h;cases h
end
theorem pie_opn {l : List UInt8} {i : Nat} (h : nx l i = 40) : pieE l i = .opn:=by
 have hb:=(nx_bg l i 40).1 h
 unfold pieE
 cases hd : l.drop i with
 | nil => rw [hd] at hb;cases hb
 | cons x r =>
  rw [hd,bg_cons,bg_nil,Bool.and_true,beq_iff_eq] at hb
  subst hb
  rfl
theorem nx_lt {l : List UInt8} {i : Nat} (h : 0 ≤ nx l i) : i < l.length:=by
 by_cases hi : i < l.length
 · exact hi
 · rw [nx_none (by omega)] at h;omega
theorem pie_at {t : List UInt8} {i : Nat} {c : UInt8} {r : List UInt8} (h : t.drop i = c :: r) : pieE t i = pieR t i (c :: r):=by unfold pieE;rw [h]
theorem pie_rep {l : List UInt8} {i : Nat} {x : UInt8} {r : List UInt8} (hx : l.drop i = x :: r) (h : repB x) : pieE l i = .bad 13:=by
 rw [pie_at hx];simp only [pieR];rw [if_pos h]
theorem pie_par {l : List UInt8} {i : Nat} {r : List UInt8} (hx : l.drop i = 41 :: r) : pieE l i = .bad 14:=by rw [pie_at hx];rfl
theorem pie_bol {l : List UInt8} {i : Nat} {r : List UInt8} (hx : l.drop i = 94 :: r) : pieE l i = .anc bolN:=by rw [pie_at hx];rfl
theorem pie_eol {l : List UInt8} {i : Nat} {r : List UInt8} (hx : l.drop i = 36 :: r) : pieE l i = .anc eolN:=by rw [pie_at hx];rfl
theorem pie_esc {l : List UInt8} {i : Nat} {r : List UInt8} (hx : l.drop i = 92 :: r) : pieE l i = ofAm (escE i r):=by rw [pie_at hx];rfl
theorem pie_brk {l : List UInt8} {i : Nat} {r : List UInt8} (hx : l.drop i = 91 :: r) : pieE l i = ofAm (brkA l i):=by rw [pie_at hx];rfl
theorem pie_dot {l : List UInt8} {i : Nat} {r : List UInt8} (hx : l.drop i = 46 :: r) : pieE l i = .nod (i + 1) (setN allS):=by rw [pie_at hx];rfl
theorem pie_one {l : List UInt8} {i : Nat} {x : UInt8} {r : List UInt8} (hx : l.drop i = x :: r) (h0 : ¬ repB x) (h1 : x ≠ 41) (h2 : x ≠ 94) (h3 : x ≠ 36) (h4 : x ≠ 40) (h5 : x ≠ 92) (h6 : x ≠ 91) (h7 : x ≠ 46) : pieE l i = .nod (i + 1) (setN (oneF x)):=by
 rw [pie_at hx];simp only [pieR]
 rw [if_neg h0,if_neg h1,if_neg h2,if_neg h3,if_neg h4,if_neg h5,if_neg h6,if_neg h7,ofL_one]
def ctOf (ps : List Int) : Ct:=if ps.isEmpty then .B else .L
theorem ctOf_snoc (ps : List Int) (x : Int) : ctOf (ps ++ [x]) = .L:=by unfold ctOf;cases ps <;> rfl
theorem ctOf_L {ps : List Int} (h : ps ≠ []) : ctOf ps = .L:=by unfold ctOf;cases ps with | nil => exact absurd rfl h | cons a b => rfl
theorem chnF_step (k x : Int) (ns : List Nod) {r : List Int} {j : Nat} (hj : j < r.length) : chnF k x ns (r.take (j + 1)) = (((chnF k x ns (r.take j)).2.length : Int),(chnF k x ns (r.take j)).2 ++ [twoN k (chnF k x ns (r.take j)).1 (r[j]'hj)]):=by
 rw [List.take_succ_eq_append_getElem hj,chnF_snoc]
theorem ivE_ivl {t : List UInt8} {i : Nat} (h : i + 1 ≤ t.length) : ivlG 1 [125] t i = ivE t i:=by
 rw [ivG_riv (by decide) h]
 unfold ivE
 cases rivI t (i + 1) with
 | none => rfl
 | some p =>
  obtain ⟨lo,hi,k⟩:=p
  simp only
  have hb : bg [125] (t.drop k) = true ↔ nx t k = 125:=(nx_bg t k 125).symm
  by_cases hn : nx t k = 125
  · rw [if_pos (hb.2 hn),if_pos hn];rfl
  · rw [if_neg (fun e => hn (hb.1 e)),if_neg hn]
theorem bg_nx {t : List UInt8} {i : Nat} (c : UInt8) (r : Bool) (h : decide (nx t i = (c.toNat : Int)) = r) : bg [c] (t.drop i) = r:=by
 cases r with
 | true => exact (nx_bg t i c).1 (of_decide_eq_true h)
 | false =>
  cases hb : bg [c] (t.drop i) with
  | false => rfl
  | true => exact absurd ((nx_bg t i c).2 hb) (of_decide_eq_false h)
theorem nx_at {t : List UInt8} {i : Nat} {c : UInt8} {r : List UInt8} (h : t.drop i = c :: r) : nx t i = (c.toNat : Int):=by
 have:=nx_drop t i 0
 rw [Nat.add_zero] at this
 rw [this,h];rfl
theorem nx_has {t : List UInt8} {i : Nat} (h : i < t.length) : ∃ c r,t.drop i = c :: r ∧ nx t i = (c.toNat : Int):=by
 have hx:=List.drop_eq_getElem_cons h
 exact ⟨_,_,hx,nx_at hx⟩
theorem pie_one_of {t : List UInt8} {i : Nat} (hi : i < t.length) (h0 : nx t i ≠ 42) (h1 : nx t i ≠ 43) (h2 : nx t i ≠ 63) (h3 : nx t i ≠ 123) (h4 : nx t i ≠ 41) (h5 : nx t i ≠ 94) (h6 : nx t i ≠ 36) (h7 : nx t i ≠ 40) : pieE t i = ofAm (oneA t i):=by
 obtain ⟨c,r,hd,hn⟩:=nx_has hi
 have ne : ∀ k : UInt8,nx t i ≠ (k.toNat : Int) → c ≠ k:=fun k h e => h (by rw [hn,e])
 rw [pie_at hd,one_at hd]
 simp only [pieR,oneR]
 rw [if_neg (show ¬ repB c from fun h => by
  unfold repB at h
  rcases h with h | h | h | h
  · exact ne 42 h0 h
  · exact ne 43 h1 h
  · exact ne 63 h2 h
  · exact ne 123 h3 h),if_neg (ne 41 h4),if_neg (ne 94 h5),if_neg (ne 36 h6),if_neg (ne 40 h7)]
 by_cases h92 : c = 92
 · subst h92;rfl
 · rw [if_neg h92]
   by_cases h91 : c = 91
   · subst h91;rfl
   · rw [if_neg h91]
     by_cases h46 : c = 46
     · subst h46;rfl
     · rw [if_neg h46,if_neg h46,if_neg h91,if_neg h92];rfl
theorem pie_rep_of {t : List UInt8} {i : Nat} (h : nx t i = 42 ∨ nx t i = 43 ∨ nx t i = 63 ∨ nx t i = 123) : pieE t i = .bad 13:=by
 have hi : i < t.length:=nx_lt (by rcases h with h | h | h | h <;> omega)
 obtain ⟨c,r,hd,hn⟩:=nx_has hi
 refine pie_rep hd ?_
 unfold repB
 rw [hn] at h
 rcases h with h | h | h | h
 · exact .inl (UInt8.toNat_inj.1 (by show c.toNat = 42;omega))
 · exact .inr (.inl (UInt8.toNat_inj.1 (by show c.toNat = 43;omega)))
 · exact .inr (.inr (.inl (UInt8.toNat_inj.1 (by show c.toNat = 63;omega))))
 · exact .inr (.inr (.inr (UInt8.toNat_inj.1 (by show c.toNat = 123;omega))))
theorem pie_of {t : List UInt8} {i : Nat} {k : UInt8} (h : nx t i = (k.toNat : Int)) : ∃ r,t.drop i = k :: r:=by
 have hi : i < t.length:=nx_lt (by omega)
 obtain ⟨c,r,hd,hn⟩:=nx_has hi
 obtain rfl : c = k:=UInt8.toNat_inj.1 (by omega)
 exact ⟨r,hd⟩
theorem chainGo_chn (g : Nat) (k : Int) (hk : k = 2 ∨ k = 3) : ∀ (r : List Int) (x : Int) (ns : List Nod),okP (ns.length : Int) x = true → (∀ p ∈ r,okP (ns.length : Int) p = true) → ns.length + r.length ≤ 1000 → chainGo g k x ns r = chnF k x ns r
 | [],x,ns,_,_,_ => by rw [chainGo,chnF_nil]
 | p :: r,x,ns,hx,hp,hl => by
  rw [List.length_cons] at hl
  have hf : fitsN (twoN k x p) (ns.length : Int) (g : Int) = true:=by rw [fits_two k hk,hx,hp p (by simp)];rfl
  rw [chainGo,if_pos (canPut_of (by omega) hf),chnF_cons]
  exact chainGo_chn g k hk r _ _ (by rw [lla];exact okP_last _) (fun q hq => okP_more (hp q (by simp [hq])) (by rw [lla];simp;omega)) (by rw [lla,lls];omega)
theorem altR_chn {ns : List Nod} {g : Nat} {L : List Int} (hL : L ≠ []) (hp : ∀ p ∈ L,okP (ns.length : Int) p = true) (hl : ns.length + L.length ≤ 1001) : altR ns g L = chn 3 ns L:=by
 cases L with
 | nil => exact absurd rfl hL
 | cons x r =>
  unfold altR chainN
  rw [if_neg (by simp)]
  simp only [hp x (by simp),if_true]
  rw [chn_cons]
  exact chainGo_chn g 3 (.inr rfl) r x ns (hp x (by simp)) (fun p hq => hp p (by simp [hq])) (by rw [List.length_cons] at hl;omega)
end Go.Proofs.YtonjnagcdnmcpaaGreatDoor
