/- Contracts and plain facts: M20. -/
import Derived.Test.YtonjnagcdnmcpaaGreatDoorM19
import Derived.Test.YtonjnagcdnmcpaaGreatDoorM15
set_option linter.unusedVariables false
set_option linter.unusedSimpArgs false
set_option maxRecDepth 100000
set_option maxHeartbeats 32000000
namespace Go.Proofs.YtonjnagcdnmcpaaGreatDoor
open Go.RowKit
section
variable {w : World} {B T : Nat} {A : Option Addr} {n c : Nat} {l : List UInt8} {v : Value} {ns : List Nod} {g i : Nat} {cl : Nat → Bool} {e : Nat}
theorem put_of (h : Psr w B T A n c l v ns g i cl 0) {nd : Nod} (hf : fitsN nd (ns.length : Int) (g : Int) = true) {x : Ending} {w2 : World} (hx : BldRet w B T 0 v (putI ns g nd) (putL ns g nd) g x w2) :
    ∃ z,x = .returned (.int .i64 z) ∧ Calls Tryz.prog 44 #[.pointer (some ⟨T,0,none⟩),.int .i64 z] w2 (YPut w B T A n c l v ns g cl i nd):=by
 by_cases hl : ns.length < 1000
 · obtain ⟨v2,rfl,h2,k2⟩:=h.room hl hf hx
   exact ⟨_,rfl,(put_yes T ns.length _).mono fun e w3 ⟨e1,e2⟩ => by subst e1;subst e2;exact YPut.yes hl h2 k2⟩
 · obtain ⟨v2,rfl,h2,k2⟩:=h.full hl hx
   exact ⟨_,rfl,(put_no h2).mono fun e w3 ⟨e1,h3,k3⟩ => by subst e1;exact YPut.no hl h3 (k2.trans k3)⟩
theorem YPut.size {w' : World} {j : Nat} {nd : Nod} {x : Ending} (h : YPut w B T A n c l v ns g cl j nd x w') : w.heap.size ≤ w'.heap.size:=by
 rcases h with ⟨_,v',_,_,k⟩ | ⟨_,v',_,_,k⟩
 · exact k.size
 · exact k.size
def leftP (n T : Nat) (w : World) : Nat :=
 match w.cell? ⟨T,14,none⟩,w.cell? ⟨T,3,none⟩ with
 | some (.int _ 0),some (.int _ i) => n + 1 - i.toNat
 | _,_ => 0
theorem Psr.left (h : Psr w B T A n c l v ns g i cl 0) : leftP n T w = n + 1 - i:=by
 unfold leftP;rw [h.c14,h.c3];simp
theorem Psr.left0 (h : Psr w B T A n c l v ns g i cl e) (he : e ≠ 0) : leftP n T w = 0:=by
 unfold leftP;rw [h.c14,h.c3]
 split
 · rename_i h1 _
   simp at h1;omega
 · rfl
end
theorem Pcs.keptBy {W : Nat} {w w' : World} {pv : Value} {ps : List Int} {o : Option Nat} (h : Pcs W w pv ps) (hg : w.grownBy w' o) (ho : ∀ k,pv.ownBlock = some k → o ≠ some k) : Pcs W w' pv ps:=by
 refine ⟨h.own.kept hg ?_,Nat.le_trans h.base hg.size⟩
 cases hv : pv.ownBlock with
 | none => exact .inl rfl
 | some k => exact .inr fun e => ho k hv e.symm
theorem Pcs.below_of {W : Nat} {w : World} {pv : Value} {ps : List Int} (h : Pcs W w pv ps) : ∀ k,pv.ownBlock = some k → k < w.heap.size:=fun k e => (h.own.lt k e).2
theorem Pcs.sl {w : World} {W : Nat} {ps : List Int} {pv : Value} (h : Pcs W w pv ps) : ∃ A m k,pv = Value.slice A m k:=by
 obtain ⟨a,b,e,-⟩:=h.slice
 exact ⟨a,_,b,e⟩
section
variable {w : World} {B T : Nat} {A : Option Addr} {n c : Nat} {l : List UInt8} {v : Value} {ns : List Nod} {g i : Nat} {cl : Nat → Bool} (h : Psr w B T A n c l v ns g i cl 0)
include h
theorem comes_is (s : ByteArray) (r : Bool) (hr : bg s.data.toList (l.drop i) = r) : Calls Tryz.prog 47 #[.pointer (some ⟨T,0,none⟩),.string s] w fun e w' => e = .returned (.bool r) ∧ Below w.heap.size w w':=by
 have:=comes_any h s
 rwa [hr] at this
end
theorem take_any {w : World} {B T : Nat} {A : Option Addr} {n c : Nat} {l : List UInt8} {v : Value} {ns : List Nod} {g i : Nat} {cl : Nat → Bool} {e : Nat} (h : Psr w B T A n c l v ns g i cl e) (s : ByteArray) (r : Bool) (hs : bg s.data.toList (l.drop i) = r) (m : Nat) (hm : s.size = m) (h0 : 0 < m) :
    Calls Tryz.prog 43 #[.pointer (some ⟨T,0,none⟩),.string s] w fun x w' => x = .returned (.bool r) ∧ (r = true → i + m ≤ n) ∧ Psr w' B T A n c l v ns g (if r then i + m else i) cl e ∧ ChP w w' T v v:=by
 cases r with
 | true => exact (take_yes h s hs m hm h0).mono fun x w' ⟨h1,h2,h3,h4⟩ => ⟨h1,fun _ => h2,h3,h4⟩
 | false => exact (take_no h s hs).mono fun x w' ⟨h1,h2⟩ => ⟨h1,fun e => (by cases e),h.keep h2,ChP.of_below h2⟩
theorem one_bad {t : List UInt8} {i q : Nat} (hi : i < t.length) (h : oneA t i = .bad q) : q ≠ 0:=by
 rw [one_at (List.drop_eq_getElem_cons hi)] at h
 simp only [oneR] at h
 split at h
 · cases h
 · split at h
   · unfold brkA at h
     split at h
     · rename_i hv
       simp only [Am.bad.injEq] at h
       have:=readB_wrong hv
       omega
     · cases h
   · split at h
     · unfold escE at h
       repeat' split at h
       all_goals first
        | (simp only [Am.bad.injEq] at h;omega)
        | cases h
     · cases h
theorem one_nod {t : List UInt8} {i j : Nat} {nd : Nod} (hi : i < t.length) (h : oneA t i = .nod j nd) : i < j:=by
 rw [one_at (List.drop_eq_getElem_cons hi)] at h
 simp only [oneR] at h
 split at h
 · simp only [Am.nod.injEq] at h;omega
 · split at h
   · unfold brkA at h
     split at h
     · cases h
     · rename_i hv
       simp only [Am.nod.injEq] at h
       have:=readB_size (by omega) hv
       omega
   · split at h
     · unfold escE at h
       repeat' split at h
       all_goals first
        | (simp only [Am.nod.injEq] at h;omega)
        | cases h
     · simp only [Am.nod.injEq] at h;omega
structure Pot (l : List UInt8) (V : Nat → Nat) : Prop where
 one : ∀ i,(nx l i = 42 ∨ nx l i = 43 ∨ nx l i = 63 ∨ nx l i = 40 ∨ nx l i = 41 ∨ nx l i = 124) → V (i + 1) + 2 ≤ V i
 iv : ∀ i lo hi j,nx l i = 123 → ivE l i = some (lo,hi,j) → V j + 2 ≤ V i
 nod : ∀ i j nd,pieE l i = .nod j nd → V j + 2 ≤ V i
 anc : ∀ i nd,pieE l i = .anc nd → V (i + 1) + 2 ≤ V i
 bak : ∀ i q,pieE l i = .bak q → V (i + 2) + 2 ≤ V i
theorem ivE_size {t : List UInt8} {i : Nat} (h : i + 1 ≤ t.length) {lo hi : Int} {j : Nat} (hv : ivE t i = some (lo,hi,j)) : i < j:=by
 unfold ivE at hv
 cases hr : rivI t (i + 1) with
 | none => rw [hr] at hv;cases hv
 | some p =>
  obtain ⟨a,b,k⟩:=p
  rw [hr] at hv
  simp only at hv
  split at hv
  · have:=riv_in h hr
    simp only [Option.some.injEq,Prod.mk.injEq] at hv
    omega
  · cases hv
theorem pieE_in {t : List UInt8} {i : Nat} : (∀ j nd,pieE t i = .nod j nd → i < t.length ∧ i < j) ∧ (∀ nd,pieE t i = .anc nd → i < t.length) ∧ (∀ q,pieE t i = .bak q → i < t.length):=by
 by_cases hi : i < t.length
 · refine ⟨fun j nd h => ⟨hi,?_⟩,fun nd h => hi,fun q h => hi⟩
   by_cases x0 : nx t i = 42 ∨ nx t i = 43 ∨ nx t i = 63 ∨ nx t i = 123
   · rw [pie_rep_of x0] at h;cases h
   by_cases x4 : nx t i = 41
   · obtain ⟨r,hr⟩:=pie_of (k:=41) x4;rw [pie_par hr] at h;cases h
   by_cases x5 : nx t i = 94
   · obtain ⟨r,hr⟩:=pie_of (k:=94) x5;rw [pie_bol hr] at h;cases h
   by_cases x6 : nx t i = 36
   · obtain ⟨r,hr⟩:=pie_of (k:=36) x6;rw [pie_eol hr] at h;cases h
   by_cases x7 : nx t i = 40
   · rw [pie_opn x7] at h;cases h
   rw [pie_one_of hi (fun e => x0 (.inl e)) (fun e => x0 (.inr (.inl e))) (fun e => x0 (.inr (.inr (.inl e)))) (fun e => x0 (.inr (.inr (.inr e)))) x4 x5 x6 x7] at h
   have ho : oneA t i = .nod j nd:=by
    cases ha : oneA t i with
    | bad e => rw [ha] at h;cases h
    | opn => rw [ha] at h;cases h
    | bak q => rw [ha] at h;cases h
    | nod j' n' => rw [ha] at h;injection h with h1 h2;rw [h1,h2]
   exact one_nod hi ho
 · have e : pieE t i = .bad 0:=by unfold pieE;rw [List.drop_eq_nil_of_le (by omega)];rfl
   rw [e]
   exact ⟨fun j nd h => (by cases h),fun nd h => (by cases h),fun q h => (by cases h)⟩
theorem pot_len (l : List UInt8) : Pot l (fun i => 2 * (l.length - i)) where
 one i h:=by have:=nx_lt (l:=l) (i:=i) (by omega);omega
 iv i lo hi j h e:=by
  have:=nx_lt (l:=l) (i:=i) (by omega)
  have:=ivE_size this e
  omega
 nod i j nd h:=by have:=(pieE_in (t:=l) (i:=i)).1 j nd h;omega
 anc i nd h:=by have:=(pieE_in (t:=l) (i:=i)).2.1 nd h;omega
 bak i q h:=by have:=(pieE_in (t:=l) (i:=i)).2.2 q h;omega
def CNode (V : Nat → Nat) (pc : Bool) (w : World) (B T : Nat) (A : Option Addr) (n c : Nat) (l : List UInt8) (v : Value) (ns : List Nod) (g i : Nat) (cl : Nat → Bool) (inG : Bool) (e : Ending) (w' : World) : Prop :=
 (∃ x v' ns' g' i' cl',e = .returned (.int .i64 x) ∧ okP (ns'.length : Int) x = true ∧ Psr w' B T A n c l v' ns' g' i' cl' 0 ∧ ChP w w' T v v' ∧ ns.length ≤ ns'.length ∧ ns'.length + 1 + V i' ≤ ns.length + V i ∧ g ≤ g' ∧ i < i' ∧
  ∀ ct ps bs lv,(ct = .B ∨ ct = .L) → lv.isEmpty = !inG → StepsE l ⟨ct,i,ns,g,cl,ps,bs,lv⟩ ⟨toC pc x,i',ns',g',cl',toP pc x ps,bs,lv⟩) ∨
 (∃ x v' ns' g' i' cl' q,q ≠ 0 ∧ e = .returned (.int .i64 x) ∧ Psr w' B T A n c l v' ns' g' i' cl' q ∧ ChP w w' T v v' ∧ ∀ ct ps bs lv,(ct = .B ∨ ct = .L) → lv.isEmpty = !inG → EndsE l ⟨ct,i,ns,g,cl,ps,bs,lv⟩ (.bad i' q))
section
variable {V : Nat → Nat} {w w' : World} {B T : Nat} {A : Option Addr} {n c : Nat} {l : List UInt8} {v v' : Value} {ns ns' : List Nod} {g g' i i' : Nat} {cl cl' : Nat → Bool} {inG : Bool} {e : Ending}
theorem YPut.roomy {j : Nat} {nd : Nod} (h : YPut w B T A n c l v ns g cl j nd e w') (hl : ns.length < 1000) : ∃ v',e = .returned (.int .i64 (ns.length : Int)) ∧ Psr w' B T A n c l v' (ns ++ [nd]) g j cl 0 ∧ ChP w w' T v v':=by
 rcases h with ⟨_,v',h1,h2,h3⟩ | ⟨h0,_⟩
 · exact ⟨v',h1,h2,h3⟩
 · exact absurd hl h0
theorem YPut.cnode {j : Nat} {nd : Nod} (h : YPut w B T A n c l v ns g cl j nd e w') (hl : ns.length < 1000) (hp : PieAt l i inG) (ha : pieE l i = .nod j nd) (hj : i < j) (hV : Pot l V) : CNode V false w B T A n c l v ns g i cl inG e w':=by
 have hw:=hV.nod i j nd ha
 obtain ⟨v',h1,h2,h3⟩:=h.roomy hl
 refine .inl ⟨_,v',_,g,j,cl,h1,by rw [lla];exact okP_last _,h2,h3,by simp,by rw [lla,lls];omega,nlr _,hj,fun ct ps bs lv hct hlv => .one ?_⟩
 rw [stepE_pie hp hct hlv,ha];rfl
theorem YPut.canc {nd : Nod} (h : YPut w B T A n c l v ns g cl (i + 1) nd e w') (hl : ns.length < 1000) (hp : PieAt l i inG) (ha : pieE l i = .anc nd) (hV : Pot l V) : CNode V true w B T A n c l v ns g i cl inG e w':=by
 have hw:=hV.anc i nd ha
 obtain ⟨v',h1,h2,h3⟩:=h.roomy hl
 refine .inl ⟨_,v',_,g,i + 1,cl,h1,by rw [lla];exact okP_last _,h2,h3,by simp,by rw [lla,lls];omega,nlr _,by omega,fun ct ps bs lv hct hlv => .one ?_⟩
 rw [stepE_pie hp hct hlv,ha];rfl
theorem YBad.cnode {pc : Bool} {q : Nat} (h : YBad w B T A n c l v i q e w') (hp : PieAt l i inG) (hs : ∀ ct ps bs lv,stepPm ⟨ct,i,ns,g,cl,ps,bs,lv⟩ (pieE l i) = .bad i q) (hq : q ≠ 0) : CNode V pc w B T A n c l v ns g i cl inG e w':=by
 obtain ⟨v',ns',g',cl',h1,k,m⟩:=h
 refine .inr ⟨-1,v',_,_,_,_,_,hq,h1,k,m,fun ct ps bs lv hct hlv => .bad ?_⟩
 rw [stepE_pie hp hct hlv,hs]
theorem YAm.cnode {a : Am} (h : YAm w B T A n c l v ns g i cl a e w') (hl : ns.length < 1000) (hp : PieAt l i inG) (ha : pieE l i = ofAm a) (hb : ∀ q,a = .bad q → q ≠ 0) (hj : ∀ j nd,a = .nod j nd → i < j) (hV : Pot l V) : CNode V false w B T A n c l v ns g i cl inG e w':=by
 cases a with
 | bad q => exact YBad.cnode h hp (fun ct ps bs lv => by rw [ha];rfl) (hb q rfl)
 | opn => exact h.elim
 | bak q =>
  unfold YAm at h
  simp only at h
  split at h
  · rename_i hq
    obtain ⟨v',h1,h2,h3⟩:=h.roomy hl
    have hw:=hV.bak i q ha
    refine .inl ⟨_,v',_,g,i + 2,cl,h1,by rw [lla];exact okP_last _,h2,h3,by simp,by rw [lla,lls];omega,nlr _,by omega,fun ct ps bs lv hct hlv => .one ?_⟩
    rw [stepE_pie hp hct hlv,ha]
    simp only [ofAm,stepPm]
    rw [if_pos hq];rfl
  · rename_i hq
    exact YBad.cnode h hp (fun ct ps bs lv => by rw [ha];simp only [ofAm,stepPm];rw [if_neg hq]) (by decide)
 | nod j nd => exact YPut.cnode h hl hp ha (hj j nd rfl) hV
theorem CNode.ret {pc : Bool} (h : CNode V pc w B T A n c l v ns g i cl inG e w') : ∃ z,e = .returned (.int .i64 z) ∧ CNode V pc w B T A n c l v ns g i cl inG (.returned (.int .i64 z)) w':=by
 rcases h with ⟨x,v',ns',g',i',cl',rfl,h⟩ | ⟨x,v',ns',g',i',cl',q,hq,rfl,h⟩
 · exact ⟨_,rfl,.inl ⟨x,v',ns',g',i',cl',rfl,h⟩⟩
 · exact ⟨_,rfl,.inr ⟨x,v',ns',g',i',cl',q,hq,rfl,h⟩⟩
theorem CNode.from {pc : Bool} {w0 : World} {v0 : Value} (h : CNode V pc w B T A n c l v ns g i cl inG e w') (h0 : ChP w0 w T v0 v) : CNode V pc w0 B T A n c l v0 ns g i cl inG e w':=by
 rcases h with ⟨x,v',ns',g',i',cl',h1,h2,h3,h4,h5⟩ | ⟨x,v',ns',g',i',cl',q,h1,h2,h3,h4,h5⟩
 · exact .inl ⟨x,v',ns',g',i',cl',h1,h2,h3,h0.trans h4,h5⟩
 · exact .inr ⟨x,v',ns',g',i',cl',q,h1,h2,h3,h0.trans h4,h5⟩
theorem crep_next {wr : World} {v2 : Value} {ns2 : List Nod} {g2 i2 j : Nat} {cl2 : Nat → Bool} {nd : Nod} {x z : Int} (h2 : Psr wr B T A n c l v2 ns2 g2 i2 cl2 0) (k2 : ChP wr w' T v2 v2 → True) (hk : ChP w wr T v v2) (q1 : ns.length ≤ ns2.length) (q0 : ns2.length + 1 + V i2 ≤ ns.length + V i) (q2 : g ≤ g2) (q3 : i < i2) (hl : ns2.length < 1000)
    (q4 : ∀ ct ps bs lv,(ct = .B ∨ ct = .L) → lv.isEmpty = !inG → StepsE l ⟨ct,i,ns,g,cl,ps,bs,lv⟩ ⟨toC false x,i2,ns2,g2,cl2,toP false x ps,bs,lv⟩) (hj : i2 < j) (hw : V j + 2 ≤ V i2)
    (hs : ∀ (ps bs : List Int) (lv : List (Nat × List Int × List Int)),stepE l ⟨.P x,i2,ns2,g2,cl2,ps,bs,lv⟩ = .go ⟨.P (ns2.length : Int),j,ns2 ++ [nd],g2,cl2,ps,bs,lv⟩)
    (hy : YPut wr B T A n c l v2 ns2 g2 cl2 j nd (.returned (.int .i64 z)) w') : CNode V false w B T A n c l v ns g i cl inG (.returned (.int .i64 z)) w' ∧ leftP n T w' < leftP n T wr:=by
 have hle:=h2.le
 obtain ⟨v',ez,h3,k3⟩:=hy.roomy hl
 refine ⟨.inl ⟨_,v',_,g2,j,cl2,ez,by rw [lla];exact okP_last _,h3,hk.trans k3,by rw [lla];omega,by rw [lla,lls];omega,q2,by omega,fun ct ps bs lv hct hlv => (q4 ct ps bs lv hct hlv).snoc (hs ps bs lv)⟩,?_⟩
 have:=h3.le
 rw [h3.left,h2.left];omega
end
def CAlt (V : Nat → Nat) (w : World) (B T : Nat) (A : Option Addr) (n c : Nat) (l : List UInt8) (v : Value) (ns : List Nod) (g i : Nat) (cl : Nat → Bool) (inG : Bool) (e : Ending) (w' : World) : Prop :=
 (∃ x v' ns' g' i' cl' ns1 ps1 bs1,e = .returned (.int .i64 x) ∧ okP (ns'.length : Int) x = true ∧ Psr w' B T A n c l v' ns' g' i' cl' 0 ∧ ChP w w' T v v' ∧ ns.length ≤ ns'.length ∧ ns'.length + V i' ≤ ns.length + V i ∧ g ≤ g' ∧ i ≤ i' ∧
  (if inG then nx l i' = 41 else i' = n) ∧ ∀ lv,lv.isEmpty = !inG → altsE ⟨.L,i',ns1,g',cl',ps1,bs1,lv⟩ = (x,ns') ∧ StepsE l ⟨.B,i,ns,g,cl,[],[],lv⟩ ⟨.L,i',ns1,g',cl',ps1,bs1,lv⟩) ∨
 (∃ x v' ns' g' i' cl' q,q ≠ 0 ∧ e = .returned (.int .i64 x) ∧ Psr w' B T A n c l v' ns' g' i' cl' q ∧ ChP w w' T v v' ∧ ∀ lv,lv.isEmpty = !inG → EndsE l ⟨.B,i,ns,g,cl,[],[],lv⟩ (.bad i' q))
def CAltOK (k : Nat) : Prop:=∀ (V : Nat → Nat) (inG : Bool) (w : World) (B T : Nat) (A : Option Addr) (n c : Nat) (l : List UInt8) (v : Value) (ns : List Nod) (g i : Nat) (cl : Nat → Bool),Psr w B T A n c l v ns g i cl 0 → Pot l V → ns.length + V i < 1000 → n - i = k →
 Calls Tryz.prog 28 #[.pointer (some ⟨T,0,none⟩),.bool inG] w (CAlt V w B T A n c l v ns g i cl inG)
section
variable {V : Nat → Nat} {w w' : World} {B T : Nat} {A : Option Addr} {n c : Nat} {l : List UInt8} {v v' : Value} {ns ns' : List Nod} {g g' i i' : Nat} {cl cl' : Nat → Bool} {inG : Bool} {e : Ending}
theorem CAlt.ret (h : CAlt V w B T A n c l v ns g i cl inG e w') : ∃ z,e = .returned (.int .i64 z) ∧ CAlt V w B T A n c l v ns g i cl inG (.returned (.int .i64 z)) w':=by
 rcases h with ⟨x,v',ns',g',i',cl',ns1,ps1,bs1,rfl,h⟩ | ⟨x,v',ns',g',i',cl',q,hq,rfl,h⟩
 · exact ⟨_,rfl,.inl ⟨x,v',ns',g',i',cl',ns1,ps1,bs1,rfl,h⟩⟩
 · exact ⟨_,rfl,.inr ⟨x,v',ns',g',i',cl',q,hq,rfl,h⟩⟩
end
theorem cinner_any {w2 : World} {G T : Nat} {P : Ending → World → Prop} (hG : Held w2 G 82 #[.pointer (some ⟨T,0,none⟩)]) (hP : ∀ e w',P e w' → ∃ z,e = .returned (.int .i64 z) ∧ P (.returned (.int .i64 z)) w')
    (hB : Calls Tryz.prog 28 #[.pointer (some ⟨T,0,none⟩),.bool true] w2 P) : Calls Tryz.prog 110 #[.pointer (some ⟨G,0,none⟩)] w2 P:=by
 have z:=hG.at_ (i:=0) rfl
 have hB':=lhi hB
 have hP':=lhi hP
 clear hB hP hG
 go_enter Tryz.func110,Tryz.ntmps110
 go_wp2_with (go_at_call 28;refine (hB'.out).mono ?_;intro x w3 hy;obtain ⟨z,rfl,hy⟩:=hP'.out _ _ hy;replace hy:=lhi hy)
 (try go_ret)
 exact hy.out
section
variable {V : Nat → Nat} {w : World} {B T : Nat} {A : Option Addr} {n c : Nat} {l : List UInt8} {v : Value} {ns : List Nod} {g i : Nat} {cl : Nat → Bool} (h : Psr w B T A n c l v ns g i cl 0) {inG : Bool} (hx : nx l i = 40)
include h hx
theorem cparen_full (hg : g = 9) (f : Value) : Calls Tryz.prog 92 #[.pointer (some ⟨T,0,none⟩),.string ⟨#[40]⟩,.string ⟨#[41]⟩,f] w (CNode V false w B T A n c l v ns g i cl inG):=by
 have hil:=nx_lt (l:=l) (i:=i) (by omega)
 have hO:=lhi (open_any B T 0 v ns g w h.bldr)
 have hP:=lhi h
 rw [show openI g = -1 by simp [openI,hg],show openG g = g by simp [openG,hg]] at hO
 have hfin:=lhi (fun (w' : World) (x : Ending) (y : YBad w B T A n c l v i 17 x w') => y.cnode (V:=V) (pc:=false) (inG:=inG) (ns:=ns) (g:=g) (cl:=cl) ⟨hil,by omega,fun _ => by omega⟩ (fun ct ps bs lv => by rw [pie_opn hx];simp [stepPm,hg]) (by decide))
 clear h hx hg hil
 go_enter Tryz.func92,Tryz.ntmps92
 go_wp2_with (first
  | (go_at_call 112;refine (hO.out).mono ?_;rintro x w1 ⟨rfl,hb,hc⟩;have h1:=lhi (hP.out.built (nlr _) hb hc);have k1:=lhi hc.chp;clear hb hc)
  | (go_at_call 66;refine (wrong_at h1.out 17 17 rfl).mono ?_;intro x w2 hy;obtain ⟨rfl,hy⟩:=hy.ret;replace hy:=lhi (hfin.out _ _ (hy.from k1.out))))
 go_ret
 exact hy.out
theorem cparen_any {G : Nat} (hG : Held w G 82 #[.pointer (some ⟨T,0,none⟩)]) (hGT : G ≠ T) (hGv : some G ≠ v.ownBlock) (hV : Pot l V) (hrm : ns.length + V i < 1000) (hB : ∀ k,k < n - i → CAltOK k) :
    Calls Tryz.prog 92 #[.pointer (some ⟨T,0,none⟩),.string ⟨#[40]⟩,.string ⟨#[41]⟩,.func (.func 110) #[] #[.pointer (some ⟨G,0,none⟩)]] w (CNode V false w B T A n c l v ns g i cl inG):=by
 by_cases hg : g = 9
 · exact cparen_full h hx hg _
 have hg9 : g < 9:=by have:=h.grp;omega
 have hil:=nx_lt (l:=l) (i:=i) (by omega)
 have hnl:=h.hn
 have hi1 : i + 1 ≤ n:=by omega
 have hw1:=hV.one i (.inr (.inr (.inr (.inl hx))))
 replace hV:=lhi hV
 have hO:=lhi (open_any B T 0 v ns g w h.bldr)
 rw [show openI g = (g : Int) + 1 by simp [openI,hg9],show openG g = g + 1 by simp [openG,hg9]] at hO
 have hP:=lhi h
 have hq : ((g : Int) + 1 == -1) = false:=by rw [bef];omega
 have hst:=lhi (fun (ct : Ct) (ps bs : List Int) (lv : List (Nat × List Int × List Int)) (hct : ct = .B ∨ ct = .L) (hlv : lv.isEmpty = !inG) => show stepE l ⟨ct,i,ns,g,cl,ps,bs,lv⟩ = .go ⟨.B,i + 1,ns,g + 1,cl,[],[],(g + 1,ps,bs) :: lv⟩ from by
  rw [stepE_pie (inG:=inG) ⟨hil,by omega,fun _ => by omega⟩ hct hlv,pie_opn hx]
  simp only [stepPm]
  rw [if_pos hg9])
 have hTk:=lhi (fun (w1 : World) (h1 : Psr w1 B T A n c l v ns (g + 1) i cl 0) => take_yes h1 ⟨#[40]⟩ ((nx_bg l i 40).1 hx) 1 rfl (by decide))
 have hTe:=lhi (fun (w3 : World) (v3 : Value) (ns3 : List Nod) (g3 i3 : Nat) (cl3 : Nat → Bool) (h3 : Psr w3 B T A n c l v3 ns3 g3 i3 cl3 0) (hz : nx l i3 = 41) => take_yes h3 ⟨#[41]⟩ ((nx_bg l i3 41).1 hz) 1 rfl (by decide))
 have hBr:=lhi (fun (w2 : World) (h2 : Psr w2 B T A n c l v ns (g + 1) (i + 1) cl 0) (hG2 : Held w2 G 82 #[.pointer (some ⟨T,0,none⟩)]) => cinner_any hG2 (fun e w' y => CAlt.ret y) (hB (n - (i + 1)) (by omega) V true w2 B T A n c l v ns (g + 1) (i + 1) cl h2 hV.out (by omega) rfl))
 have hGh:=lhi hG
 have hg0 : (g : Int) + 1 ≤ 9:=by omega
 clear h hx hg hB hG
 go_enter Tryz.func92,Tryz.ntmps92
 go_wp2_with (first
  | (go_at_call 112;refine (hO.out).mono ?_;rintro x w1 ⟨rfl,hb,hc⟩;have h1:=lhi (hP.out.built (g':=g + 1) (by omega) hb hc);have hG1:=lhi (hGh.out.chp hc.chp hGT hGv);have k1:=lhi hc.chp;clear hb hc)
  | (go_at_call 43;with_reducible show Calls _ _ #[_,Value.string {data:=#[40]}] _ _;refine (hTk.out _ h1.out).mono ?_;rintro x w9 ⟨rfl,-,h9,k9⟩;have hG9:=lhi (hG1.out.chp k9 hGT hGv);replace h9:=lhi h9;replace k9:=lhi (k1.out.trans k9))
  | (go_at_call 110;refine (hBr.out _ h9.out hG9.out).mono ?_;intro x w2 hy;rcases hy with ⟨x,v2,ns2,g2,i2,cl2,ns1,ps2,bs2,rfl,ok2,h2,k2,q1,q0,q2,q3,q5,q6⟩ | ⟨x,v2,ns2,g2,i2,cl2,e2,he2,rfl,h2,k2,q6⟩
     all_goals first
      | (rw [if_pos rfl] at q5
         have hF:=lhi (fine_any h2)
         rw [decide_eq_true rfl] at hF
         have hTz:=lhi (hTe.out _ _ _ _ _ _ h2 q5)
         replace k2:=lhi (k9.out.trans k2)
         replace q1:=lhi q1
         replace q0:=lhi q0
         replace q2:=lhi q2
         replace q3:=lhi q3
         replace q5:=lhi q5
         replace q6:=lhi q6
         replace ok2:=lhi ok2
         clear h2)
      | (have hF:=lhi (fine_any h2)
         rw [decide_eq_false he2] at hF
         replace h2:=lhi h2
         replace k2:=lhi (k9.out.trans k2)
         replace q6:=lhi q6
         replace he2:=lhi he2))
  | (go_at_call 39;refine (hF.out).mono ?_;rintro y w4 ⟨rfl,rfl⟩)
  | (go_at_call 43;with_reducible show Calls _ _ #[_,Value.string {data:=#[41]}] _ _;refine (hTz.out).mono ?_;rintro y w5 ⟨rfl,hi4,h3,k3⟩;have t4:=h3.thawed (4 + (g + 1));have c4:=h3.cQ (g + 1) (by omega);have h4:=lhi (h3.ended (q:=g + 1) (by omega) q2.out);have k4:=lhi ((k2.out.trans k3).trans (ChP.store _ T (4 + (g + 1)) (.bool true) v2));have hf:=lhi (fits_group (q:=(g : Int) + 1) (g:=(g2 : Int)) ok2.out (by omega) (by have:=q2.out;omega));have hgr:=lhi (group_any B T 0 v2 ns2 g2 _ h4.out.bldr ((g : Int) + 1) x);clear h3 k3))
 · have hl : ns2.length < 1000:=by have:=q0.out;omega
   have hl':=lhi hl
   go_wp2_with (first
    | (go_at_call 113;refine (hgr.out).mono ?_;intro x w5 hx2;obtain ⟨v5,rfl,h5,k5⟩:=h4.out.room hl'.out hf.out hx2;clear hx2;replace h5:=lhi h5;replace k5:=lhi (k4.out.trans k5))
    | (go_at_call 44;refine (put_yes T ns2.length _).mono ?_;rintro x w6 ⟨rfl,rfl⟩))
   go_ret
   have hq0:=q0.out
   have hq1:=q1.out
   have hq2:=q2.out
   have hq3:=q3.out
   have hw2:=hV.out.one i2 (.inr (.inr (.inr (.inr (.inl q5.out)))))
   refine .inl ⟨_,v5,_,g2,i2 + 1,_,rfl,by rw [lla];exact okP_last _,h5.out,k5.out,by rw [lla];omega,by rw [lla,lls];omega,by omega,by omega,fun ct ps bs lv hct hlv => ?_⟩
   obtain ⟨ha,hs⟩:=q6.out ((g + 1,ps,bs) :: lv) rfl
   refine (StepsE.one (hst.out ct ps bs lv hct hlv)).trans (hs.snoc ?_)
   show stepEL l _ = _
   have hq5:=q5.out
   have hil2:=nx_lt (l:=l) (i:=i2) (by omega)
   simp only [stepEL]
   rw [if_neg (by omega),if_neg (by omega)]
   rw [if_pos hq5,ha];rfl
 · go_ret
   exact .inr ⟨_,v2,ns2,g2,i2,cl2,e2,he2.out,rfl,h2.out,k2.out,fun ct ps bs lv hct hlv => (StepsE.one (hst.out ct ps bs lv hct hlv)).ends (q6.out _ rfl)⟩
end
end Go.Proofs.YtonjnagcdnmcpaaGreatDoor
