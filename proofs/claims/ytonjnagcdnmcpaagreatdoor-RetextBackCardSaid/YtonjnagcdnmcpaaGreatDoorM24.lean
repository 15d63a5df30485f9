/- Contracts and plain facts: M24. -/
import Derived.Test.YtonjnagcdnmcpaaGreatDoorM20
set_option linter.unusedVariables false
set_option linter.unusedSimpArgs false
set_option maxRecDepth 100000
set_option maxHeartbeats 32000000
namespace Go.Proofs.YtonjnagcdnmcpaaGreatDoor
open Go.RowKit
def YNode (pc : Bool) (w : World) (B T : Nat) (A : Option Addr) (n c : Nat) (l : List UInt8) (v : Value) (ns : List Nod) (g i : Nat) (cl : Nat → Bool) (inG : Bool) (e : Ending) (w' : World) : Prop :=
 (∃ x v' ns' g' i' cl',e = .returned (.int .i64 x) ∧ okP (ns'.length : Int) x = true ∧ Psr w' B T A n c l v' ns' g' i' cl' 0 ∧ ChP w w' T v v' ∧ ns.length ≤ ns'.length ∧ g ≤ g' ∧ i < i' ∧
  ∀ ps lv,lv.isEmpty = !inG → Steps l ⟨.L,i,ns,g,cl,ps,lv⟩ ⟨toC pc x,i',ns',g',cl',toP pc x ps,lv⟩) ∨
 (∃ v' ns' g' i' cl' q,q ≠ 0 ∧ e = .returned (.int .i64 (-1)) ∧ Psr w' B T A n c l v' ns' g' i' cl' q ∧ ChP w w' T v v' ∧ ∀ ps lv,lv.isEmpty = !inG → Ends l ⟨.L,i,ns,g,cl,ps,lv⟩ (.bad i' q))
def YBranch (w : World) (B T : Nat) (A : Option Addr) (n c : Nat) (l : List UInt8) (v : Value) (ns : List Nod) (g i : Nat) (cl : Nat → Bool) (inG : Bool) (e : Ending) (w' : World) : Prop :=
 (∃ x v' ns' g' i' cl' ns1 ps',e = .returned (.int .i64 x) ∧ okP (ns'.length : Int) x = true ∧ Psr w' B T A n c l v' ns' g' i' cl' 0 ∧ ChP w w' T v v' ∧ ns.length ≤ ns'.length ∧ g ≤ g' ∧ i ≤ i' ∧ catS ns1 ps' = some (x,ns') ∧
  (if inG then bg [92,41] (l.drop i') = true else i' = n) ∧ ∀ lv,lv.isEmpty = !inG → Steps l ⟨.B,i,ns,g,cl,[],lv⟩ ⟨.L,i',ns1,g',cl',ps',lv⟩) ∨
 (∃ v' ns' g' i' cl' q,q ≠ 0 ∧ e = .returned (.int .i64 (-1)) ∧ Psr w' B T A n c l v' ns' g' i' cl' q ∧ ChP w w' T v v' ∧ ∀ lv,lv.isEmpty = !inG → Ends l ⟨.B,i,ns,g,cl,[],lv⟩ (.bad i' q))
def BrOK (k : Nat) : Prop:=∀ (inG : Bool) (w : World) (B T : Nat) (A : Option Addr) (n c : Nat) (l : List UInt8) (v : Value) (ns : List Nod) (g i : Nat) (cl : Nat → Bool),Psr w B T A n c l v ns g i cl 0 → n - i = k →
 Calls Tryz.prog 29 #[.pointer (some ⟨T,0,none⟩),.bool inG] w (YBranch w B T A n c l v ns g i cl inG)
section
variable {t : List UInt8} {i : Nat} {ns : List Nod} {g : Nat} {cl : Nat → Bool} {ps : List Int} {lv : List (Nat × List Int)} {inG : Bool}
theorem step_atom (hi : i < t.length) (hc : inG = true → bg [92,41] (t.drop i) = false) (hlv : lv.isEmpty = !inG) : step t ⟨.L,i,ns,g,cl,ps,lv⟩ = stepA ⟨.L,i,ns,g,cl,ps,lv⟩ (atomA t i):=by
 have hni : ¬ t.length ≤ i:=by omega
 cases lv with
 | nil => show stepL t ⟨.L,i,ns,g,cl,ps,[]⟩ = _;simp only [stepL];rw [if_neg hni]
 | cons a lv =>
  obtain ⟨q,p⟩:=a
  have hg : inG = true:=by cases inG <;> simp at hlv ⊢
  show stepL t ⟨.L,i,ns,g,cl,ps,(q,p) :: lv⟩ = _
  simp only [stepL]
  rw [if_neg hni,if_neg (by rw [hc hg];decide)]
theorem step_close {q : Nat} {x : Int} {ns' : List Nod} {p : List Int} (hb : bg [92,41] (t.drop i) = true) (hc : catS ns ps = some (x,ns')) (hl : ns'.length < 1000) :
    step t ⟨.L,i,ns,g,cl,ps,(q,p) :: lv⟩ = .go ⟨.P (ns'.length : Int),i + 2,ns' ++ [groupN (q : Int) x],g,setQ cl q,p,lv⟩:=by
 have hni : ¬ t.length ≤ i:=by have:=bg_room hb;simp at this;omega
 show stepL t ⟨.L,i,ns,g,cl,ps,(q,p) :: lv⟩ = _
 simp only [stepL,putS]
 rw [if_neg hni,if_pos hb,hc]
 simp only
 rw [if_pos hl]
theorem step_close_full {q : Nat} {x : Int} {ns' : List Nod} {p : List Int} (hb : bg [92,41] (t.drop i) = true) (hc : catS ns ps = some (x,ns')) (hl : ¬ ns'.length < 1000) :
    step t ⟨.L,i,ns,g,cl,ps,(q,p) :: lv⟩ = .bad (i + 2) 8:=by
 have hni : ¬ t.length ≤ i:=by have:=bg_room hb;simp at this;omega
 show stepL t ⟨.L,i,ns,g,cl,ps,(q,p) :: lv⟩ = _
 simp only [stepL,putS]
 rw [if_neg hni,if_pos hb,hc]
 simp only
 rw [if_neg hl]
end
section
variable {w w' : World} {B T : Nat} {A : Option Addr} {n c : Nat} {l : List UInt8} {v v' : Value} {ns ns' : List Nod} {g g' i i' : Nat} {cl cl' : Nat → Bool} {inG : Bool} {e : Ending}
theorem YPut.node {j : Nat} {nd : Nod} (h : YPut w B T A n c l v ns g cl j nd e w') (hi : i < l.length) (hc : inG = true → bg [92,41] (l.drop i) = false) (ha : atomA l i = .nod j nd) (hj : i < j) : YNode false w B T A n c l v ns g i cl inG e w':=by
 rcases h with ⟨hl,v',rfl,k,m⟩ | ⟨hl,v',rfl,k,m⟩
 · refine .inl ⟨_,v',_,_,_,_,rfl,?_,k,m,by simp,nlr _,hj,fun ps lv hlv => .one ?_⟩
   · rw [lla];exact okP_last _
   · rw [step_atom hi hc hlv,ha]
     simp only [stepA,putS]
     rw [if_pos hl];rfl
 · refine .inr ⟨v',_,_,_,_,_,by decide,rfl,k,m,fun ps lv hlv => .bad ?_⟩
   rw [step_atom hi hc hlv,ha]
   simp only [stepA,putS]
   rw [if_neg hl]
theorem YPut.bak {q : Nat} (h : YPut w B T A n c l v ns g cl (i + 2) (backN (q : Int)) e w') (hi : i < l.length) (hc : inG = true → bg [92,41] (l.drop i) = false) (ha : atomA l i = .bak q) (hq : cl q = true) : YNode false w B T A n c l v ns g i cl inG e w':=by
 rcases h with ⟨hl,v',rfl,k,m⟩ | ⟨hl,v',rfl,k,m⟩
 · refine .inl ⟨_,v',_,_,_,_,rfl,?_,k,m,by simp,nlr _,by omega,fun ps lv hlv => .one ?_⟩
   · rw [lla];exact okP_last _
   · rw [step_atom hi hc hlv,ha]
     simp only [stepA,putS]
     rw [if_pos hq,if_pos hl];rfl
 · refine .inr ⟨v',_,_,_,_,_,by decide,rfl,k,m,fun ps lv hlv => .bad ?_⟩
   rw [step_atom hi hc hlv,ha]
   simp only [stepA,putS]
   rw [if_pos hq,if_neg hl]
theorem YBad.node {q : Nat} (h : YBad w B T A n c l v i q e w') (hi : i < l.length) (hc : inG = true → bg [92,41] (l.drop i) = false) (hs : ∀ ps lv,stepA ⟨.L,i,ns,g,cl,ps,lv⟩ (atomA l i) = .bad i q) (hq : q ≠ 0) : YNode false w B T A n c l v ns g i cl inG e w':=by
 obtain ⟨v',ns',g',cl',rfl,k,m⟩:=h
 refine .inr ⟨v',_,_,_,_,_,hq,rfl,k,m,fun ps lv hlv => .bad ?_⟩
 rw [step_atom hi hc hlv,hs]
theorem YNode.ret {pc : Bool} (h : YNode pc w B T A n c l v ns g i cl inG e w') : ∃ z,e = .returned (.int .i64 z) ∧ YNode pc w B T A n c l v ns g i cl inG (.returned (.int .i64 z)) w':=by
 rcases h with ⟨x,v',ns',g',i',cl',rfl,h⟩ | ⟨v',ns',g',i',cl',q,hq,rfl,h⟩
 · exact ⟨_,rfl,.inl ⟨x,v',ns',g',i',cl',rfl,h⟩⟩
 · exact ⟨_,rfl,.inr ⟨v',ns',g',i',cl',q,hq,rfl,h⟩⟩
theorem YNode.from {pc : Bool} {w0 : World} {v0 : Value} (h : YNode pc w B T A n c l v ns g i cl inG e w') (h0 : ChP w0 w T v0 v) : YNode pc w0 B T A n c l v0 ns g i cl inG e w':=by
 rcases h with ⟨x,v',ns',g',i',cl',h1,h2,h3,h4,h5⟩ | ⟨v',ns',g',i',cl',q,h1,h2,h3,h4,h5⟩
 · exact .inl ⟨x,v',ns',g',i',cl',h1,h2,h3,h0.trans h4,h5⟩
 · exact .inr ⟨v',ns',g',i',cl',q,h1,h2,h3,h0.trans h4,h5⟩
theorem YBranch.ret (h : YBranch w B T A n c l v ns g i cl inG e w') : ∃ z,e = .returned (.int .i64 z) ∧ YBranch w B T A n c l v ns g i cl inG (.returned (.int .i64 z)) w':=by
 rcases h with ⟨x,v',ns',g',i',cl',ns1,ps',rfl,h⟩ | ⟨v',ns',g',i',cl',q,hq,rfl,h⟩
 · exact ⟨_,rfl,.inl ⟨x,v',ns',g',i',cl',ns1,ps',rfl,h⟩⟩
 · exact ⟨_,rfl,.inr ⟨v',ns',g',i',cl',q,hq,rfl,h⟩⟩
theorem YAm.node {a : Am} (h : YAm w B T A n c l v ns g i cl a e w') (hi : i < l.length) (hc : inG = true → bg [92,41] (l.drop i) = false) (ha : atomA l i = a) (hq : ∀ q,a = .bad q → q ≠ 0) (hj : ∀ j nd,a = .nod j nd → i < j) : YNode false w B T A n c l v ns g i cl inG e w':=by
 cases a with
 | bad q => exact YBad.node h hi hc (fun ps lv => by rw [ha];rfl) (hq q rfl)
 | opn => exact h.elim
 | bak q =>
  unfold YAm at h
  simp only at h
  split at h
  · rename_i hcl;exact YPut.bak h hi hc ha hcl
  · rename_i hcl;exact YBad.node h hi hc (fun ps lv => by rw [ha];simp only [stepA];rw [if_neg hcl]) (by decide)
 | nod j nd => exact YPut.node h hi hc ha (hj j nd rfl)
end
theorem atom_opn {t : List UInt8} {i : Nat} (h : bg [92,40] (t.drop i) = true) : atomA t i = .opn:=by
 obtain ⟨r,hr⟩:=drop_two h
 unfold atomA
 rw [hr];rfl
theorem binner_any {w2 : World} {G T : Nat} {P : Ending → World → Prop} (hG : Held w2 G 86 #[.pointer (some ⟨T,0,none⟩)]) (hP : ∀ e w',P e w' → ∃ z,e = .returned (.int .i64 z) ∧ P (.returned (.int .i64 z)) w')
    (hB : Calls Tryz.prog 29 #[.pointer (some ⟨T,0,none⟩),.bool true] w2 P) : Calls Tryz.prog 93 #[.pointer (some ⟨G,0,none⟩)] w2 P:=by
 have z:=hG.at_ (i:=0) rfl
 have hB':=lhi hB
 have hP':=lhi hP
 clear hB hP hG
 go_enter Tryz.func93,Tryz.ntmps93
 go_wp2_with (go_at_call 29;refine (hB'.out).mono ?_;intro x w3 hy;obtain ⟨z,rfl,hy⟩:=hP'.out _ _ hy;replace hy:=lhi hy)
 (try go_ret)
 exact hy.out
section
variable {w : World} {B T : Nat} {A : Option Addr} {n c : Nat} {l : List UInt8} {v : Value} {ns : List Nod} {g i : Nat} {cl : Nat → Bool} (h : Psr w B T A n c l v ns g i cl 0) {inG : Bool} (hx : bg [92,40] (l.drop i) = true)
include h hx
theorem bparen_full (hg : g = 9) (f : Value) : Calls Tryz.prog 92 #[.pointer (some ⟨T,0,none⟩),.string ⟨#[92,40]⟩,.string ⟨#[92,41]⟩,f] w (YNode false w B T A n c l v ns g i cl inG):=by
 have hrm:=bg_room hx
 simp at hrm
 have hO:=lhi (open_any B T 0 v ns g w h.bldr)
 have hP:=lhi h
 rw [show openI g = -1 by simp [openI,hg],show openG g = g by simp [openG,hg]] at hO
 have hfin:=lhi (fun (w' : World) (x : Ending) (y : YBad w B T A n c l v i 17 x w') => y.node (inG:=inG) (ns:=ns) (g:=g) (cl:=cl) (by omega) (fun _ => by obtain ⟨r,hr⟩:=drop_two hx;rw [hr];rfl) (fun ps lv => by rw [atom_opn hx];simp [stepA,hg]) (by decide))
 clear h hx hg
 go_enter Tryz.func92,Tryz.ntmps92
 go_wp2_with (first
  | (go_at_call 112;refine (hO.out).mono ?_;rintro x w1 ⟨rfl,hb,hc⟩;have h1:=lhi (hP.out.built (nlr _) hb hc);have k1:=lhi hc.chp;clear hb hc)
  | (go_at_call 66;refine (wrong_at h1.out 17 17 rfl).mono ?_;intro x w2 hy;obtain ⟨rfl,hy⟩:=hy.ret;replace hy:=lhi (hfin.out _ _ (hy.from k1.out))))
 go_ret
 exact hy.out
theorem bparen_any {G : Nat} (hG : Held w G 86 #[.pointer (some ⟨T,0,none⟩)]) (hGT : G ≠ T) (hGv : some G ≠ v.ownBlock) (hB : ∀ k,k < n - i → BrOK k) :
    Calls Tryz.prog 92 #[.pointer (some ⟨T,0,none⟩),.string ⟨#[92,40]⟩,.string ⟨#[92,41]⟩,.func (.func 93) #[] #[.pointer (some ⟨G,0,none⟩)]] w (YNode false w B T A n c l v ns g i cl inG):=by
 by_cases hg : g = 9
 · exact bparen_full h hx hg _
 have hg9 : g < 9:=by have:=h.grp;omega
 have hrm:=bg_room hx
 simp at hrm
 have hnl:=h.hn
 have hns : n ≤ 1000000:=h.txt.2.2.2.1
 have hi2 : i + 2 ≤ n:=by omega
 have hi0 : (i : Int) ≤ 1000000:=by omega
 have hO:=lhi (open_any B T 0 v ns g w h.bldr)
 rw [show openI g = (g : Int) + 1 by simp [openI,hg9],show openG g = g + 1 by simp [openG,hg9]] at hO
 have hP:=lhi h
 have hq : ((g : Int) + 1 == -1) = false:=by rw [bef];omega
 have hst:=lhi (fun (ps : List Int) (lv : List (Nat × List Int)) (hlv : lv.isEmpty = !inG) => show step l ⟨.L,i,ns,g,cl,ps,lv⟩ = .go ⟨.B,i + 2,ns,g + 1,cl,[],(g + 1,ps) :: lv⟩ from by
  rw [step_atom (by omega) (fun _ => by obtain ⟨r,hr⟩:=drop_two hx;rw [hr];rfl) hlv,atom_opn hx]
  simp only [stepA]
  rw [if_pos hg9])
 have hTk:=lhi (fun (w1 : World) (h1 : Psr w1 B T A n c l v ns (g + 1) i cl 0) => take_yes h1 ⟨#[92,40]⟩ hx 2 rfl (by decide))
 have hTe:=lhi (fun (w3 : World) (v3 : Value) (ns3 : List Nod) (g3 i3 : Nat) (cl3 : Nat → Bool) (h3 : Psr w3 B T A n c l v3 ns3 g3 i3 cl3 0) (hz : bg [92,41] (l.drop i3) = true) => take_yes h3 ⟨#[92,41]⟩ hz 2 rfl (by decide))
 have hBr:=lhi (fun (w2 : World) (h2 : Psr w2 B T A n c l v ns (g + 1) (i + 2) cl 0) (hG2 : Held w2 G 86 #[.pointer (some ⟨T,0,none⟩)]) => binner_any hG2 (fun e w' y => YBranch.ret y) (hB (n - (i + 2)) (by omega) true w2 B T A n c l v ns (g + 1) (i + 2) cl h2 rfl))
 have hGh:=lhi hG
 have hg0 : (g : Int) + 1 ≤ 9:=by omega
 clear h hx hg hrm hB hnl hG
 go_enter Tryz.func92,Tryz.ntmps92
 go_wp2_with (first
  | (go_at_call 112;refine (hO.out).mono ?_;rintro x w1 ⟨rfl,hb,hc⟩;have h1:=lhi (hP.out.built (g':=g + 1) (by omega) hb hc);have hG1:=lhi (hGh.out.chp hc.chp hGT hGv);have k1:=lhi hc.chp;clear hb hc)
  | (go_at_call 43;with_reducible show Calls _ _ #[_,Value.string {data:=#[92,40]}] _ _;refine (hTk.out _ h1.out).mono ?_;rintro x w9 ⟨rfl,-,h9,k9⟩;have hG9:=lhi (hG1.out.chp k9 hGT hGv);replace h9:=lhi h9;replace k9:=lhi (k1.out.trans k9))
  | (go_at_call 93;refine (hBr.out _ h9.out hG9.out).mono ?_;intro x w2 hy;rcases hy with ⟨x,v2,ns2,g2,i2,cl2,ns1,ps2,rfl,ok2,h2,k2,q1,q2,q3,q4,q5,q6⟩ | ⟨v2,ns2,g2,i2,cl2,e2,he2,rfl,h2,k2,q6⟩
     all_goals first
      | (rw [if_pos rfl] at q5
         have hF:=lhi (fine_any h2)
         rw [decide_eq_true rfl] at hF
         have hTz:=lhi (hTe.out _ _ _ _ _ _ h2 q5)
         replace k2:=lhi (k9.out.trans k2)
         replace q1:=lhi q1
         replace q2:=lhi q2
         replace q3:=lhi q3
         replace q4:=lhi q4
         replace q5:=lhi q5
         replace q6:=lhi q6
         replace ok2:=lhi ok2
         clear h2)
      | (have hF:=lhi (fine_any h2)
         rw [decide_eq_false he2] at hF
         replace h2:=lhi h2
         replace k2:=lhi (k9.out.trans k2)
         replace q6:=lhi q6
         replace he2:=lhi he2))
  | (go_at_call 39;refine (hF.out).mono ?_;rintro y w4 ⟨rfl,rfl⟩)
  | (go_at_call 43;with_reducible show Calls _ _ #[_,Value.string {data:=#[92,41]}] _ _;refine (hTz.out).mono ?_;rintro y w5 ⟨rfl,hi4,h3,k3⟩;have t4:=h3.thawed (4 + (g + 1));have c4:=h3.cQ (g + 1) (by omega);have h4:=lhi (h3.ended (q:=g + 1) (by omega) q2.out);have k4:=lhi ((k2.out.trans k3).trans (ChP.store _ T (4 + (g + 1)) (.bool true) v2));have hf:=lhi (fits_group (q:=(g : Int) + 1) (g:=(g2 : Int)) ok2.out (by omega) (by have:=q2.out;omega));have hgr:=lhi (group_any B T 0 v2 ns2 g2 _ h4.out.bldr ((g : Int) + 1) x);clear h3 k3))
 · by_cases hl : ns2.length < 1000
   · have hl':=lhi hl
     go_wp2_with (first
      | (go_at_call 113;refine (hgr.out).mono ?_;intro x w5 hx2;obtain ⟨v5,rfl,h5,k5⟩:=h4.out.room hl'.out hf.out hx2;clear hx2;replace h5:=lhi h5;replace k5:=lhi (k4.out.trans k5))
      | (go_at_call 44;refine (put_yes T ns2.length _).mono ?_;rintro x w6 ⟨rfl,rfl⟩))
     go_ret
     refine .inl ⟨_,v5,_,g2,i2 + 2,_,rfl,?_,h5.out,k5.out,?_,?_,?_,fun ps lv hlv => ?_⟩
     · rw [lla];exact okP_last _
     · have:=q1.out;rw [lla];omega
     · have:=q2.out;omega
     · have:=q3.out;omega
     · refine (Steps.one (hst.out ps lv hlv)).trans ((q6.out _ rfl).snoc ?_)
       exact step_close q5.out q4.out (by simpa using hl'.out)
   · have hl':=lhi hl
     go_wp2_with (first
      | (go_at_call 113;refine (hgr.out).mono ?_;intro x w5 hx2;obtain ⟨v5,rfl,h5,k5⟩:=h4.out.full hl'.out hx2;clear hx2;replace h5:=lhi h5;replace k5:=lhi (k4.out.trans k5))
      | (go_at_call 44;refine (put_no h5.out).mono ?_;rintro x w6 ⟨rfl,h6,k6⟩;replace h6:=lhi h6;replace k6:=lhi (k5.out.trans k6)))
     go_ret
     refine .inr ⟨v5,_,_,_,_,_,by decide,rfl,h6.out,k6.out,fun ps lv hlv => ?_⟩
     refine (Steps.one (hst.out ps lv hlv)).ends ((q6.out _ rfl).ends (.bad ?_))
     exact step_close_full q5.out q4.out (by simpa using hl'.out)
 · go_ret
   exact .inr ⟨v2,ns2,g2,i2,cl2,e2,he2.out,rfl,h2.out,k2.out,fun ps lv hlv => (Steps.one (hst.out ps lv hlv)).ends (q6.out _ rfl)⟩
end
section
variable {w : World} {B T : Nat} {A : Option Addr} {n c : Nat} {l : List UInt8} {v : Value} {ns : List Nod} {g i : Nat} {cl : Nat → Bool} (h : Psr w B T A n c l v ns g i cl 0)
include h
theorem dollar_eol (hr : i = n ∨ bg [92,41] (l.drop i) = true) : Calls Tryz.prog 94 #[.pointer (some ⟨T,0,none⟩)] w (YPut w B T A n c l v ns g cl i eolN):=by
 have hEn:=lhi (ends_any h)
 have hP:=lhi (fun w1 (hb : Below w.heap.size w w1) => h.keep hb)
 have hE:=lhi (fun w1 (hb : Below w.heap.size w w1) => eol_any B T 0 v ns g w1 (h.keep hb).bldr)
 have hW : Hid (∀ w1,Below w.heap.size w w1 → ∀ x w2,BldRet w1 B T 0 v (putI ns g eolN) (putL ns g eolN) g x w2 → ∃ z,x = .returned (.int .i64 z) ∧ Calls Tryz.prog 44 #[.pointer (some ⟨T,0,none⟩),.int .i64 z] w2 (YPut w B T A n c l v ns g cl i eolN)):=by
  refine lhi fun w1 hb x w2 hx => ?_
  by_cases hl : ns.length < 1000
  · obtain ⟨v2,rfl,h2,k2⟩:=(h.keep hb).room hl (fits_plain 8 (.inr (.inr rfl)) _ _) hx
    exact ⟨_,rfl,(put_yes T ns.length _).mono fun e w3 ⟨e1,e2⟩ => by subst e1;subst e2;exact YPut.yes hl h2 ((ChP.of_below hb).trans k2)⟩
  · obtain ⟨v2,rfl,h2,k2⟩:=(h.keep hb).full hl hx
    exact ⟨_,rfl,(put_no h2).mono fun e w3 ⟨e1,h3,k3⟩ => by subst e1;exact YPut.no hl h3 (((ChP.of_below hb).trans k2).trans k3)⟩
 by_cases hi : i = n
 · rw [decide_eq_true hi] at hEn
   clear h hr hi
   go_enter Tryz.func94,Tryz.ntmps94
   go_wp2_with (first
    | (go_at_call 25;refine (hEn.out).mono ?_;rintro y w3 ⟨rfl,hb3⟩;have hbd:=lhi hb3.drew;replace hb3:=lhi hb3)
    | (go_region_with (first
        | (go_at_call 88;refine (hE.out _ hbd.out).mono ?_;intro x w7 hx0;obtain ⟨z,rfl,hx⟩:=hW.out _ hbd.out _ _ hx0;clear hx0;replace hx:=lhi hx)
        | (go_at_call 44;refine (hx.out).mono ?_;intro x w8 hy;obtain ⟨z,rfl,hy⟩:=hy.ret;replace hy:=lhi hy))))
   all_goals
    go_ret
    exact hy.out
 · rw [decide_eq_false hi] at hEn
   have hCm:=lhi (fun w3 (hb : Below w.heap.size w w3) => comes_is (h.keep hb) ⟨#[92,41]⟩ true (hr.resolve_left hi))
   clear h hr hi
   go_enter Tryz.func94,Tryz.ntmps94
   go_wp2_with (first
    | (go_at_call 25;refine (hEn.out).mono ?_;rintro y w3 ⟨rfl,hb3⟩;have hbd:=lhi hb3.drew;replace hb3:=lhi hb3)
    | (go_at_call 47;refine (hCm.out _ hb3.out).mono ?_;rintro y w4 ⟨rfl,hb4⟩;replace hb4:=hb3.out.trans (hb4.mono hb3.out.size);have hbd:=lhi hb4.drew;replace hb4:=lhi hb4)
    | (go_region_with (first
        | (go_at_call 88;refine (hE.out _ hbd.out).mono ?_;intro x w7 hx0;obtain ⟨z,rfl,hx⟩:=hW.out _ hbd.out _ _ hx0;clear hx0;replace hx:=lhi hx)
        | (go_at_call 44;refine (hx.out).mono ?_;intro x w8 hy;obtain ⟨z,rfl,hy⟩:=hy.ret;replace hy:=lhi hy))))
   all_goals
    go_ret
    exact hy.out
theorem dollar_byte (hi : i ≠ n) (hr : bg [92,41] (l.drop i) = false) : Calls Tryz.prog 94 #[.pointer (some ⟨T,0,none⟩)] w (YPut w B T A n c l v ns g cl i (setN (oneF 36))):=by
 have hEn:=lhi (ends_any h)
 have hE:=lhi (fun w1 (hb : Below w.heap.size w w1) => set_any B T 0 v ns g w1 (h.keep hb).bldr (oneF 36))
 unfold setV at hE
 have hW : Hid (∀ w1,Below w.heap.size w w1 → ∀ x w2,BldRet w1 B T 0 v (putI ns g (setN (oneF 36))) (putL ns g (setN (oneF 36))) g x w2 → ∃ z,x = .returned (.int .i64 z) ∧ Calls Tryz.prog 44 #[.pointer (some ⟨T,0,none⟩),.int .i64 z] w2 (YPut w B T A n c l v ns g cl i (setN (oneF 36)))):=by
  refine lhi fun w1 hb x w2 hx => ?_
  by_cases hl : ns.length < 1000
  · obtain ⟨v2,rfl,h2,k2⟩:=(h.keep hb).room hl (fits_set _ _ _) hx
    exact ⟨_,rfl,(put_yes T ns.length _).mono fun e w3 ⟨e1,e2⟩ => by subst e1;subst e2;exact YPut.yes hl h2 ((ChP.of_below hb).trans k2)⟩
  · obtain ⟨v2,rfl,h2,k2⟩:=(h.keep hb).full hl hx
    exact ⟨_,rfl,(put_no h2).mono fun e w3 ⟨e1,h3,k3⟩ => by subst e1;exact YPut.no hl h3 (((ChP.of_below hb).trans k2).trans k3)⟩
 have hO : Hid (∀ w : World,Calls Tryz.prog 82 #[.slice (some ⟨w.heap.size,0,none⟩) 1 1] (w.alloc (.cells #[.int .u8 36] 5)) fun e w' => e = .returned (.agg (setC (oneF 36))) ∧ Below w.heap.size w w'):=lhi (fun w => of_one w 36)
 rw [decide_eq_false hi] at hEn
 have hCm:=lhi (fun w3 (hb : Below w.heap.size w w3) => comes_is (h.keep hb) ⟨#[92,41]⟩ false hr)
 clear h hr hi
 rw [setC_lit (oneF 36)] at hE hO
 generalize wd (oneF 36) 0 = s0 at *
 generalize wd (oneF 36) 1 = s1 at *
 generalize wd (oneF 36) 2 = s2 at *
 generalize wd (oneF 36) 3 = s3 at *
 go_enter Tryz.func94,Tryz.ntmps94
 go_wp2_with (first
  | (go_at_call 25;refine (hEn.out).mono ?_;rintro y w3 ⟨rfl,hb3⟩;have hbd:=lhi hb3.drew;replace hb3:=lhi hb3)
  | (go_at_call 47;refine (hCm.out _ hb3.out).mono ?_;rintro y w4 ⟨rfl,hb4⟩;replace hb4:=hb3.out.trans (hb4.mono hb3.out.size);have hbd:=lhi hb4.drew;replace hb4:=lhi hb4)
  | (go_region_with (first
      | (go_at_call 82;refine (hO.out w4.drew).mono ?_;rintro z w5 ⟨rfl,hb5⟩;replace hbd:=lhi (hbd.out.trans (hb5.mono hbd.out.size)))
      | (go_at_call 114;refine (hE.out _ hbd.out).mono ?_;intro x w7 hx0;obtain ⟨z,rfl,hx⟩:=hW.out _ hbd.out _ _ hx0;clear hx0;replace hx:=lhi hx)
      | (go_at_call 44;refine (hx.out).mono ?_;intro x w8 hy;obtain ⟨z,rfl,hy⟩:=hy.ret;replace hy:=lhi hy))))
 all_goals
  go_ret
  exact hy.out
end
theorem atom_par {t : List UInt8} {i : Nat} (h : bg [92,41] (t.drop i) = true) : atomA t i = .bad 14:=by
 obtain ⟨r,hr⟩:=drop_two h
 unfold atomA;rw [hr];rfl
theorem atom_ivl {t : List UInt8} {i : Nat} (h : bg [92,123] (t.drop i) = true) : atomA t i = .bad 13:=by
 obtain ⟨r,hr⟩:=drop_two h
 unfold atomA;rw [hr];rfl
theorem atom_one {t : List UInt8} {i : Nat} (hi : i < t.length) (h1 : bg [92,40] (t.drop i) = false) (h2 : bg [92,41] (t.drop i) = false) (h3 : bg [92,123] (t.drop i) = false) (h4 : bg [36] (t.drop i) = false) : atomA t i = oneA t i:=by
 have hx:=List.drop_eq_getElem_cons hi
 generalize t[i] = x at hx
 unfold atomA
 rw [one_at hx]
 rw [hx] at h1 h2 h3 h4 ⊢
 have h36:=bg1 h4
 simp only [atomR,oneR]
 by_cases h92 : x = 92
 · subst h92
   rw [if_pos rfl,if_neg (by decide),if_neg (by decide),if_pos rfl]
   simp only [bg_cons,beq_self_eq_true,Bool.true_and] at h1 h2 h3
   exact escA_esc i h1 h2 h3
 · rw [if_neg h92]
   by_cases h91 : x = 91
   · subst h91;rfl
   · rw [if_neg h91,if_neg h91,if_neg h92]
     by_cases h46 : x = 46
     · rw [if_pos h46,if_pos h46]
     · rw [if_neg h46,if_neg h46,if_neg (fun e => h36 e.1)]
theorem atom_dol {t : List UInt8} {i : Nat} (hb : bg [36] (t.drop i) = true) : atomA t i = .nod (i + 1) (if i + 1 = t.length ∨ bg [92,41] (t.drop (i + 1)) = true then eolN else setN (oneF 36)):=by
 obtain ⟨r,hr⟩:=drop_one hb
 obtain ⟨hi,-,hd⟩:=drop_at hr
 unfold atomA
 rw [hr,hd]
 simp only [atomR,ofL_one]
 rw [if_neg (by decide),if_neg (by decide),if_neg (by decide)]
 have hl : (r = []) ↔ (i + 1 = t.length):=by
  rw [← List.length_eq_zero_iff,← hd,List.length_drop];omega
 simp only [true_and,hl]
 split
 · rfl
 · rfl
section
variable {w : World} {B T : Nat} {A : Option Addr} {n c : Nat} {l : List UInt8} {v : Value} {ns : List Nod} {g i : Nat} {cl : Nat → Bool} (h : Psr w B T A n c l v ns g i cl 0) {inG : Bool}
include h
theorem atom_opn_any (h1 : bg [92,40] (l.drop i) = true) (hB : ∀ k,k < n - i → BrOK k) :
    Calls Tryz.prog 70 #[.pointer (some ⟨T,0,none⟩)] w (YNode false w B T A n c l v ns g i cl inG):=by
 have hnl:=h.hn
 have hG0:=lhi (held_new w 86 #[.pointer (some ⟨T,0,none⟩)])
 have hb0:=lhi ((Below.refl w.heap.size w).alloc (nlr _) (.cells #[.pointer (some ⟨T,0,none⟩)] 86))
 have h0:=h.keep hb0.out
 have hB0:=lhi (Below.refl (w.alloc (.cells #[.pointer (some ⟨T,0,none⟩)] 86)).heap.size (w.alloc (.cells #[.pointer (some ⟨T,0,none⟩)] 86)))
 have hC1:=lhi (fun w3 (hb : Below (w.alloc (.cells #[.pointer (some ⟨T,0,none⟩)] 86)).heap.size (w.alloc (.cells #[.pointer (some ⟨T,0,none⟩)] 86)) w3) => comes_is (h0.keep hb) ⟨#[92,40]⟩ true h1)
 have hP:=lhi (fun (w3 : World) (hb : Below (w.alloc (.cells #[.pointer (some ⟨T,0,none⟩)] 86)).heap.size (w.alloc (.cells #[.pointer (some ⟨T,0,none⟩)] 86)) w3) => bparen_any (inG:=inG) (h0.keep hb) h1 (hG0.out.keep hb) (show w.heap.size ≠ T by have:=h.lt;omega) (h.own_lt (nlr w.heap.size)) hB)
 clear h h0 h1 hB hnl
 go_enter Tryz.func70,Tryz.ntmps70
 go_wp2_with (first
  | (go_at_call 47;with_reducible show Calls _ _ #[_,Value.string {data:=#[92,40]}] _ _;refine (hC1.out _ hB0.out).mono ?_;rintro y w1 ⟨rfl,hb⟩;have hB1:=lhi (hB0.out.trans (hb.mono hB0.out.size));have z1:=(hG0.out.keep hB1.out).at_ (i:=0) rfl;clear hb)
  | (go_at_call 92;refine (hP.out _ hB1.out).mono ?_;intro x w5 hy;obtain ⟨z,rfl,hy⟩:=hy.ret;replace hy:=lhi (hy.from (ChP.of_below (hb0.out.trans (hB1.out.mono hb0.out.size))))))
 go_ret
 exact hy.out
theorem atom_par_any (hi : i < n) (h1 : bg [92,40] (l.drop i) = false) (h2 : bg [92,41] (l.drop i) = true) (hc : inG = true → bg [92,41] (l.drop i) = false) :
    Calls Tryz.prog 70 #[.pointer (some ⟨T,0,none⟩)] w (YNode false w B T A n c l v ns g i cl inG):=by
 have hnl:=h.hn
 have hG0:=lhi (held_new w 86 #[.pointer (some ⟨T,0,none⟩)])
 have hb0:=lhi ((Below.refl w.heap.size w).alloc (nlr _) (.cells #[.pointer (some ⟨T,0,none⟩)] 86))
 have h0:=h.keep hb0.out
 have hB0:=lhi (Below.refl (w.alloc (.cells #[.pointer (some ⟨T,0,none⟩)] 86)).heap.size (w.alloc (.cells #[.pointer (some ⟨T,0,none⟩)] 86)))
 have hC1:=lhi (fun w3 (hb : Below (w.alloc (.cells #[.pointer (some ⟨T,0,none⟩)] 86)).heap.size (w.alloc (.cells #[.pointer (some ⟨T,0,none⟩)] 86)) w3) => comes_is (h0.keep hb) ⟨#[92,40]⟩ false h1)
 have hC2:=lhi (fun w3 (hb : Below (w.alloc (.cells #[.pointer (some ⟨T,0,none⟩)] 86)).heap.size (w.alloc (.cells #[.pointer (some ⟨T,0,none⟩)] 86)) w3) => comes_is (h0.keep hb) ⟨#[92,41]⟩ true h2)
 have hW:=lhi (fun (w3 : World) (hb : Below (w.alloc (.cells #[.pointer (some ⟨T,0,none⟩)] 86)).heap.size (w.alloc (.cells #[.pointer (some ⟨T,0,none⟩)] 86)) w3) => wrong_at (h0.keep hb) 14 14 rfl)
 have hfin:=lhi (fun (w' : World) (z : Ending) (y : YBad w B T A n c l v i 14 z w') => y.node (inG:=inG) (ns:=ns) (g:=g) (cl:=cl) (by omega) hc (fun ps lv => by rw [atom_par h2];rfl) (by decide))
 clear h h0 hnl hc hi
 go_enter Tryz.func70,Tryz.ntmps70
 go_wp2_with (first
  | (go_at_call 47;with_reducible show Calls _ _ #[_,Value.string {data:=#[92,40]}] _ _;refine (hC1.out _ hB0.out).mono ?_;rintro y w1 ⟨rfl,hb⟩;have hB1:=lhi (hB0.out.trans (hb.mono hB0.out.size));have z1:=(hG0.out.keep hB1.out).at_ (i:=0) rfl;clear hb)
  | (go_at_call 47;with_reducible show Calls _ _ #[_,Value.string {data:=#[92,41]}] _ _;refine (hC2.out _ hB1.out).mono ?_;rintro y w2 ⟨rfl,hb⟩;have hB2:=lhi (hB1.out.trans (hb.mono hB1.out.size));have z2:=(hG0.out.keep hB2.out).at_ (i:=0) rfl;clear hb)
  | (go_at_call 66;refine (hW.out _ hB2.out).mono ?_;intro x w5 hy;obtain ⟨rfl,hy⟩:=hy.ret;replace hy:=lhi (hfin.out _ _ (hy.from (ChP.of_below (hb0.out.trans (hB2.out.mono hb0.out.size)))))))
 go_ret
 exact hy.out
theorem atom_ivl_any (hi : i < n) (h1 : bg [92,40] (l.drop i) = false) (h2 : bg [92,41] (l.drop i) = false) (h3 : bg [92,123] (l.drop i) = true) (hc : inG = true → bg [92,41] (l.drop i) = false) :
    Calls Tryz.prog 70 #[.pointer (some ⟨T,0,none⟩)] w (YNode false w B T A n c l v ns g i cl inG):=by
 have hnl:=h.hn
 have hG0:=lhi (held_new w 86 #[.pointer (some ⟨T,0,none⟩)])
 have hb0:=lhi ((Below.refl w.heap.size w).alloc (nlr _) (.cells #[.pointer (some ⟨T,0,none⟩)] 86))
 have h0:=h.keep hb0.out
 have hB0:=lhi (Below.refl (w.alloc (.cells #[.pointer (some ⟨T,0,none⟩)] 86)).heap.size (w.alloc (.cells #[.pointer (some ⟨T,0,none⟩)] 86)))
 have hC1:=lhi (fun w3 (hb : Below (w.alloc (.cells #[.pointer (some ⟨T,0,none⟩)] 86)).heap.size (w.alloc (.cells #[.pointer (some ⟨T,0,none⟩)] 86)) w3) => comes_is (h0.keep hb) ⟨#[92,40]⟩ false h1)
 have hC2:=lhi (fun w3 (hb : Below (w.alloc (.cells #[.pointer (some ⟨T,0,none⟩)] 86)).heap.size (w.alloc (.cells #[.pointer (some ⟨T,0,none⟩)] 86)) w3) => comes_is (h0.keep hb) ⟨#[92,41]⟩ false h2)
 have hC3:=lhi (fun w3 (hb : Below (w.alloc (.cells #[.pointer (some ⟨T,0,none⟩)] 86)).heap.size (w.alloc (.cells #[.pointer (some ⟨T,0,none⟩)] 86)) w3) => comes_is (h0.keep hb) ⟨#[92,123]⟩ true h3)
 have hW:=lhi (fun (w3 : World) (hb : Below (w.alloc (.cells #[.pointer (some ⟨T,0,none⟩)] 86)).heap.size (w.alloc (.cells #[.pointer (some ⟨T,0,none⟩)] 86)) w3) => wrong_at (h0.keep hb) 13 13 rfl)
 have hfin:=lhi (fun (w' : World) (z : Ending) (y : YBad w B T A n c l v i 13 z w') => y.node (inG:=inG) (ns:=ns) (g:=g) (cl:=cl) (by omega) hc (fun ps lv => by rw [atom_ivl h3];rfl) (by decide))
 clear h h0 hnl hc hi
 go_enter Tryz.func70,Tryz.ntmps70
 go_wp2_with (first
  | (go_at_call 47;with_reducible show Calls _ _ #[_,Value.string {data:=#[92,40]}] _ _;refine (hC1.out _ hB0.out).mono ?_;rintro y w1 ⟨rfl,hb⟩;have hB1:=lhi (hB0.out.trans (hb.mono hB0.out.size));have z1:=(hG0.out.keep hB1.out).at_ (i:=0) rfl;clear hb)
  | (go_at_call 47;with_reducible show Calls _ _ #[_,Value.string {data:=#[92,41]}] _ _;refine (hC2.out _ hB1.out).mono ?_;rintro y w2 ⟨rfl,hb⟩;have hB2:=lhi (hB1.out.trans (hb.mono hB1.out.size));have z2:=(hG0.out.keep hB2.out).at_ (i:=0) rfl;clear hb)
  | (go_at_call 47;with_reducible show Calls _ _ #[_,Value.string {data:=#[92,123]}] _ _;refine (hC3.out _ hB2.out).mono ?_;rintro y w3 ⟨rfl,hb⟩;have hB3:=lhi (hB2.out.trans (hb.mono hB2.out.size));have z3:=(hG0.out.keep hB3.out).at_ (i:=0) rfl;clear hb)
  | (go_at_call 66;refine (hW.out _ hB3.out).mono ?_;intro x w5 hy;obtain ⟨rfl,hy⟩:=hy.ret;replace hy:=lhi (hfin.out _ _ (hy.from (ChP.of_below (hb0.out.trans (hB3.out.mono hb0.out.size)))))))
 go_ret
 exact hy.out
theorem atom_one_any (hi : i < n) (h1 : bg [92,40] (l.drop i) = false) (h2 : bg [92,41] (l.drop i) = false) (h3 : bg [92,123] (l.drop i) = false) (h4 : bg [36] (l.drop i) = false) (hc : inG = true → bg [92,41] (l.drop i) = false) :
    Calls Tryz.prog 70 #[.pointer (some ⟨T,0,none⟩)] w (YNode false w B T A n c l v ns g i cl inG):=by
 have hnl:=h.hn
 have hG0:=lhi (held_new w 86 #[.pointer (some ⟨T,0,none⟩)])
 have hb0:=lhi ((Below.refl w.heap.size w).alloc (nlr _) (.cells #[.pointer (some ⟨T,0,none⟩)] 86))
 have h0:=h.keep hb0.out
 have hB0:=lhi (Below.refl (w.alloc (.cells #[.pointer (some ⟨T,0,none⟩)] 86)).heap.size (w.alloc (.cells #[.pointer (some ⟨T,0,none⟩)] 86)))
 have hC1:=lhi (fun w3 (hb : Below (w.alloc (.cells #[.pointer (some ⟨T,0,none⟩)] 86)).heap.size (w.alloc (.cells #[.pointer (some ⟨T,0,none⟩)] 86)) w3) => comes_is (h0.keep hb) ⟨#[92,40]⟩ false h1)
 have hC2:=lhi (fun w3 (hb : Below (w.alloc (.cells #[.pointer (some ⟨T,0,none⟩)] 86)).heap.size (w.alloc (.cells #[.pointer (some ⟨T,0,none⟩)] 86)) w3) => comes_is (h0.keep hb) ⟨#[92,41]⟩ false h2)
 have hC3:=lhi (fun w3 (hb : Below (w.alloc (.cells #[.pointer (some ⟨T,0,none⟩)] 86)).heap.size (w.alloc (.cells #[.pointer (some ⟨T,0,none⟩)] 86)) w3) => comes_is (h0.keep hb) ⟨#[92,123]⟩ false h3)
 have hT:=lhi (fun (w3 : World) (hb : Below (w.alloc (.cells #[.pointer (some ⟨T,0,none⟩)] 86)).heap.size (w.alloc (.cells #[.pointer (some ⟨T,0,none⟩)] 86)) w3) => take_no (h0.keep hb) ⟨#[36]⟩ h4)
 have hO:=lhi (fun (w3 : World) (hb : Below (w.alloc (.cells #[.pointer (some ⟨T,0,none⟩)] 86)).heap.size (w.alloc (.cells #[.pointer (some ⟨T,0,none⟩)] 86)) w3) => one_any (h0.keep hb) hi)
 have hfin:=lhi (fun (w' : World) (z : Ending) (y : YAm w B T A n c l v ns g i cl (oneA l i) z w') => y.node (inG:=inG) (by omega) hc (atom_one (by omega) h1 h2 h3 h4) (fun q => one_bad (by omega)) (fun j nd => one_nod (by omega)))
 generalize oneA l i = a at *
 clear h h0 hnl hc hi h1 h2 h3 h4
 go_enter Tryz.func70,Tryz.ntmps70
 go_wp2_with (first
  | (go_at_call 47;with_reducible show Calls _ _ #[_,Value.string {data:=#[92,40]}] _ _;refine (hC1.out _ hB0.out).mono ?_;rintro y w1 ⟨rfl,hb⟩;have hB1:=lhi (hB0.out.trans (hb.mono hB0.out.size));have z1:=(hG0.out.keep hB1.out).at_ (i:=0) rfl;clear hb)
  | (go_at_call 47;with_reducible show Calls _ _ #[_,Value.string {data:=#[92,41]}] _ _;refine (hC2.out _ hB1.out).mono ?_;rintro y w2 ⟨rfl,hb⟩;have hB2:=lhi (hB1.out.trans (hb.mono hB1.out.size));have z2:=(hG0.out.keep hB2.out).at_ (i:=0) rfl;clear hb)
  | (go_at_call 47;with_reducible show Calls _ _ #[_,Value.string {data:=#[92,123]}] _ _;refine (hC3.out _ hB2.out).mono ?_;rintro y w3 ⟨rfl,hb⟩;have hB3:=lhi (hB2.out.trans (hb.mono hB2.out.size));have z3:=(hG0.out.keep hB3.out).at_ (i:=0) rfl;clear hb)
  | (go_at_call 43;refine (hT.out _ hB3.out).mono ?_;rintro y w4 ⟨rfl,hb⟩;have hB4:=lhi (hB3.out.trans (hb.mono hB3.out.size));have z4:=(hG0.out.keep hB4.out).at_ (i:=0) rfl;clear hb)
  | (go_at_call 95;refine (hO.out _ hB4.out).mono ?_;intro x w5 hy;obtain ⟨z,rfl,hy⟩:=hy.ret;replace hy:=lhi (hfin.out _ _ (hy.from (ChP.of_below (hb0.out.trans (hB4.out.mono hb0.out.size)))))))
 go_ret
 exact hy.out
theorem atom_dol_any (hi : i < n) (h1 : bg [92,40] (l.drop i) = false) (h2 : bg [92,41] (l.drop i) = false) (h3 : bg [92,123] (l.drop i) = false) (h4 : bg [36] (l.drop i) = true) (hc : inG = true → bg [92,41] (l.drop i) = false) :
    Calls Tryz.prog 70 #[.pointer (some ⟨T,0,none⟩)] w (YNode false w B T A n c l v ns g i cl inG):=by
 have hnl:=h.hn
 have hG0:=lhi (held_new w 86 #[.pointer (some ⟨T,0,none⟩)])
 have hb0:=lhi ((Below.refl w.heap.size w).alloc (nlr _) (.cells #[.pointer (some ⟨T,0,none⟩)] 86))
 have h0:=h.keep hb0.out
 have hB0:=lhi (Below.refl (w.alloc (.cells #[.pointer (some ⟨T,0,none⟩)] 86)).heap.size (w.alloc (.cells #[.pointer (some ⟨T,0,none⟩)] 86)))
 have hC1:=lhi (fun w3 (hb : Below (w.alloc (.cells #[.pointer (some ⟨T,0,none⟩)] 86)).heap.size (w.alloc (.cells #[.pointer (some ⟨T,0,none⟩)] 86)) w3) => comes_is (h0.keep hb) ⟨#[92,40]⟩ false h1)
 have hC2:=lhi (fun w3 (hb : Below (w.alloc (.cells #[.pointer (some ⟨T,0,none⟩)] 86)).heap.size (w.alloc (.cells #[.pointer (some ⟨T,0,none⟩)] 86)) w3) => comes_is (h0.keep hb) ⟨#[92,41]⟩ false h2)
 have hC3:=lhi (fun w3 (hb : Below (w.alloc (.cells #[.pointer (some ⟨T,0,none⟩)] 86)).heap.size (w.alloc (.cells #[.pointer (some ⟨T,0,none⟩)] 86)) w3) => comes_is (h0.keep hb) ⟨#[92,123]⟩ false h3)
 have hT:=lhi (fun (w3 : World) (hb : Below (w.alloc (.cells #[.pointer (some ⟨T,0,none⟩)] 86)).heap.size (w.alloc (.cells #[.pointer (some ⟨T,0,none⟩)] 86)) w3) => take_yes (h0.keep hb) ⟨#[36]⟩ h4 1 rfl (by decide))
 have hGc:=lhi (fun (w3 w4 : World) (hb : Below (w.alloc (.cells #[.pointer (some ⟨T,0,none⟩)] 86)).heap.size (w.alloc (.cells #[.pointer (some ⟨T,0,none⟩)] 86)) w3) (k : ChP w3 w4 T v v) => ((hG0.out.keep hb).chp k (show w.heap.size ≠ T by have:=h.lt;omega) (h.own_lt (nlr w.heap.size))).at_ (i:=0) rfl)
 have hD : Hid (∀ w4,Psr w4 B T A n c l v ns g (i + 1) cl 0 → Calls Tryz.prog 94 #[.pointer (some ⟨T,0,none⟩)] w4 (YPut w4 B T A n c l v ns g cl (i + 1) (if i + 1 = l.length ∨ bg [92,41] (l.drop (i + 1)) = true then eolN else setN (oneF 36)))):=by
  refine lhi fun w4 h4 => ?_
  split
  · rename_i hq;exact dollar_eol h4 (hq.imp (fun e => by omega) id)
  · rename_i hq;exact dollar_byte h4 (fun e => hq (.inl (by omega))) (by cases hz : bg [92,41] (l.drop (i + 1)) with | false => rfl | true => exact absurd (.inr hz) hq)
 have hfin:=lhi (fun (w' : World) (z : Ending) (y : YPut w B T A n c l v ns g cl (i + 1) (if i + 1 = l.length ∨ bg [92,41] (l.drop (i + 1)) = true then eolN else setN (oneF 36)) z w') => y.node (inG:=inG) (by omega) hc (atom_dol h4) (by omega))
 generalize (if i + 1 = l.length ∨ bg [92,41] (l.drop (i + 1)) = true then eolN else setN (oneF 36)) = nd at *
 clear h h0 hnl hc hi h1 h2 h3 h4
 go_enter Tryz.func70,Tryz.ntmps70
 go_wp2_with (first
  | (go_at_call 47;with_reducible show Calls _ _ #[_,Value.string {data:=#[92,40]}] _ _;refine (hC1.out _ hB0.out).mono ?_;rintro y w1 ⟨rfl,hb⟩;have hB1:=lhi (hB0.out.trans (hb.mono hB0.out.size));have z1:=(hG0.out.keep hB1.out).at_ (i:=0) rfl;clear hb)
  | (go_at_call 47;with_reducible show Calls _ _ #[_,Value.string {data:=#[92,41]}] _ _;refine (hC2.out _ hB1.out).mono ?_;rintro y w2 ⟨rfl,hb⟩;have hB2:=lhi (hB1.out.trans (hb.mono hB1.out.size));have z2:=(hG0.out.keep hB2.out).at_ (i:=0) rfl;clear hb)
  | (go_at_call 47;with_reducible show Calls _ _ #[_,Value.string {data:=#[92,123]}] _ _;refine (hC3.out _ hB2.out).mono ?_;rintro y w3 ⟨rfl,hb⟩;have hB3:=lhi (hB2.out.trans (hb.mono hB2.out.size));have z3:=(hG0.out.keep hB3.out).at_ (i:=0) rfl;clear hb)
  | (go_at_call 43;refine (hT.out _ hB3.out).mono ?_;rintro y w4 ⟨rfl,-,h4,k4⟩;have z4:=hGc.out _ _ hB3.out k4;replace h4:=lhi h4;replace k4:=lhi ((ChP.of_below (hb0.out.trans (hB3.out.mono hb0.out.size))).trans k4))
  | (go_at_call 94;refine (hD.out _ h4.out).mono ?_;intro x w5 hy;obtain ⟨z,rfl,hy⟩:=hy.ret;replace hy:=lhi (hfin.out _ _ (hy.from k4.out))))
 go_ret
 exact hy.out
theorem atom_any (hi : i < n) (hc : inG = true → bg [92,41] (l.drop i) = false) (hB : ∀ k,k < n - i → BrOK k) :
    Calls Tryz.prog 70 #[.pointer (some ⟨T,0,none⟩)] w (YNode false w B T A n c l v ns g i cl inG):=by
 cases h1 : bg [92,40] (l.drop i) with
 | true => exact atom_opn_any h h1 hB
 | false =>
  cases h2 : bg [92,41] (l.drop i) with
  | true => exact atom_par_any h hi h1 h2 hc
  | false =>
   cases h3 : bg [92,123] (l.drop i) with
   | true => exact atom_ivl_any h hi h1 h2 h3 hc
   | false =>
    cases h4 : bg [36] (l.drop i) with
    | true => exact atom_dol_any h hi h1 h2 h3 h4 hc
    | false => exact atom_one_any h hi h1 h2 h3 h4 hc
end
section
variable {t : List UInt8} {i : Nat} {ns : List Nod} {g : Nat} {cl : Nat → Bool} {ps : List Int} {lv : List (Nat × List Int)} {x : Int}
theorem step_star (hb : bg [42] (t.drop i) = true) (hl : ns.length < 1000) : step t ⟨.P x,i,ns,g,cl,ps,lv⟩ = .go ⟨.P (ns.length : Int),i + 1,ns ++ [repN x 0 (-1)],g,cl,ps,lv⟩:=by
 show stepP t _ x = _
 simp only [stepP,putS]
 rw [if_pos hb,if_pos hl]
theorem step_star_full (hb : bg [42] (t.drop i) = true) (hl : ¬ ns.length < 1000) : step t ⟨.P x,i,ns,g,cl,ps,lv⟩ = .bad (i + 1) 8:=by
 show stepP t _ x = _
 simp only [stepP,putS]
 rw [if_pos hb,if_neg hl]
theorem step_ivl (ha : bg [42] (t.drop i) = false) (hb : bg [92,123] (t.drop i) = true) {lo hi : Int} {j : Nat} (hv : ivl t i = some (lo,hi,j)) (hl : ns.length < 1000) : step t ⟨.P x,i,ns,g,cl,ps,lv⟩ = .go ⟨.P (ns.length : Int),j,ns ++ [repN x lo hi],g,cl,ps,lv⟩:=by
 show stepP t _ x = _
 simp only [stepP,putS]
 rw [if_neg (by rw [ha];decide),if_pos hb,hv]
 simp only
 rw [if_pos hl]
theorem step_ivl_full (ha : bg [42] (t.drop i) = false) (hb : bg [92,123] (t.drop i) = true) {lo hi : Int} {j : Nat} (hv : ivl t i = some (lo,hi,j)) (hl : ¬ ns.length < 1000) : step t ⟨.P x,i,ns,g,cl,ps,lv⟩ = .bad j 8:=by
 show stepP t _ x = _
 simp only [stepP,putS]
 rw [if_neg (by rw [ha];decide),if_pos hb,hv]
 simp only
 rw [if_neg hl]
theorem step_ivl_bad (ha : bg [42] (t.drop i) = false) (hb : bg [92,123] (t.drop i) = true) (hv : ivl t i = none) : step t ⟨.P x,i,ns,g,cl,ps,lv⟩ = .bad i 13:=by
 show stepP t _ x = _
 simp only [stepP,putS]
 rw [if_neg (by rw [ha];decide),if_pos hb,hv]
theorem step_off (ha : bg [42] (t.drop i) = false) (hb : bg [92,123] (t.drop i) = false) : step t ⟨.P x,i,ns,g,cl,ps,lv⟩ = .go ⟨.L,i,ns,g,cl,ps ++ [x],lv⟩:=by
 show stepP t _ x = _
 simp only [stepP,putS]
 rw [if_neg (by rw [ha];decide),if_neg (by rw [hb];decide)]
theorem ivl_size {lo hi : Int} {j : Nat} (hv : ivl t i = some (lo,hi,j)) (hi' : i ≤ t.length) : i < j ∧ j ≤ t.length ∧ timesN lo hi = true:=by
 unfold ivl at hv
 obtain ⟨⟨a,b,k⟩,h1,h2⟩:=Option.map_eq_some_iff.1 hv
 simp only [Prod.mk.injEq] at h2
 obtain ⟨rfl,rfl,rfl⟩:=h2
 have:=ivB_ok h1
 rw [List.length_drop] at this
 exact ⟨by omega,by omega,this.2.1⟩
end
section
variable {w : World} {B T : Nat} {A : Option Addr} {n c : Nat} {l : List UInt8} {v : Value} {ns : List Nod} {g i : Nat} {cl : Nat → Bool} (h : Psr w B T A n c l v ns g i cl 0) {inG : Bool}
include h
theorem YPut.again {w0 w' : World} {v0 : Value} {ns0 : List Nod} {g0 i0 j : Nat} {cl0 : Nat → Bool} {nd : Nod} {x : Int} {e : Ending} (y : YPut w B T A n c l v ns g cl j nd e w') (h0 : ChP w0 w T v0 v) (hn : ns0.length ≤ ns.length) (hg : g0 ≤ g) (hi : i0 < i) (hj : i < j)
    (hs : ∀ ps lv,lv.isEmpty = !inG → Steps l ⟨.L,i0,ns0,g0,cl0,ps,lv⟩ ⟨.P x,i,ns,g,cl,ps,lv⟩)
    (hy : ∀ ps lv,ns.length < 1000 → step l ⟨.P x,i,ns,g,cl,ps,lv⟩ = .go ⟨.P (ns.length : Int),j,ns ++ [nd],g,cl,ps,lv⟩)
    (hz : ∀ ps lv,¬ ns.length < 1000 → step l ⟨.P x,i,ns,g,cl,ps,lv⟩ = .bad j 8) : YNode false w0 B T A n c l v0 ns0 g0 i0 cl0 inG e w' ∧ leftP n T w' < leftP n T w:=by
 have hle:=h.le
 rcases y with ⟨hl,v',rfl,k,m⟩ | ⟨hl,v',rfl,k,m⟩
 · refine ⟨.inl ⟨_,v',_,_,_,_,rfl,?_,k,h0.trans m,?_,hg,by omega,fun ps lv hlv => (hs ps lv hlv).snoc (hy ps lv hl)⟩,?_⟩
   · rw [lla];exact okP_last _
   · rw [lla];omega
   · rw [k.left,h.left];omega
 · refine ⟨.inr ⟨v',_,_,_,_,_,by decide,rfl,k,h0.trans m,fun ps lv hlv => (hs ps lv hlv).ends (.bad (hz ps lv hl))⟩,?_⟩
   rw [k.left0 (by decide),h.left];omega
theorem piece_any (hi : i < n) (hc : inG = true → bg [92,41] (l.drop i) = false) (hB : ∀ k,k < n - i → BrOK k) :
    Calls Tryz.prog 48 #[.pointer (some ⟨T,0,none⟩)] w (YNode true w B T A n c l v ns g i cl inG):=by
 have hA:=lhi (atom_any h hi hc hB)
 have hns : n ≤ 1000000:=h.txt.2.2.2.1
 clear h hi hc hB
 go_enter Tryz.func48,Tryz.ntmps48
 go_wp2_with (go_at_call 70;refine (hA.out).mono ?_;intro y w1 hy;obtain ⟨z,rfl,hy⟩:=hy.ret;replace hy:=lhi hy)
 go_loopw [3] (fun a wr => YNode false w B T A n c l v ns g i cl inG (.returned a) wr) (fun _ wr => leftP n T wr)
 case atStart => exact hy.out
 case round =>
  clear hA hy
  rcases hrel with ⟨x,v2,ns2,g2,i2,cl2,ea,ok2,h2,k2,q1,q2,q3,q4⟩ | ⟨v2,ns2,g2,i2,cl2,e2,he2,ea,h2,k2,q4⟩
  · obtain rfl:=(Ending.returned.inj ea)
    clear ea
    have hF:=lhi (fine_any h2)
    rw [decide_eq_true rfl] at hF
    have hP:=lhi (fun w3 (hb : Below wr.heap.size wr w3) => h2.keep hb)
    have hnl:=h2.hn
    have hle:=h2.le
    cases hb1 : bg [42] (l.drop i2) with
    | true =>
     have hC:=lhi (take_yes h2 ⟨#[42]⟩ hb1 1 rfl (by decide))
     have hR:=lhi (fun (w4 : World) (h4 : Psr w4 B T A n c l v2 ns2 g2 (i2 + 1) cl2 0) => rep_any B T 0 v2 ns2 g2 w4 h4.bldr x 0 (-1))
     have hf:=lhi (fits_rep (g:=(g2 : Int)) ok2 (show timesN 0 (-1) = true by decide))
     have hpo:=lhi (fun (w4 : World) (h4 : Psr w4 B T A n c l v2 ns2 g2 (i2 + 1) cl2 0) (y : Ending) (w5 : World) => put_of h4 hf.out (x:=y) (w2:=w5))
     have hagain:=lhi (fun (w5 : World) (y : Ending) (z : YPut wr B T A n c l v2 ns2 g2 cl2 (i2 + 1) (repN x 0 (-1)) y w5) => YPut.again (inG:=inG) h2 z k2 q1 q2 q3 (Nat.lt_succ_self i2) q4 (fun ps lv hl => step_star hb1 hl) (fun ps lv hl => step_star_full hb1 hl))
     clear h2 k2 q1 q2 q3 q4 ok2 hb1 hnl hle
     go_wp2_with (first
      | (go_at_call 39;refine (hF.out).mono ?_;rintro y w9 ⟨rfl,rfl⟩)
      | (go_at_call 43;refine (hC.out).mono ?_;rintro y w3 ⟨rfl,-,h3,k3⟩;have h3d:=lhi (h3.keep (Below.refl _ _).drew);have k3d:=lhi (k3.trans (ChP.of_below (Below.refl _ _).drew));clear h3 k3)
      | (go_region_with (first
          | (go_at_call 71;refine (hR.out _ h3d.out).mono ?_;intro y w7 hx0;obtain ⟨z,rfl,hx⟩:=hpo.out _ h3d.out _ _ hx0;clear hx0;replace hx:=lhi hx)
          | (go_at_call 44;refine (hx.out).mono ?_;intro y w8 hy;obtain ⟨z,rfl,hy⟩:=hy.ret;replace hy:=lhi (hagain.out _ _ (hy.from k3d.out))))))
     all_goals
      refine ⟨?_,hy.out.2⟩
      (repeat apply Exists.intro)
      exact ⟨hy.out.1,rfl⟩
    | false =>
     have hC:=lhi (take_no h2 ⟨#[42]⟩ hb1)
     cases hb2 : bg [92,123] (l.drop i2) with
     | true =>
      have hC2:=lhi (fun w3 (hb : Below wr.heap.size wr w3) => comes_is (hP.out _ hb) ⟨#[92,123]⟩ true hb2)
      cases hv : ivl l i2 with
      | none =>
       have hT:=lhi (fun w3 (hb : Below wr.heap.size wr w3) => times_no (hP.out _ hb) ⟨#[92,123]⟩ ⟨#[92,125]⟩ (by decide) (by decide) (by decide) x hv)
       have hst:=lhi (fun ps lv => step_ivl_bad (ns:=ns2) (g:=g2) (cl:=cl2) (ps:=ps) (lv:=lv) (x:=x) hb1 hb2 hv)
       have h2':=lhi h2
       have k2':=lhi k2
       have q4':=lhi q4
       clear hb1 hb2 hv hnl h2 k2 q4 q1 q2 q3 ok2
       go_wp2_with (first
        | (go_at_call 39;refine (hF.out).mono ?_;rintro y w9 ⟨rfl,rfl⟩)
        | (go_at_call 43;refine (hC.out).mono ?_;rintro y w3 ⟨rfl,hb3⟩;replace hb3:=lhi hb3)
        | (go_at_call 47;refine (hC2.out _ hb3.out).mono ?_;rintro y w4 ⟨rfl,hb4⟩;replace hb4:=lhi (hb3.out.trans (hb4.mono hb3.out.size)))
        | (go_at_call 72;refine (hT.out _ hb4.out).mono ?_;intro y w5 hy;obtain ⟨v5,ns5,g5,cl5,rfl,h5,k5⟩:=hy;replace h5:=lhi h5;replace k5:=lhi ((ChP.of_below hb4.out).trans k5)))
       have hfin:=lhi (show YNode false w B T A n c l v ns g i cl inG (.returned (.int .i64 (-1))) w5 ∧ leftP n T w5 < leftP n T wr from
        ⟨.inr ⟨v5,ns5,g5,i2,cl5,13,by decide,rfl,h5.out,k2'.out.trans k5.out,fun ps lv hlv => (q4'.out ps lv hlv).ends (.bad (hst.out ps lv))⟩,by rw [h5.out.left0 (by decide),h2'.out.left];omega⟩)
       go_roundw
       case rel => exact hfin.out.1
       case measure => exact hfin.out.2
      | some p =>
       obtain ⟨lo,hi',j⟩:=p
       have hsz:=ivl_size hv (by omega)
       have hT:=lhi (fun w3 (hb : Below wr.heap.size wr w3) => times_yes (hP.out _ hb) ⟨#[92,123]⟩ ⟨#[92,125]⟩ (by decide) (by decide) (by decide) x ok2 hv)
       have hagain:=lhi (fun (w5 : World) (y : Ending) (z : YPut wr B T A n c l v2 ns2 g2 cl2 j (repN x lo hi') y w5) => YPut.again (inG:=inG) h2 z k2 q1 q2 q3 hsz.1 q4 (fun ps lv hl => step_ivl hb1 hb2 hv hl) (fun ps lv hl => step_ivl_full hb1 hb2 hv hl))
       clear hb1 hb2 hv hnl hsz h2 k2 q1 q2 q3 q4 ok2
       go_wp2_with (first
        | (go_at_call 39;refine (hF.out).mono ?_;rintro y w9 ⟨rfl,rfl⟩)
        | (go_at_call 43;refine (hC.out).mono ?_;rintro y w3 ⟨rfl,hb3⟩;replace hb3:=lhi hb3)
        | (go_at_call 47;refine (hC2.out _ hb3.out).mono ?_;rintro y w4 ⟨rfl,hb4⟩;replace hb4:=lhi (hb3.out.trans (hb4.mono hb3.out.size)))
        | (go_at_call 72;refine (hT.out _ hb4.out).mono ?_;intro y w5 hy;obtain ⟨z,rfl,hy⟩:=hy.ret;replace hy:=lhi (hagain.out _ _ (hy.from (ChP.of_below hb4.out)))))
       go_roundw
       case rel => exact hy.out.1
       case measure => exact hy.out.2
     | false =>
      have hC2:=lhi (fun w3 (hb : Below wr.heap.size wr w3) => comes_is (hP.out _ hb) ⟨#[92,123]⟩ false hb2)
      have hst:=lhi (fun ps lv => step_off (ns:=ns2) (g:=g2) (cl:=cl2) (ps:=ps) (lv:=lv) (x:=x) hb1 hb2)
      have k2':=lhi k2
      have q1':=lhi q1
      have q2':=lhi q2
      have q3':=lhi q3
      have q4':=lhi q4
      have ok2':=lhi ok2
      clear hb1 hb2 hnl h2 k2 q1 q2 q3 q4 ok2
      go_wp2_with (first
       | (go_at_call 39;refine (hF.out).mono ?_;rintro y w9 ⟨rfl,rfl⟩)
       | (go_at_call 43;refine (hC.out).mono ?_;rintro y w3 ⟨rfl,hb3⟩;replace hb3:=lhi hb3)
       | (go_at_call 47;refine (hC2.out _ hb3.out).mono ?_;rintro y w4 ⟨rfl,hb4⟩;replace hb4:=lhi (hb3.out.trans (hb4.mono hb3.out.size))))
      go_ret
      exact .inl ⟨x,v2,ns2,g2,i2,cl2,rfl,ok2'.out,hP.out _ hb4.out,k2'.out.trans (ChP.of_below hb4.out),q1'.out,q2'.out,q3'.out,fun ps lv hlv => (q4'.out ps lv hlv).snoc (hst.out ps lv)⟩
  · obtain rfl:=(Ending.returned.inj ea)
    clear ea
    have hF:=lhi (fine_any h2)
    rw [decide_eq_false he2] at hF
    have hfin:=lhi (show YNode true w B T A n c l v ns g i cl inG (.returned (.int .i64 (-1))) wr from .inr ⟨v2,ns2,g2,i2,cl2,e2,he2,rfl,h2,k2,q4⟩)
    clear h2 k2 q4 he2
    go_wp2_with (go_at_call 39;refine (hF.out).mono ?_;rintro y w9 ⟨rfl,rfl⟩)
    go_ret
    exact hfin.out
end
end Go.Proofs.YtonjnagcdnmcpaaGreatDoor
