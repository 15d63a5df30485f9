/- Contracts and plain facts: M36. -/
import Derived.Test.YtonjnagcdnmcpaaGreatDoorM48
set_option linter.unusedVariables false
set_option linter.unusedSimpArgs false
set_option maxRecDepth 100000
set_option maxHeartbeats 32000000
namespace Go.Proofs.YtonjnagcdnmcpaaGreatDoor
open Go.RowKit
def ENode (V : Nat → Nat) (pc : Bool) (w : World) (B T : Nat) (A : Option Addr) (n c : Nat) (l : List UInt8) (v : Value) (ns : List Nod) (g i : Nat) (cl : Nat → Bool) (inG : Bool) (e : Ending) (w' : World) : Prop :=
 (∃ x v' ns' g' i' cl',e = .returned (.int .i64 x) ∧ okP (ns'.length : Int) x = true ∧ Rdr w' B T A n c l v' ns' g' i' cl' 0 ∧ ChP w w' T v v' ∧ ns.length ≤ ns'.length ∧ ns'.length + 1 + V i' ≤ ns.length + V i ∧ g ≤ g' ∧ i < i' ∧
  ∀ ct ps bs lv,(ct = .B ∨ ct = .L) → lv.isEmpty = !inG → StepsE l ⟨ct,i,ns,g,cl,ps,bs,lv⟩ ⟨toC pc x,i',ns',g',cl',toP pc x ps,bs,lv⟩) ∨
 (∃ x v' ns' g' i' cl' q,q ≠ 0 ∧ e = .returned (.int .i64 x) ∧ Rdr w' B T A n c l v' ns' g' i' cl' q ∧ ChP w w' T v v' ∧ ∀ ct ps bs lv,(ct = .B ∨ ct = .L) → lv.isEmpty = !inG → EndsE l ⟨ct,i,ns,g,cl,ps,bs,lv⟩ (.bad i' q))
section
variable {V : Nat → Nat} {w w' : World} {B T : Nat} {A : Option Addr} {n c : Nat} {l : List UInt8} {v v' : Value} {ns ns' : List Nod} {g g' i i' : Nat} {cl cl' : Nat → Bool} {inG : Bool} {e : Ending}
theorem RPut.room {j : Nat} {nd : Nod} (h : RPut w B T A n c l v ns g j cl nd e w') (hl : ns.length < 1000) : ∃ v',e = .returned (.int .i64 (ns.length : Int)) ∧ Rdr w' B T A n c l v' (ns ++ [nd]) g j cl 0 ∧ ChP w w' T v v':=by
 rcases h with ⟨_,v',h1,h2,h3⟩ | ⟨h0,_⟩
 · exact ⟨v',h1,h2,h3⟩
 · exact absurd hl h0
theorem RPut.enode {j : Nat} {nd : Nod} (h : RPut w B T A n c l v ns g j cl nd e w') (hl : ns.length < 1000) (hp : PieAt l i inG) (ha : pieE l i = .nod j nd) (hj : i < j) (hV : Pot l V) : ENode V false w B T A n c l v ns g i cl inG e w':=by
 have hw:=hV.nod i j nd ha
 obtain ⟨v',h1,h2,h3⟩:=h.room hl
 refine .inl ⟨_,v',_,g,j,cl,h1,by rw [lla];exact okP_last _,h2,h3,by simp,by rw [lla,lls];omega,nlr _,hj,fun ct ps bs lv hct hlv => .one ?_⟩
 rw [stepE_pie hp hct hlv,ha];rfl
theorem RPut.eanc {nd : Nod} (h : RPut w B T A n c l v ns g (i + 1) cl nd e w') (hl : ns.length < 1000) (hp : PieAt l i inG) (ha : pieE l i = .anc nd) (hV : Pot l V) : ENode V true w B T A n c l v ns g i cl inG e w':=by
 have hw:=hV.anc i nd ha
 obtain ⟨v',h1,h2,h3⟩:=h.room hl
 refine .inl ⟨_,v',_,g,i + 1,cl,h1,by rw [lla];exact okP_last _,h2,h3,by simp,by rw [lla,lls];omega,nlr _,by omega,fun ct ps bs lv hct hlv => .one ?_⟩
 rw [stepE_pie hp hct hlv,ha];rfl
theorem RBad.enode {pc : Bool} {q : Nat} (h : RBad w B T A n c l v i q e w') (hp : PieAt l i inG) (hs : ∀ ct ps bs lv,stepPm ⟨ct,i,ns,g,cl,ps,bs,lv⟩ (pieE l i) = .bad i q) (hq : q ≠ 0) : ENode V pc w B T A n c l v ns g i cl inG e w':=by
 obtain ⟨x,v',ns',g',cl',h1,k,m⟩:=h
 refine .inr ⟨x,v',_,_,_,_,_,hq,h1,k,m,fun ct ps bs lv hct hlv => .bad ?_⟩
 rw [stepE_pie hp hct hlv,hs]
theorem RAm.enode {a : Am} (h : RAm w B T A n c l v ns g i cl a e w') (hl : ns.length < 1000) (hp : PieAt l i inG) (ha : pieE l i = ofAm a) (hb : ∀ q,a = .bad q → q ≠ 0) (hj : ∀ j nd,a = .nod j nd → i < j) (hV : Pot l V) : ENode V false w B T A n c l v ns g i cl inG e w':=by
 cases a with
 | bad q => exact RBad.enode h hp (fun ct ps bs lv => by rw [ha];rfl) (hb q rfl)
 | opn => exact h.elim
 | bak q =>
  simp only [RAm] at h
  split at h
  · rename_i hq
    obtain ⟨v',h1,h2,h3⟩:=h.room hl
    have hw:=hV.bak i q ha
    refine .inl ⟨_,v',_,g,i + 2,cl,h1,by rw [lla];exact okP_last _,h2,h3,by simp,by rw [lla,lls];omega,nlr _,by omega,fun ct ps bs lv hct hlv => .one ?_⟩
    rw [stepE_pie hp hct hlv,ha]
    simp only [ofAm,stepPm]
    rw [if_pos hq];rfl
  · rename_i hq
    exact RBad.enode h hp (fun ct ps bs lv => by rw [ha];simp only [ofAm,stepPm];rw [if_neg hq]) (by decide)
 | nod j nd => exact RPut.enode h hl hp ha (hj j nd rfl) hV
theorem ENode.ret {pc : Bool} (h : ENode V pc w B T A n c l v ns g i cl inG e w') : ∃ z,e = .returned (.int .i64 z) ∧ ENode V pc w B T A n c l v ns g i cl inG (.returned (.int .i64 z)) w':=by
 rcases h with ⟨x,v',ns',g',i',cl',rfl,h⟩ | ⟨x,v',ns',g',i',cl',q,hq,rfl,h⟩
 · exact ⟨_,rfl,.inl ⟨x,v',ns',g',i',cl',rfl,h⟩⟩
 · exact ⟨_,rfl,.inr ⟨x,v',ns',g',i',cl',q,hq,rfl,h⟩⟩
theorem ENode.from {pc : Bool} {w0 : World} {v0 : Value} (h : ENode V pc w B T A n c l v ns g i cl inG e w') (h0 : ChP w0 w T v0 v) : ENode V pc w0 B T A n c l v0 ns g i cl inG e w':=by
 rcases h with ⟨x,v',ns',g',i',cl',h1,h2,h3,h4,h5⟩ | ⟨x,v',ns',g',i',cl',q,h1,h2,h3,h4,h5⟩
 · exact .inl ⟨x,v',ns',g',i',cl',h1,h2,h3,h0.trans h4,h5⟩
 · exact .inr ⟨x,v',ns',g',i',cl',q,h1,h2,h3,h0.trans h4,h5⟩
theorem erep_next {wr : World} {v2 : Value} {ns2 : List Nod} {g2 i2 j : Nat} {cl2 : Nat → Bool} {nd : Nod} {x z : Int} (h2 : Rdr wr B T A n c l v2 ns2 g2 i2 cl2 0) (k2 : ChP wr w' T v2 v2 → True) (hk : ChP w wr T v v2) (q1 : ns.length ≤ ns2.length) (q0 : ns2.length + 1 + V i2 ≤ ns.length + V i) (q2 : g ≤ g2) (q3 : i < i2) (hl : ns2.length < 1000)
    (q4 : ∀ ct ps bs lv,(ct = .B ∨ ct = .L) → lv.isEmpty = !inG → StepsE l ⟨ct,i,ns,g,cl,ps,bs,lv⟩ ⟨toC false x,i2,ns2,g2,cl2,toP false x ps,bs,lv⟩) (hj : i2 < j) (hw : V j + 2 ≤ V i2)
    (hs : ∀ (ps bs : List Int) (lv : List (Nat × List Int × List Int)),stepE l ⟨.P x,i2,ns2,g2,cl2,ps,bs,lv⟩ = .go ⟨.P (ns2.length : Int),j,ns2 ++ [nd],g2,cl2,ps,bs,lv⟩)
    (hy : RPut wr B T A n c l v2 ns2 g2 j cl2 nd (.returned (.int .i64 z)) w') : ENode V false w B T A n c l v ns g i cl inG (.returned (.int .i64 z)) w' ∧ leftR n T w' < leftR n T wr:=by
 have hle:=h2.le
 obtain ⟨v',ez,h3,k3⟩:=hy.room hl
 refine ⟨.inl ⟨_,v',_,g2,j,cl2,ez,by rw [lla];exact okP_last _,h3,hk.trans k3,by rw [lla];omega,by rw [lla,lls];omega,q2,by omega,fun ct ps bs lv hct hlv => (q4 ct ps bs lv hct hlv).snoc (hs ps bs lv)⟩,?_⟩
 have:=h3.le
 rw [h3.left,h2.left];omega
end
def EAlt (V : Nat → Nat) (w : World) (B T : Nat) (A : Option Addr) (n c : Nat) (l : List UInt8) (v : Value) (ns : List Nod) (g i : Nat) (cl : Nat → Bool) (inG : Bool) (e : Ending) (w' : World) : Prop :=
 (∃ x v' ns' g' i' cl' ns1 ps1 bs1,e = .returned (.int .i64 x) ∧ okP (ns'.length : Int) x = true ∧ Rdr w' B T A n c l v' ns' g' i' cl' 0 ∧ ChP w w' T v v' ∧ ns.length ≤ ns'.length ∧ ns'.length + V i' ≤ ns.length + V i ∧ g ≤ g' ∧ i ≤ i' ∧
  (if inG then nx l i' = 41 else i' = n) ∧ ∀ lv,lv.isEmpty = !inG → altsE ⟨.L,i',ns1,g',cl',ps1,bs1,lv⟩ = (x,ns') ∧ StepsE l ⟨.B,i,ns,g,cl,[],[],lv⟩ ⟨.L,i',ns1,g',cl',ps1,bs1,lv⟩) ∨
 (∃ x v' ns' g' i' cl' q,q ≠ 0 ∧ e = .returned (.int .i64 x) ∧ Rdr w' B T A n c l v' ns' g' i' cl' q ∧ ChP w w' T v v' ∧ ∀ lv,lv.isEmpty = !inG → EndsE l ⟨.B,i,ns,g,cl,[],[],lv⟩ (.bad i' q))
def EAltOK (k : Nat) : Prop:=∀ (V : Nat → Nat) (inG : Bool) (w : World) (B T : Nat) (A : Option Addr) (n c : Nat) (l : List UInt8) (v : Value) (ns : List Nod) (g i : Nat) (cl : Nat → Bool),Rdr w B T A n c l v ns g i cl 0 → Pot l V → ns.length + V i < 1000 → n - i = k →
 Calls Tryz.prog 32 #[.pointer (some ⟨T,0,none⟩),.bool inG] w (EAlt V w B T A n c l v ns g i cl inG)
section
variable {V : Nat → Nat} {w : World} {B T : Nat} {A : Option Addr} {n c : Nat} {l : List UInt8} {v : Value} {ns : List Nod} {g i : Nat} {cl : Nat → Bool} (h : Rdr w B T A n c l v ns g i cl 0) {inG : Bool} (hx : nx l i = 40)
include h hx
theorem egroup_full (hg : g = 9) : Calls Tryz.prog 74 #[.pointer (some ⟨T,0,none⟩),.int .i64 1,.bool false] w (ENode V false w B T A n c l v ns g i cl inG):=by
 have hil:=nx_lt (l:=l) (i:=i) (by omega)
 have c4:=h.c4
 have c2:=h.c2
 have t2:=h.thawed 2
 have hg9 : (9 : Int) ≤ (g : Int):=by omega
 have hfin:=lhi (fun (w' : World) (x : Ending) (y : RBad w B T A n c l v i 17 x w') => y.enode (V:=V) (pc:=false) (inG:=inG) (ns:=ns) (g:=g) (cl:=cl) ⟨hil,by omega,fun _ => by omega⟩ (fun ct ps bs lv => by rw [pie_opn hx];simp [stepPm,hg]) (by decide))
 have h2:=lhi (h.erred 17 (z:=17) rfl)
 have k2:=lhi (ChP.store w T 2 (.int .i64 17) v)
 clear h hx hil
 replace hg:=lhi hg
 go_enter Tryz.func74,Tryz.ntmps74
 go_wp2
 go_ret
 exact hfin.out _ _ ⟨0,v,_,_,_,rfl,h2.out,k2.out⟩
theorem egroup_any (hV : Pot l V) (hrm : ns.length + V i < 1000) (hB : ∀ k,k < n - i → EAltOK k) : Calls Tryz.prog 74 #[.pointer (some ⟨T,0,none⟩),.int .i64 1,.bool false] w (ENode V false w B T A n c l v ns g i cl inG):=by
 by_cases hg : g = 9
 · exact egroup_full h hx hg
 have hg9 : g < 9:=by have:=h.grp;omega
 have hil:=nx_lt (l:=l) (i:=i) (by omega)
 have hnl:=h.hn
 have hns : n ≤ 1000000:=h.txt.2.2.2.1
 have hi1 : i + 1 ≤ n:=by omega
 have hi0 : (i : Int) ≤ 1000000:=by omega
 have hw1:=hV.one i (.inr (.inr (.inr (.inl hx))))
 replace hV:=lhi hV
 have c4:=h.c4
 have t4:=h.thawed 4
 have hm:=h.opened hg9 (z:=(g : Int) + 1) rfl
 have c1:=hm.c1
 have t1:=hm.thawed 1
 have h1:=lhi (hm.goto hi1 (z:=(i : Int) + 1) (by omega))
 have k1:=lhi ((ChP.store w T 4 (.int .i64 ((g : Int) + 1)) v).trans (ChP.store _ T 1 (.int .i64 ((i : Int) + 1)) v))
 have hst:=lhi (fun (ct : Ct) (ps bs : List Int) (lv : List (Nat × List Int × List Int)) (hct : ct = .B ∨ ct = .L) (hlv : lv.isEmpty = !inG) => show stepE l ⟨ct,i,ns,g,cl,ps,bs,lv⟩ = .go ⟨.B,i + 1,ns,g + 1,cl,[],[],(g + 1,ps,bs) :: lv⟩ from by
  rw [stepE_pie (inG:=inG) ⟨hil,by omega,fun _ => by omega⟩ hct hlv,pie_opn hx]
  simp only [stepPm]
  rw [if_pos hg9])
 have hBr:=lhi (fun (w2 : World) (h2 : Rdr w2 B T A n c l v ns (g + 1) (i + 1) cl 0) => hB (n - (i + 1)) (by omega) V true w2 B T A n c l v ns (g + 1) (i + 1) cl h2 hV.out (by omega) rfl)
 have hg0 : (g : Int) + 1 ≤ 9:=by omega
 have hg1 : ¬ (9 : Int) ≤ (g : Int):=by omega
 clear h hx hg hB hm
 go_enter Tryz.func74,Tryz.ntmps74
 go_wp2_with (first
  | (go_at_call 32;refine (hBr.out _ h1.out).mono ?_;intro x w2 hy;rcases hy with ⟨x,v2,ns2,g2,i2,cl2,ns1,ps2,bs2,rfl,ok2,h2,k2,q1,q0,q2,q3,q5,q6⟩ | ⟨x,v2,ns2,g2,i2,cl2,e2,he2,rfl,h2,k2,q6⟩
     all_goals first
      | (rw [if_pos rfl] at q5
         have c2:=h2.c2
         have c1b:=h2.c1
         have t1b:=h2.thawed 1
         have hil2:=nx_lt (l:=l) (i:=i2) (by omega)
         have hi4 : i2 + 1 ≤ n:=by omega
         have hi5 : (i2 : Int) ≤ 1000000:=by omega
         have h3:=h2.goto hi4 (z:=(i2 : Int) + 1) (by omega)
         have t5:=h3.thawed (5 + (g + 1))
         have c5:=h3.cQ (g + 1) (by omega)
         have h4:=lhi (h3.ended (q:=g + 1) (by omega) q2)
         have k4:=lhi (((k1.out.trans k2).trans (ChP.store _ T 1 (.int .i64 ((i2 : Int) + 1)) v2)).trans (ChP.store _ T (5 + (g + 1)) (.bool true) v2))
         have hf:=lhi (fits_group (q:=(g : Int) + 1) (g:=(g2 : Int)) ok2 (by omega) (by omega))
         have hU:=lhi (rput_any h4.out (groupN ((g : Int) + 1) x) hf.out)
         rw [show nodV (groupN ((g : Int) + 1) x) = _ from nodV_z 5 x 0 0 0 ((g : Int) + 1)] at hU
         replace q1:=lhi q1
         replace q0:=lhi q0
         replace q2:=lhi q2
         replace q3:=lhi q3
         replace q5:=lhi q5
         replace q6:=lhi q6
         replace ok2:=lhi ok2
         replace hil2:=lhi hil2
         clear h2 k2 h3 k1)
      | (have c2:=h2.c2
         have he : ((e2 : Int) != 0) = true:=by rw [bne_iff_ne];omega
         replace h2:=lhi h2
         replace k2:=lhi (k1.out.trans k2)
         replace q6:=lhi q6
         replace he2:=lhi he2
         clear k1)))
 · go_wp2_with (go_at_call 30;refine (hU.out).mono ?_;intro y w5 hy;obtain ⟨z,rfl,hy⟩:=hy.ret;replace hy:=lhi hy)
   go_ret
   have hq0:=q0.out
   have hq1:=q1.out
   have hq2:=q2.out
   have hq3:=q3.out
   have hw2:=hV.out.one i2 (.inr (.inr (.inr (.inr (.inl q5.out)))))
   obtain ⟨v5,ez,h5,k5⟩:=hy.out.room (by omega)
   refine .inl ⟨_,v5,_,g2,i2 + 1,_,ez,by rw [lla];exact okP_last _,h5,k4.out.trans k5,by rw [lla];omega,by rw [lla,lls];omega,by omega,by omega,fun ct ps bs lv hct hlv => ?_⟩
   obtain ⟨ha,hs⟩:=q6.out ((g + 1,ps,bs) :: lv) rfl
   refine (StepsE.one (hst.out ct ps bs lv hct hlv)).trans (hs.snoc ?_)
   show stepEL l _ = _
   have hq5:=q5.out
   have hil2:=hil2.out
   simp only [stepEL]
   rw [if_neg (by omega),if_neg (by omega)]
   rw [if_pos hq5,ha];rfl
 · go_ret
   exact .inr ⟨_,v2,ns2,g2,i2,cl2,e2,he2.out,rfl,h2.out,k2.out,fun ct ps bs lv hct hlv => (StepsE.one (hst.out ct ps bs lv hct hlv)).ends (q6.out _ rfl)⟩
end
theorem nodV_allE : nodV (setN allS) = .agg #[.int .i64 1,.int .i64 0,.int .i64 0,.int .i64 0,.int .i64 0,.int .i64 0,.int .u64 18446744073709551615,.int .u64 18446744073709551615,.int .u64 18446744073709551615,.int .u64 18446744073709551615]:=by
 have h:=setC_all
 rw [setC_lit] at h
 rw [show nodV (setN allS) = _ from nodV_lit 1 0 0 0 0 0 allS]
 simp only [Array.mk.injEq,List.cons.injEq,and_true] at h
 obtain ⟨h0,h1,h2,h3⟩:=h
 rw [h0,h1,h2,h3]
section
variable {V : Nat → Nat} {w : World} {B T : Nat} {A : Option Addr} {n c : Nat} {l : List UInt8} {v : Value} {ns : List Nod} {g i : Nat} {cl : Nat → Bool} (h : Rdr w B T A n c l v ns g i cl 0) {inG : Bool}
include h
theorem ebracket_any (hp : PieAt l i inG) (hl : ns.length < 1000) (hV : Pot l V) {r : List UInt8} (hx : l.drop i = 91 :: r) :
    Calls Tryz.prog 76 #[.pointer (some ⟨T,0,none⟩)] w (ENode V false w B T A n c l v ns g i cl inG):=by
 have hnl:=h.hn
 have hin : i < n:=by have:=hp.lt;omega
 have ha:=pie_brk hx
 cases hv : readB l (i + 1) with
 | error e =>
  have he:=readB_wrong hv
  exact (rbracket_no h hin hv).mono fun _ _ y => y.enode hp (fun ct ps bs lv => by rw [ha];unfold brkA;rw [hv];rfl) (by omega)
 | ok p =>
  obtain ⟨f,j⟩:=p
  have hj:=readB_size (by omega) hv
  exact (rbracket_yes h hin hv).mono fun _ _ y => y.enode hl hp (by rw [ha];unfold brkA;rw [hv];rfl) (by omega) hV
theorem eescape_any (hp : PieAt l i inG) (hl : ns.length < 1000) (hV : Pot l V) {r : List UInt8} (hx : l.drop i = 92 :: r) :
    Calls Tryz.prog 75 #[.pointer (some ⟨T,0,none⟩)] w (ENode V false w B T A n c l v ns g i cl inG):=by
 have ha:=pie_esc hx
 refine (rescape_am h hx).mono fun e w' hy => RAm.enode hy hl hp ha (fun q hs => ?_) (fun j nd hs => ?_) hV
 · cases r with
   | nil => simp only [escE] at hs;injection hs with hs;omega
   | cons x r =>
    simp only [escE] at hs
    repeat' split at hs
    all_goals first
     | cases hs;done
     | (injection hs with hs;omega)
 · cases r with
   | nil => cases hs
   | cons x r =>
    simp only [escE] at hs
    repeat' split at hs
    all_goals first
     | cases hs;done
     | (injection hs with hs _;omega)
theorem eext_rep {first : Bool} (hp : PieAt l i inG) {x : UInt8} {r : List UInt8} (hx : l.drop i = x :: r) (hr : repB x) :
    Calls Tryz.prog 52 #[.pointer (some ⟨T,0,none⟩),.bool first] w (ENode V true w B T A n c l v ns g i cl inG):=by
 have hP:=lhi (fun w3 (hb : Below w.heap.size w w3) => h.keep hb)
 have hN0:=lhi (next_at h 0 0 rfl (by decide))
 rw [show nx l (i + 0) = (x.toNat : Int) from by rw [nx_drop,hx];rfl] at hN0
 have hfin:=lhi (fun (w' : World) (z : Ending) (y : RBad w B T A n c l v i 13 z w') => y.enode (V:=V) (pc:=true) (inG:=inG) (ns:=ns) (g:=g) (cl:=cl) hp (fun ct ps bs lv => by rw [pie_rep hx hr];rfl) (by decide))
 clear h hx hp
 unfold repB at hr
 rcases hr with rfl | rfl | rfl | rfl
 all_goals
  go_enter Tryz.func52,Tryz.ntmps52
  go_wp2_with (go_at_call 51;refine (hN0.out).mono ?_;rintro e w1 ⟨rfl,hb1⟩;have h2:=hP.out _ hb1;have c2:=h2.c2;have t2:=h2.thawed 2;have h3:=lhi (h2.erred 13 (z:=13) rfl);have k3:=lhi ((ChP.of_below (T:=T) (v:=v) hb1).trans (ChP.store w1 T 2 (.int .i64 13) v));clear h2)
  go_ret
  exact hfin.out _ _ ⟨0,v,_,_,_,rfl,h3.out,k3.out⟩
theorem eext_par {first : Bool} (hp : PieAt l i inG) {r : List UInt8} (hx : l.drop i = 41 :: r) :
    Calls Tryz.prog 52 #[.pointer (some ⟨T,0,none⟩),.bool first] w (ENode V true w B T A n c l v ns g i cl inG):=by
 have hP:=lhi (fun w3 (hb : Below w.heap.size w w3) => h.keep hb)
 have hN0:=lhi (next_at h 0 0 rfl (by decide))
 rw [show nx l (i + 0) = 41 from by rw [nx_drop,hx];rfl] at hN0
 have hfin:=lhi (fun (w' : World) (z : Ending) (y : RBad w B T A n c l v i 14 z w') => y.enode (V:=V) (pc:=true) (inG:=inG) (ns:=ns) (g:=g) (cl:=cl) hp (fun ct ps bs lv => by rw [pie_par hx];rfl) (by decide))
 clear h hx hp
 go_enter Tryz.func52,Tryz.ntmps52
 go_wp2_with (go_at_call 51;refine (hN0.out).mono ?_;rintro e w1 ⟨rfl,hb1⟩;have h2:=hP.out _ hb1;have c2:=h2.c2;have t2:=h2.thawed 2;have h3:=lhi (h2.erred 14 (z:=14) rfl);have k3:=lhi ((ChP.of_below (T:=T) (v:=v) hb1).trans (ChP.store w1 T 2 (.int .i64 14) v));clear h2)
 go_ret
 exact hfin.out _ _ ⟨0,v,_,_,_,rfl,h3.out,k3.out⟩
theorem eext_bol {first : Bool} (hp : PieAt l i inG) (hl : ns.length < 1000) (hV : Pot l V) {r : List UInt8} (hx : l.drop i = 94 :: r) :
    Calls Tryz.prog 52 #[.pointer (some ⟨T,0,none⟩),.bool first] w (ENode V true w B T A n c l v ns g i cl inG):=by
 obtain ⟨hi,-,-⟩:=drop_at hx
 have hns : n ≤ 1000000:=h.txt.2.2.2.1
 have hi1 : i + 1 ≤ n:=by have:=h.hn;omega
 have hi0 : (i : Int) ≤ 1000000:=by omega
 have hP:=lhi (fun w3 (hb : Below w.heap.size w w3) => h.keep hb)
 have hN0:=lhi (next_at h 0 0 rfl (by decide))
 rw [show nx l (i + 0) = 94 from by rw [nx_drop,hx];rfl] at hN0
 have hU:=lhi (fun w1 (h1 : Rdr w1 B T A n c l v ns g (i + 1) cl 0) => rput_any h1 bolN (fits_plain 7 (.inr (.inl rfl)) _ _))
 rw [show nodV bolN = _ from nodV_z 7 0 0 0 0 0] at hU
 have hfin:=lhi (fun (w' : World) (z : Ending) (y : RPut w B T A n c l v ns g (i + 1) cl bolN z w') => y.eanc (V:=V) (inG:=inG) hl hp (pie_bol hx) hV)
 clear h hx hp hi
 go_enter Tryz.func52,Tryz.ntmps52
 go_wp2_with (first
  | (go_at_call 51;refine (hN0.out).mono ?_;rintro e w1 ⟨rfl,hb1⟩;have h1:=hP.out _ hb1;have c1:=h1.c1;have t1:=h1.thawed 1;have hT1:=h1.lt;have hTG : T ≠ w1.heap.size:=Nat.ne_of_lt hT1;have hTG' : ¬ w1.heap.size = T:=fun e => hTG e.symm;have h2:=lhi (h1.goto hi1 (z:=(i : Int) + 1) (by omega));have k2:=lhi ((ChP.of_below (T:=T) (v:=v) hb1).trans (ChP.store w1 T 1 (.int .i64 ((i : Int) + 1)) v));clear h1)
  | (go_at_call 30;refine (hU.out _ (h2.out.keep ((Below.refl _ _).alloc (nlr _) _))).mono ?_;intro y w8 hy;obtain ⟨z,rfl,hy⟩:=hy.ret;replace hy:=lhi (hfin.out _ _ (hy.from (k2.out.trans (ChP.of_below ((Below.refl _ _).alloc (nlr _) _)))))))
 go_ret
 exact hy.out
theorem eext_eol {first : Bool} (hp : PieAt l i inG) (hl : ns.length < 1000) (hV : Pot l V) {r : List UInt8} (hx : l.drop i = 36 :: r) :
    Calls Tryz.prog 52 #[.pointer (some ⟨T,0,none⟩),.bool first] w (ENode V true w B T A n c l v ns g i cl inG):=by
 obtain ⟨hi,-,-⟩:=drop_at hx
 have hns : n ≤ 1000000:=h.txt.2.2.2.1
 have hi1 : i + 1 ≤ n:=by have:=h.hn;omega
 have hi0 : (i : Int) ≤ 1000000:=by omega
 have hP:=lhi (fun w3 (hb : Below w.heap.size w w3) => h.keep hb)
 have hN0:=lhi (next_at h 0 0 rfl (by decide))
 rw [show nx l (i + 0) = 36 from by rw [nx_drop,hx];rfl] at hN0
 have hU:=lhi (fun w1 (h1 : Rdr w1 B T A n c l v ns g (i + 1) cl 0) => rput_any h1 eolN (fits_plain 8 (.inr (.inr rfl)) _ _))
 rw [show nodV eolN = _ from nodV_z 8 0 0 0 0 0] at hU
 have hfin:=lhi (fun (w' : World) (z : Ending) (y : RPut w B T A n c l v ns g (i + 1) cl eolN z w') => y.eanc (V:=V) (inG:=inG) hl hp (pie_eol hx) hV)
 clear h hx hp hi
 go_enter Tryz.func52,Tryz.ntmps52
 go_wp2_with (first
  | (go_at_call 51;refine (hN0.out).mono ?_;rintro e w1 ⟨rfl,hb1⟩;have h1:=hP.out _ hb1;have c1:=h1.c1;have t1:=h1.thawed 1;have hT1:=h1.lt;have hTG : T ≠ w1.heap.size:=Nat.ne_of_lt hT1;have hTG' : ¬ w1.heap.size = T:=fun e => hTG e.symm;have h2:=lhi (h1.goto hi1 (z:=(i : Int) + 1) (by omega));have k2:=lhi ((ChP.of_below (T:=T) (v:=v) hb1).trans (ChP.store w1 T 1 (.int .i64 ((i : Int) + 1)) v));clear h1)
  | (go_at_call 30;refine (hU.out _ (h2.out.keep ((Below.refl _ _).alloc (nlr _) _))).mono ?_;intro y w8 hy;obtain ⟨z,rfl,hy⟩:=hy.ret;replace hy:=lhi (hfin.out _ _ (hy.from (k2.out.trans (ChP.of_below ((Below.refl _ _).alloc (nlr _) _)))))))
 go_ret
 exact hy.out
end
theorem nx_hd {l : List UInt8} {i : Nat} {x : UInt8} {r : List UInt8} (hx : l.drop i = x :: r) : nx l i = (x.toNat : Int):=by
 have:=nx_drop l i 0
 rw [Nat.add_zero] at this
 rw [this,hx];rfl
def EKind (l : List UInt8) (i : Nat) (x : UInt8) (d : Int) : Prop :=
 (d = 40 ∧ nx l i = 40) ∨ (d = 92 ∧ x = 92) ∨ (d = 91 ∧ x = 91) ∨ (d = 46 ∧ pieE l i = .nod (i + 1) (setN allS)) ∨
 ((d == 40) = false ∧ (d == 92) = false ∧ (d == 91) = false ∧ (d == 46) = false ∧ pieE l i = .nod (i + 1) (setN (oneF x)))
theorem ekind_of {l : List UInt8} {i : Nat} {x : UInt8} {r : List UInt8} (hx : l.drop i = x :: r) (h0 : ¬ repB x) (h1 : x ≠ 41) (h2 : x ≠ 94) (h3 : x ≠ 36) : EKind l i x (x.toNat : Int):=by
 unfold EKind
 by_cases h4 : x = 40
 · subst h4;exact .inl ⟨rfl,nx_hd hx⟩
 by_cases h5 : x = 92
 · subst h5;exact .inr (.inl ⟨rfl,rfl⟩)
 by_cases h6 : x = 91
 · subst h6;exact .inr (.inr (.inl ⟨rfl,rfl⟩))
 by_cases h7 : x = 46
 · subst h7;exact .inr (.inr (.inr (.inl ⟨rfl,pie_dot hx⟩)))
 exact .inr (.inr (.inr (.inr ⟨u8_ne h4,u8_ne h5,u8_ne h6,u8_ne h7,pie_one hx h0 h1 h2 h3 h4 h5 h6 h7⟩)))
structure NoEx (d : Int) : Prop where
 e1 : (d == 42) = false
 e2 : (d == 43) = false
 e3 : (d == 63) = false
 e4 : (d == 123) = false
 e5 : (d == 41) = false
 e6 : (d == 94) = false
 e7 : (d == 36) = false
theorem noex_of {x : UInt8} (h0 : ¬ repB x) (h1 : x ≠ 41) (h2 : x ≠ 94) (h3 : x ≠ 36) : NoEx (x.toNat : Int):=by
 have h8 : ¬ (x = 42 ∨ x = 43 ∨ x = 63 ∨ x = 123):=h0
 exact ⟨u8_ne fun e => h8 (.inl e),u8_ne fun e => h8 (.inr (.inl e)),u8_ne fun e => h8 (.inr (.inr (.inl e))),u8_ne fun e => h8 (.inr (.inr (.inr e))),u8_ne h1,u8_ne h2,u8_ne h3⟩
section
variable {V : Nat → Nat} {w : World} {B T : Nat} {A : Option Addr} {n c : Nat} {l : List UInt8} {v : Value} {ns : List Nod} {g i : Nat} {cl : Nat → Bool} (h : Rdr w B T A n c l v ns g i cl 0) {inG : Bool}
include h
theorem eext_body {first : Bool} (hp : PieAt l i inG) (hV : Pot l V) (hrm : ns.length + V i < 1000) (hB : ∀ k,k < n - i → EAltOK k) {x : UInt8} {r : List UInt8} (hx : l.drop i = x :: r) (x0 : ¬ repB x) (x1 : x ≠ 41) (x2 : x ≠ 94) (x3 : x ≠ 36) :
    Calls Tryz.prog 52 #[.pointer (some ⟨T,0,none⟩),.bool first] w (ENode V true w B T A n c l v ns g i cl inG):=by
 obtain ⟨hi,hx1,-⟩:=drop_at hx
 have hnl:=h.hn
 have hns : n ≤ 1000000:=h.txt.2.2.2.1
 have hi1 : i + 1 ≤ n:=by omega
 have hi0 : (i : Int) ≤ 1000000:=by omega
 have hl : ns.length < 1000:=by omega
 have hN0:=lhi (next_at h 0 0 rfl (by decide))
 rw [show nx l (i + 0) = (x.toNat : Int) from nx_some hx1] at hN0
 have hR:=lhi (fun w3 (hb : Below w.heap.size w w3) => h.keep hb)
 have hxl : x.toNat < 256:=UInt8.toNat_lt x
 have hw8 : IntKind.u8.wrap (x.toNat : Int) = (x.toNat : Int):=IntWalk.u8_in _ (by omega)
 have hO:=lhi (fun w => refOne_any x w)
 have hAny:=lhi refAny_any
 rw [setC_all] at hAny
 have hGr:=lhi (fun (e : nx l i = 40) w3 (hb : Below w.heap.size w w3) => egroup_any (inG:=inG) (h.keep hb) e hV hrm hB)
 have hEs:=lhi (fun (e : x = 92) w3 (hb : Below w.heap.size w w3) => eescape_any (inG:=inG) (h.keep hb) hp hl hV (r:=r) (by rw [hx,e]))
 have hBk:=lhi (fun (e : x = 91) w3 (hb : Below w.heap.size w w3) => ebracket_any (inG:=inG) (h.keep hb) hp hl hV (r:=r) (by rw [hx,e]))
 have hU:=lhi (fun w1 (h1 : Rdr w1 B T A n c l v ns g (i + 1) cl 0) => rput_any h1 (setN (oneF x)) (fits_set _ _ _))
 have hUa:=lhi (fun w1 (h1 : Rdr w1 B T A n c l v ns g (i + 1) cl 0) => rput_any h1 (setN allS) (fits_set _ _ _))
 have hfin:=lhi (fun (nd : Nod) (ha : pieE l i = .nod (i + 1) nd) (w' : World) (z : Ending) (y : RPut w B T A n c l v ns g (i + 1) cl nd z w') => y.enode (V:=V) (inG:=inG) hl hp ha (by omega) hV)
 obtain ⟨s0,s1,s2,s3,es,en⟩:=set_lit (oneF x)
 rw [es] at hO
 rw [en] at hU
 rw [nodV_allE] at hUa
 have hk:=lhi (ekind_of hx x0 x1 x2 x3)
 obtain ⟨y1,y2,y3,y4,y5,y6,y7⟩:=noex_of x0 x1 x2 x3
 clear h hx hx1 hi es en hxl hB x0 x1 x2 x3 hl hp hnl
 replace hV:=lhi hV
 generalize (x.toNat : Int) = d at *
 go_enter Tryz.func52,Tryz.ntmps52
 go_upto_if 61 with (go_at_call 51;refine (hN0.out).mono ?_;rintro e w1 ⟨rfl,hb1⟩;replace hb1:=lhi hb1)
 clear hN0 y1 y2 y3 y4 y5 y6 y7
 go_cut [6,8] from 61 to 90 (fun s6 s8 wx => ENode V false w B T A n c l v ns g i cl inG (.returned s6) wx)
 case first =>
  rcases hk.out with ⟨rfl,ha⟩ | ⟨rfl,ha⟩ | ⟨rfl,ha⟩ | ⟨rfl,ha⟩ | ⟨y1,y2,y3,y4,ha⟩
  · replace hGr:=lhi (hGr.out ha _ hb1.out)
    go_wp2_with (go_at_call 74;refine (hGr.out).mono ?_;intro x w4 hy;obtain ⟨z,rfl,hy⟩:=hy.ret;replace hy:=lhi (hy.from (ChP.of_below hb1.out)))
    go_meet
    exact hy.out
  · replace hEs:=lhi (hEs.out ha _ hb1.out)
    go_wp2_with (go_at_call 75;refine (hEs.out).mono ?_;intro x w4 hy;obtain ⟨z,rfl,hy⟩:=hy.ret;replace hy:=lhi (hy.from (ChP.of_below hb1.out)))
    go_meet
    exact hy.out
  · replace hBk:=lhi (hBk.out ha _ hb1.out)
    go_wp2_with (go_at_call 76;refine (hBk.out).mono ?_;intro x w4 hy;obtain ⟨z,rfl,hy⟩:=hy.ret;replace hy:=lhi (hy.from (ChP.of_below hb1.out)))
    go_meet
    exact hy.out
  · replace hfin:=lhi (hfin.out _ ha)
    clear ha hU hBk hEs hGr
    go_wp2_with (first
     | (go_at_call 14;refine (hO.out _).mono ?_;rintro e w3 ⟨rfl,hb3⟩;replace hb3:=hb1.out.trans (hb3.mono hb1.out.size);have h3:=hR.out _ hb3;have c1:=h3.c1;have t1:=h3.thawed 1;have hT3:=h3.lt;have hTG : T ≠ w3.heap.size:=Nat.ne_of_lt hT3;have hTG' : ¬ w3.heap.size = T:=fun e => hTG e.symm;have hG3:=lhi hb3.size;have hG:=lhi (held_new w3 43 #[.int .i64 1,.int .i64 0,.int .i64 0,.int .i64 0,.int .i64 0,.int .i64 0,.int .u64 (s0 : Int),.int .u64 (s1 : Int),.int .u64 (s2 : Int),.int .u64 (s3 : Int)]);have hbG:=lhi (hb3.alloc hb3.size (.cells #[.int .i64 1,.int .i64 0,.int .i64 0,.int .i64 0,.int .i64 0,.int .i64 0,.int .u64 (s0 : Int),.int .u64 (s1 : Int),.int .u64 (s2 : Int),.int .u64 (s3 : Int)] 43));have hbw3:=lhi hb3;clear h3 hb3)
     | (go_at_call 77;refine (hAny.out _).mono ?_;rintro e w5 ⟨rfl,hb5⟩;have hG5:=hG.out.keep hb5;replace hbG:=lhi (hbG.out.trans (hb5.mono hbG.out.size));have c1b:=(hR.out _ hbG.out).c1;have t1b:=(hR.out _ hbG.out).thawed 1;have ⟨n0,n1,n2,n3,n4,n5,n6,n7,n8,n9⟩:=hG5.cells10;have f0:=hG5.thawed 0;have f1:=hG5.thawed 1;have f2:=hG5.thawed 2;have f3:=hG5.thawed 3;have f4:=hG5.thawed 4;have f5:=hG5.thawed 5;have f6:=hG5.thawed 6;have f7:=hG5.thawed 7;have f8:=hG5.thawed 8;have f9:=hG5.thawed 9;replace hG:=lhi hG5;clear hG5 hb5;have hb6:=lhi ((((hbG.out.setCell (p:=⟨w3.heap.size,6,none⟩) hG3.out (.int .u64 18446744073709551615)).setCell (p:=⟨w3.heap.size,7,none⟩) hG3.out (.int .u64 18446744073709551615)).setCell (p:=⟨w3.heap.size,8,none⟩) hG3.out (.int .u64 18446744073709551615)).setCell (p:=⟨w3.heap.size,9,none⟩) hG3.out (.int .u64 18446744073709551615)))
     | (go_at_call 30;refine (hUa.out _ ((hR.out _ hb6.out).goto hi1 (z:=(i : Int) + 1) (by omega))).mono ?_;intro y w8 hy;obtain ⟨z,rfl,hy⟩:=hy.ret;replace hy:=lhi (hfin.out _ _ (hy.from ((ChP.of_below hb6.out).trans (ChP.store _ T 1 (.int .i64 ((i : Int) + 1)) v))))))
    go_meet
    exact hy.out
  · replace hfin:=lhi (hfin.out _ ha)
    clear ha hUa hBk hEs hGr hAny
    go_wp2_with (first
     | (go_at_call 14;refine (hO.out _).mono ?_;rintro e w3 ⟨rfl,hb3⟩;replace hb3:=hb1.out.trans (hb3.mono hb1.out.size);have h3:=hR.out _ hb3;have c1:=h3.c1;have t1:=h3.thawed 1;have hT3:=h3.lt;have hTG : T ≠ w3.heap.size:=Nat.ne_of_lt hT3;have hTG' : ¬ w3.heap.size = T:=fun e => hTG e.symm;have hG3:=lhi hb3.size;have hG:=lhi (held_new w3 43 #[.int .i64 1,.int .i64 0,.int .i64 0,.int .i64 0,.int .i64 0,.int .i64 0,.int .u64 (s0 : Int),.int .u64 (s1 : Int),.int .u64 (s2 : Int),.int .u64 (s3 : Int)]);have hbG:=lhi (hb3.alloc hb3.size (.cells #[.int .i64 1,.int .i64 0,.int .i64 0,.int .i64 0,.int .i64 0,.int .i64 0,.int .u64 (s0 : Int),.int .u64 (s1 : Int),.int .u64 (s2 : Int),.int .u64 (s3 : Int)] 43));have hbw3:=lhi hb3;clear h3 hb3)
     | (go_at_call 30;refine (hU.out _ (((hR.out _ hbw3.out).goto hi1 (z:=(i : Int) + 1) (by omega)).keep ((Below.refl _ _).alloc (nlr _) _))).mono ?_;intro y w8 hy;obtain ⟨z,rfl,hy⟩:=hy.ret;replace hy:=lhi (hfin.out _ _ (hy.from (((ChP.of_below hbw3.out).trans (ChP.store w3 T 1 (.int .i64 ((i : Int) + 1)) v)).trans (ChP.of_below ((Below.refl _ _).alloc (nlr _) _)))))))
    go_meet
    exact hy.out
 case rest =>
  clear hk hfin hU hUa hO hAny hBk hEs hGr hR hw8
  replace hcut:=lhi hcut
  go_wp2
  go_loopw [6,9,5,10,11,12,13,14] (fun a _ _ _ _ _ _ _ wr => ENode V false w B T A n c l v ns g i cl inG (.returned a) wr) (fun _ _ _ _ _ _ _ _ wr => leftR n T wr)
  case atStart => exact hcut.out
  case round =>
   clear hcut
   rcases hrel with ⟨x,v2,ns2,g2,i2,cl2,ea,ok2,h2,k2,q1,q0,q2,q3,q4⟩ | ⟨x,v2,ns2,g2,i2,cl2,e2,he2,ea,h2,k2,q4⟩
   · obtain rfl:=(Ending.returned.inj ea)
     clear ea
     have c2:=h2.c2
     have hle:=h2.le
     have hi2 : (i2 : Int) ≤ 1000000:=by omega
     have hnl:=h2.hn
     have hl2 : ns2.length < 1000:=by omega
     have hP:=lhi (fun w3 (hb : Below wr.heap.size wr w3) => h2.keep hb)
     have hN0:=lhi (fun w3 (hb : Below wr.heap.size wr w3) => next_at (h2.keep hb) 0 0 rfl (by decide))
     rw [Nat.add_zero] at hN0
     have hTr:=h2.lt
     have hTG : T ≠ wr.heap.size:=Nat.ne_of_lt hTr
     have hTG' : ¬ wr.heap.size = T:=fun e => hTG e.symm
     have hG:=lhi (held_new wr 43 #[.int .i64 4,.int .i64 x,.int .i64 0,.int .i64 0,.int .i64 (-1),.int .i64 0,.int .u64 0,.int .u64 0,.int .u64 0,.int .u64 0])
     have hbG:=lhi ((Below.refl wr.heap.size wr).alloc (nlr _) (.cells #[.int .i64 4,.int .i64 x,.int .i64 0,.int .i64 0,.int .i64 (-1),.int .i64 0,.int .u64 0,.int .u64 0,.int .u64 0,.int .u64 0] 43))
     have hlt2 : 0 ≤ nx l i2 → i2 < l.length:=nx_lt
     by_cases e42 : nx l i2 = 42
     · have hi3 : i2 + 1 ≤ n:=by omega
       rw [e42] at hN0
       have hU:=lhi (fun w3 (h3 : Rdr w3 B T A n c l v2 ns2 g2 (i2 + 1) cl2 0) => rput_any h3 (repN x 0 (-1)) (fits_rep ok2 (by decide)))
       rw [show nodV (repN x 0 (-1)) = _ from nodV_z 4 x 0 0 (-1) 0] at hU
       have hfin:=lhi (fun w' z (hy : RPut wr B T A n c l v2 ns2 g2 (i2 + 1) cl2 (repN x 0 (-1)) (.returned (.int .i64 z)) w') => erep_next (V:=V) h2 (fun _ => trivial) k2 q1 q0 q2 q3 hl2 q4 (show i2 < i2 + 1 by omega) (hV.out.one i2 (.inl e42)) (fun ps bs lv => stepE_star e42) hy)
       clear h2 k2 q0 q1 q2 q3 q4 ok2 hnl hl2 hlt2 hle
       go_wp2_with (first
        | (go_at_call 51;refine (hN0.out _ hbG.out).mono ?_;rintro y w5 ⟨rfl,hq⟩;have hG5:=hG.out.keep hq;replace hbG:=lhi (hbG.out.trans (hq.mono hbG.out.size));have c1b:=(hP.out _ hbG.out).c1;have t1b:=(hP.out _ hbG.out).thawed 1;have ⟨n0,n1,n2,n3,n4,n5,n6,n7,n8,n9⟩:=hG5.cells10;have f0:=hG5.thawed 0;have f1:=hG5.thawed 1;have f2:=hG5.thawed 2;have f3:=hG5.thawed 3;have f4:=hG5.thawed 4;have f5:=hG5.thawed 5;have f6:=hG5.thawed 6;have f7:=hG5.thawed 7;have f8:=hG5.thawed 8;have f9:=hG5.thawed 9;clear hG5 hq)
        | (go_at_call 30;(refine (hU.out _ ((hP.out _ hbG.out).goto hi3 (z:=(i2 : Int) + 1) (by omega))).mono ?_;intro y w6 hy;obtain ⟨z,rfl,hy⟩:=hy.ret;replace hy:=lhi (hfin.out _ _ (hy.from ((ChP.of_below hbG.out).trans (ChP.store _ T 1 (.int .i64 ((i2 : Int) + 1)) v2)))))))
       go_roundw
       case rel => exact hy.out.1
       case measure => exact hy.out.2
     by_cases e43 : nx l i2 = 43
     · have hi3 : i2 + 1 ≤ n:=by omega
       rw [e43] at hN0
       have hU:=lhi (fun w3 (h3 : Rdr w3 B T A n c l v2 ns2 g2 (i2 + 1) cl2 0) => rput_any h3 (repN x 1 (-1)) (fits_rep ok2 (by decide)))
       rw [show nodV (repN x 1 (-1)) = _ from nodV_z 4 x 0 1 (-1) 0] at hU
       have hfin:=lhi (fun w' z (hy : RPut wr B T A n c l v2 ns2 g2 (i2 + 1) cl2 (repN x 1 (-1)) (.returned (.int .i64 z)) w') => erep_next (V:=V) h2 (fun _ => trivial) k2 q1 q0 q2 q3 hl2 q4 (show i2 < i2 + 1 by omega) (hV.out.one i2 (.inr (.inl e43))) (fun ps bs lv => stepE_plus e43) hy)
       clear h2 k2 q0 q1 q2 q3 q4 ok2 hnl hl2 hlt2 hle
       go_wp2_with (first
        | (go_at_call 51;refine (hN0.out _ hbG.out).mono ?_;rintro y w5 ⟨rfl,hq⟩;have hG5:=hG.out.keep hq;replace hbG:=lhi (hbG.out.trans (hq.mono hbG.out.size));have c1b:=(hP.out _ hbG.out).c1;have t1b:=(hP.out _ hbG.out).thawed 1;have ⟨n0,n1,n2,n3,n4,n5,n6,n7,n8,n9⟩:=hG5.cells10;have f0:=hG5.thawed 0;have f1:=hG5.thawed 1;have f2:=hG5.thawed 2;have f3:=hG5.thawed 3;have f4:=hG5.thawed 4;have f5:=hG5.thawed 5;have f6:=hG5.thawed 6;have f7:=hG5.thawed 7;have f8:=hG5.thawed 8;have f9:=hG5.thawed 9;clear hG5 hq)
        | (go_at_call 30;(refine (hU.out _ ((hP.out _ (hbG.out.setCell (p:=⟨wr.heap.size,3,none⟩) (nlr _) (.int .i64 1))).goto hi3 (z:=(i2 : Int) + 1) (by omega))).mono ?_;intro y w6 hy;obtain ⟨z,rfl,hy⟩:=hy.ret;replace hy:=lhi (hfin.out _ _ (hy.from ((ChP.of_below (hbG.out.setCell (p:=⟨wr.heap.size,3,none⟩) (nlr _) (.int .i64 1))).trans (ChP.store _ T 1 (.int .i64 ((i2 : Int) + 1)) v2)))))))
       go_roundw
       case rel => exact hy.out.1
       case measure => exact hy.out.2
     by_cases e63 : nx l i2 = 63
     · have hi3 : i2 + 1 ≤ n:=by omega
       rw [e63] at hN0
       have hU:=lhi (fun w3 (h3 : Rdr w3 B T A n c l v2 ns2 g2 (i2 + 1) cl2 0) => rput_any h3 (repN x 0 1) (fits_rep ok2 (by decide)))
       rw [show nodV (repN x 0 1) = _ from nodV_z 4 x 0 0 1 0] at hU
       have hfin:=lhi (fun w' z (hy : RPut wr B T A n c l v2 ns2 g2 (i2 + 1) cl2 (repN x 0 1) (.returned (.int .i64 z)) w') => erep_next (V:=V) h2 (fun _ => trivial) k2 q1 q0 q2 q3 hl2 q4 (show i2 < i2 + 1 by omega) (hV.out.one i2 (.inr (.inr (.inl e63)))) (fun ps bs lv => stepE_qm e63) hy)
       clear h2 k2 q0 q1 q2 q3 q4 ok2 hnl hl2 hlt2 hle
       go_wp2_with (first
        | (go_at_call 51;refine (hN0.out _ hbG.out).mono ?_;rintro y w5 ⟨rfl,hq⟩;have hG5:=hG.out.keep hq;replace hbG:=lhi (hbG.out.trans (hq.mono hbG.out.size));have c1b:=(hP.out _ hbG.out).c1;have t1b:=(hP.out _ hbG.out).thawed 1;have ⟨n0,n1,n2,n3,n4,n5,n6,n7,n8,n9⟩:=hG5.cells10;have f0:=hG5.thawed 0;have f1:=hG5.thawed 1;have f2:=hG5.thawed 2;have f3:=hG5.thawed 3;have f4:=hG5.thawed 4;have f5:=hG5.thawed 5;have f6:=hG5.thawed 6;have f7:=hG5.thawed 7;have f8:=hG5.thawed 8;have f9:=hG5.thawed 9;clear hG5 hq)
        | (go_at_call 30;(refine (hU.out _ ((hP.out _ (hbG.out.setCell (p:=⟨wr.heap.size,4,none⟩) (nlr _) (.int .i64 1))).goto hi3 (z:=(i2 : Int) + 1) (by omega))).mono ?_;intro y w6 hy;obtain ⟨z,rfl,hy⟩:=hy.ret;replace hy:=lhi (hfin.out _ _ (hy.from ((ChP.of_below (hbG.out.setCell (p:=⟨wr.heap.size,4,none⟩) (nlr _) (.int .i64 1))).trans (ChP.store _ T 1 (.int .i64 ((i2 : Int) + 1)) v2)))))))
       go_roundw
       case rel => exact hy.out.1
       case measure => exact hy.out.2
     by_cases e123 : nx l i2 = 123
     · rw [e123] at hN0
       have hi3 : i2 + 1 ≤ n:=by omega
       obtain ⟨p,hp⟩ : ∃ p,p = i2 + 1:=⟨_,rfl⟩
       have hwp : IntKind.i64.wrap ((i2 : Int) + 1) = (p : Int):=by rw [IntWalk.i64_in _ (by omega)];omega
       have hIv:=lhi (fun w3 (hb : Below wr.heap.size wr w3) => rinterval_any (h2.keep hb) (a:=p) (by omega))
       have hpl : p ≤ l.length:=by omega
       have hBAD:=lhi (show ivE l i2 = none → ∀ w' v',Rdr w' B T A n c l v' ns2 g2 i2 cl2 13 → ChP wr w' T v2 v' → ENode V true w B T A n c l v ns g i cl inG (.returned (.int .i64 x)) w' from fun hiv w' v' h3 k3 => .inr ⟨x,v',ns2,g2,i2,cl2,13,by decide,rfl,h3,k2.trans k3,fun ct ps bs lv hct hlv => (q4 ct ps bs lv hct hlv).ends (.bad (stepE_ivl_bad e123 hiv))⟩)
       cases hv : rivI l p with
       | none =>
        have hiv : ivE l i2 = none:=by unfold ivE;rw [← hp,hv]
        rw [hv] at hIv
        unfold rivR at hIv
        replace hBAD:=lhi (hBAD.out hiv)
        clear h2 k2 q0 q1 q2 q3 q4 ok2 hnl hl2 hlt2 hle hiv hv hp hpl e42 e43 e63 e123
        go_wp2_with (first
         | (go_at_call 51;refine (hN0.out _ hbG.out).mono ?_;rintro y w5 ⟨rfl,hq⟩;have hG5:=hG.out.keep hq;replace hbG:=lhi (hbG.out.trans (hq.mono hbG.out.size));have c1b:=(hP.out _ hbG.out).c1;have t1b:=(hP.out _ hbG.out).thawed 1;have ⟨n0,n1,n2,n3,n4,n5,n6,n7,n8,n9⟩:=hG5.cells10;have f0:=hG5.thawed 0;have f1:=hG5.thawed 1;have f2:=hG5.thawed 2;have f3:=hG5.thawed 3;have f4:=hG5.thawed 4;have f5:=hG5.thawed 5;have f6:=hG5.thawed 6;have f7:=hG5.thawed 7;have f8:=hG5.thawed 8;have f9:=hG5.thawed 9;clear hG5 hq;have h4:=hP.out _ hbG.out;have c2b:=h4.c2;have t2:=h4.thawed 2;have h5:=lhi (h4.erred 13 (z:=13) rfl);have k5:=lhi ((ChP.of_below (T:=T) (v:=v2) hbG.out).trans (ChP.store w5 T 2 (.int .i64 13) v2)))
         | (go_at_call 78;refine (hIv.out _ hbG.out).mono ?_;rintro y w6 ⟨rfl,rfl⟩))
        go_ret
        exact hBAD.out _ _ h5.out k5.out
       | some t3 =>
        obtain ⟨lo,hi,k⟩:=t3
        have hkin:=riv_in hpl hv
        have hk0 : (k : Int) ≤ 1000000:=by omega
        have hk00 : (0 : Int) ≤ (k : Int):=by omega
        have htm:=riv_times hpl hv
        have hiv : ivE l i2 = if nx l k = 125 then some (lo,hi,k + 1) else none:=by unfold ivE;rw [← hp,hv]
        rw [hv] at hIv
        unfold rivR at hIv
        by_cases hb3 : nx l k = 125
        · rw [if_pos hb3] at hiv
          have hkl : k < l.length:=nx_lt (by omega)
          obtain ⟨ad,hA,hcell1⟩:=h2.byte (k:=k) (x:=125) (by
           have hx1 : l[k]? = some (l[k]'(by omega)):=List.getElem?_eq_getElem _
           rw [nx_some hx1] at hb3
           rw [hx1,UInt8.toNat_inj.1 (show (l[k]'(by omega)).toNat = (125 : UInt8).toNat from by show _ = 125;omega)])
          subst hA
          have hmn : ¬ (n : Int) ≤ (k : Int):=by omega
          have hkn1 : (k : Int) < (n : Int):=by omega
          have hi4 : k + 1 ≤ n:=by omega
          have hBy:=lhi (fun w3 (hb : Below wr.heap.size wr w3) => (show w3.cell? (ad.add k) = some (.int .u8 125) from by
           obtain ⟨a1,e1,f1⟩:=(h2.keep hb).byte (k:=k) (x:=125) (by
            have hx1 : l[k]? = some (l[k]'(by omega)):=List.getElem?_eq_getElem _
            rw [nx_some hx1] at hb3
            rw [hx1,UInt8.toNat_inj.1 (show (l[k]'(by omega)).toNat = (125 : UInt8).toNat from by show _ = 125;omega)])
           cases e1
           exact f1))
          have hU:=lhi (fun w3 (h3 : Rdr w3 B T (some ad) n c l v2 ns2 g2 (k + 1) cl2 0) => rput_any h3 (repN x lo hi) (fits_rep ok2 htm))
          rw [show nodV (repN x lo hi) = _ from nodV_z 4 x 0 lo hi 0] at hU
          have hfin:=lhi (fun w' z (hy : RPut wr B T (some ad) n c l v2 ns2 g2 (k + 1) cl2 (repN x lo hi) (.returned (.int .i64 z)) w') => erep_next (V:=V) h2 (fun _ => trivial) k2 q1 q0 q2 q3 hl2 q4 (show i2 < k + 1 by omega) (hV.out.iv i2 lo hi (k + 1) e123 hiv) (fun ps bs lv => stepE_ivl e123 hiv) hy)
          have hnc : n ≤ c:=h2.inp.2.1
          clear h2 k2 q0 q1 q2 q3 q4 ok2 hnl hl2 hlt2 hle hiv hv hp hpl e42 e43 e63 e123 hBAD htm hb3 hcell1 hkl
          go_wp2_with (first
           | (go_at_call 51;refine (hN0.out _ hbG.out).mono ?_;rintro y w5 ⟨rfl,hq⟩;have hG5:=hG.out.keep hq;replace hbG:=lhi (hbG.out.trans (hq.mono hbG.out.size));have c1b:=(hP.out _ hbG.out).c1;have t1b:=(hP.out _ hbG.out).thawed 1;have ⟨n0,n1,n2,n3,n4,n5,n6,n7,n8,n9⟩:=hG5.cells10;have f0:=hG5.thawed 0;have f1:=hG5.thawed 1;have f2:=hG5.thawed 2;have f3:=hG5.thawed 3;have f4:=hG5.thawed 4;have f5:=hG5.thawed 5;have f6:=hG5.thawed 6;have f7:=hG5.thawed 7;have f8:=hG5.thawed 8;have f9:=hG5.thawed 9;clear hG5 hq;have c0b:=(hP.out _ hbG.out).c0;have by1:=hBy.out _ hbG.out)
           | (go_at_call 78;refine (hIv.out _ hbG.out).mono ?_;rintro y w6 ⟨rfl,rfl⟩)
           | (go_at_call 30;(refine (hU.out _ ((hP.out _ ((hbG.out.setCell (p:=⟨wr.heap.size,3,none⟩) (nlr _) (.int .i64 lo)).setCell (p:=⟨wr.heap.size,4,none⟩) (nlr _) (.int .i64 hi))).goto hi4 (z:=(k : Int) + 1) (by omega))).mono ?_;intro y w6 hy;obtain ⟨z,rfl,hy⟩:=hy.ret;replace hy:=lhi (hfin.out _ _ (hy.from ((ChP.of_below ((hbG.out.setCell (p:=⟨wr.heap.size,3,none⟩) (nlr _) (.int .i64 lo)).setCell (p:=⟨wr.heap.size,4,none⟩) (nlr _) (.int .i64 hi))).trans (ChP.store _ T 1 (.int .i64 ((k : Int) + 1)) v2)))))))
          go_roundw
          case rel => exact hy.out.1
          case measure => exact hy.out.2
        · rw [if_neg hb3] at hiv
          replace hBAD:=lhi (hBAD.out hiv)
          by_cases hkn : k < n
          · have hx1 : l[k]? = some (l[k]'(by omega)):=List.getElem?_eq_getElem _
            rw [nx_some hx1] at hb3
            generalize l[k]'(by omega) = y1 at *
            obtain ⟨ad,hA,hcell1⟩:=h2.byte hx1
            subst hA
            have hmn : ¬ (n : Int) ≤ (k : Int):=by omega
            have hkn1 : (k : Int) < (n : Int):=by omega
            have hBy:=lhi (fun w3 (hb : Below wr.heap.size wr w3) => (show w3.cell? (ad.add k) = some (.int .u8 (y1.toNat : Int)) from by
             obtain ⟨a1,e1,f1⟩:=(h2.keep hb).byte hx1
             cases e1
             exact f1))
            have hnc : n ≤ c:=h2.inp.2.1
            have hne : ((y1.toNat : Int) != 125) = true:=by rw [bne_iff_ne];exact hb3
            clear h2 k2 q0 q1 q2 q3 q4 ok2 hnl hl2 hlt2 hle hiv hv hp hpl e42 e43 e63 e123 htm hb3 hcell1 hx1
            generalize (y1.toNat : Int) = d1 at *
            go_wp2_with (first
             | (go_at_call 51;refine (hN0.out _ hbG.out).mono ?_;rintro y w5 ⟨rfl,hq⟩;have hG5:=hG.out.keep hq;replace hbG:=lhi (hbG.out.trans (hq.mono hbG.out.size));have c1b:=(hP.out _ hbG.out).c1;have t1b:=(hP.out _ hbG.out).thawed 1;have ⟨n0,n1,n2,n3,n4,n5,n6,n7,n8,n9⟩:=hG5.cells10;have f0:=hG5.thawed 0;have f1:=hG5.thawed 1;have f2:=hG5.thawed 2;have f3:=hG5.thawed 3;have f4:=hG5.thawed 4;have f5:=hG5.thawed 5;have f6:=hG5.thawed 6;have f7:=hG5.thawed 7;have f8:=hG5.thawed 8;have f9:=hG5.thawed 9;clear hG5 hq;have h4:=hP.out _ hbG.out;have c2b:=h4.c2;have t2:=h4.thawed 2;have h5:=lhi (h4.erred 13 (z:=13) rfl);have k5:=lhi ((ChP.of_below (T:=T) (v:=v2) hbG.out).trans (ChP.store w5 T 2 (.int .i64 13) v2));have c0b:=(hP.out _ hbG.out).c0;have by1:=hBy.out _ hbG.out)
             | (go_at_call 78;refine (hIv.out _ hbG.out).mono ?_;rintro y w6 ⟨rfl,rfl⟩))
            go_ret
            exact hBAD.out _ _ h5.out k5.out
          · have hmn : (n : Int) ≤ (k : Int):=by omega
            clear h2 k2 q0 q1 q2 q3 q4 ok2 hnl hl2 hlt2 hle hiv hv hp hpl e42 e43 e63 e123 htm hb3
            go_wp2_with (first
             | (go_at_call 51;refine (hN0.out _ hbG.out).mono ?_;rintro y w5 ⟨rfl,hq⟩;have hG5:=hG.out.keep hq;replace hbG:=lhi (hbG.out.trans (hq.mono hbG.out.size));have c1b:=(hP.out _ hbG.out).c1;have t1b:=(hP.out _ hbG.out).thawed 1;have ⟨n0,n1,n2,n3,n4,n5,n6,n7,n8,n9⟩:=hG5.cells10;have f0:=hG5.thawed 0;have f1:=hG5.thawed 1;have f2:=hG5.thawed 2;have f3:=hG5.thawed 3;have f4:=hG5.thawed 4;have f5:=hG5.thawed 5;have f6:=hG5.thawed 6;have f7:=hG5.thawed 7;have f8:=hG5.thawed 8;have f9:=hG5.thawed 9;clear hG5 hq;have h4:=hP.out _ hbG.out;have c2b:=h4.c2;have t2:=h4.thawed 2;have h5:=lhi (h4.erred 13 (z:=13) rfl);have k5:=lhi ((ChP.of_below (T:=T) (v:=v2) hbG.out).trans (ChP.store w5 T 2 (.int .i64 13) v2));have c0b:=(hP.out _ hbG.out).c0)
             | (go_at_call 78;refine (hIv.out _ hbG.out).mono ?_;rintro y w6 ⟨rfl,rfl⟩))
            go_ret
            exact hBAD.out _ _ h5.out k5.out
     · have hfin:=lhi (show ∀ w',Below wr.heap.size wr w' → ENode V true w B T A n c l v ns g i cl inG (.returned (.int .i64 x)) w' from fun w' hb => .inl ⟨x,v2,ns2,g2,i2,cl2,rfl,ok2,h2.keep hb,k2.trans (ChP.of_below hb),q1,q0,q2,q3,fun ct ps bs lv hct hlv => (q4 ct ps bs lv hct hlv).snoc (stepE_off e42 e43 e63 e123)⟩)
       have b43 : (nx l i2 == 43) = false:=by rw [bef];exact e43
       have b63 : (nx l i2 == 63) = false:=by rw [bef];exact e63
       have b123 : (nx l i2 == 123) = false:=by rw [bef];exact e123
       have n42 : (nx l i2 != 42) = true:=by rw [bne_iff_ne];exact e42
       have n43 : (nx l i2 != 43) = true:=by rw [bne_iff_ne];exact e43
       have n63 : (nx l i2 != 63) = true:=by rw [bne_iff_ne];exact e63
       clear h2 k2 q0 q1 q2 q3 q4 ok2 hnl hl2 hlt2 hle e42 e43 e63 e123
       generalize nx l i2 = z0 at *
       go_wp2_with (go_at_call 51;refine (hN0.out _ hbG.out).mono ?_;rintro y w5 ⟨rfl,hq⟩;have hG5:=hG.out.keep hq;replace hbG:=lhi (hbG.out.trans (hq.mono hbG.out.size));have c1b:=(hP.out _ hbG.out).c1;have t1b:=(hP.out _ hbG.out).thawed 1;have ⟨n0,n1,n2,n3,n4,n5,n6,n7,n8,n9⟩:=hG5.cells10;have f0:=hG5.thawed 0;have f1:=hG5.thawed 1;have f2:=hG5.thawed 2;have f3:=hG5.thawed 3;have f4:=hG5.thawed 4;have f5:=hG5.thawed 5;have f6:=hG5.thawed 6;have f7:=hG5.thawed 7;have f8:=hG5.thawed 8;have f9:=hG5.thawed 9;clear hG5 hq)
       go_ret
       exact hfin.out _ hbG.out
   · obtain rfl:=(Ending.returned.inj ea)
     clear ea
     have c2:=h2.c2
     have he : ((e2 : Int) == 0) = false:=by rw [bef];omega
     have hfin:=lhi (show ENode V true w B T A n c l v ns g i cl inG (.returned (.int .i64 x)) wr from .inr ⟨x,v2,ns2,g2,i2,cl2,e2,he2,rfl,h2,k2,q4⟩)
     clear h2 k2 q4 he2
     go_wp2
     go_ret
     exact hfin.out
end
end Go.Proofs.YtonjnagcdnmcpaaGreatDoor
