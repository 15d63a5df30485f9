/- Contracts and plain facts: M22. -/
import Derived.Test.YtonjnagcdnmcpaaGreatDoorM21
set_option linter.unusedVariables false
set_option linter.unusedSimpArgs false
set_option maxRecDepth 100000
set_option maxHeartbeats 32000000
namespace Go.Proofs.YtonjnagcdnmcpaaGreatDoor
open Go.RowKit
def EndAt (l : List UInt8) (n i : Nat) (inG : Bool) : Prop:=n ≤ i ∨ nx l i = 124 ∨ (inG = true ∧ nx l i = 41)
def CBran (V : Nat → Nat) (w : World) (B T : Nat) (A : Option Addr) (n c : Nat) (l : List UInt8) (v : Value) (ns : List Nod) (g i : Nat) (cl : Nat → Bool) (inG : Bool) (e : Ending) (w' : World) : Prop :=
 (∃ x v' ns' g' i' cl' ns1 ps1,e = .returned (.int .i64 x) ∧ okP (ns'.length : Int) x = true ∧ Psr w' B T A n c l v' ns' g' i' cl' 0 ∧ ChP w w' T v v' ∧ chn 2 ns1 ps1 = (x,ns') ∧ ns.length ≤ ns'.length ∧ ns'.length + 1 + V i' ≤ ns.length + V i ∧ g ≤ g' ∧ i ≤ i' ∧
  (nx l i' = 124 ∨ (if inG then nx l i' = 41 else i' = n)) ∧ ∀ bs lv,lv.isEmpty = !inG → StepsE l ⟨.B,i,ns,g,cl,[],bs,lv⟩ ⟨.L,i',ns1,g',cl',ps1,bs,lv⟩) ∨
 (∃ x v' ns' g' i' cl' q,q ≠ 0 ∧ e = .returned (.int .i64 x) ∧ Psr w' B T A n c l v' ns' g' i' cl' q ∧ ChP w w' T v v' ∧ ∀ bs lv,lv.isEmpty = !inG → EndsE l ⟨.B,i,ns,g,cl,[],bs,lv⟩ (.bad i' q))
def RelCB (V : Nat → Nat) (w : World) (B T : Nat) (A : Option Addr) (n c : Nat) (l : List UInt8) (v : Value) (ns : List Nod) (g i : Nat) (cl : Nat → Bool) (inG : Bool) (s5 : Value) (wr : World) : Prop :=
 (∃ v' ns' g' i' cl' ps,Psr wr B T A n c l v' ns' g' i' cl' 0 ∧ ChP w wr T v v' ∧ Pcs w.heap.size wr s5 ps ∧ (∀ p ∈ ps,okP (ns'.length : Int) p = true) ∧ ns.length ≤ ns'.length ∧ ns'.length + ps.length + V i' ≤ ns.length + V i ∧ g ≤ g' ∧ i ≤ i' ∧ (ps = [] → ¬ EndAt l n i' inG) ∧
  ∀ bs lv,lv.isEmpty = !inG → StepsE l ⟨.B,i,ns,g,cl,[],bs,lv⟩ ⟨ctOf ps,i',ns',g',cl',ps,bs,lv⟩) ∨
 (∃ v' ns' g' i' cl' q,q ≠ 0 ∧ Psr wr B T A n c l v' ns' g' i' cl' q ∧ ChP w wr T v v' ∧ ∀ bs lv,lv.isEmpty = !inG → EndsE l ⟨.B,i,ns,g,cl,[],bs,lv⟩ (.bad i' q))
section
variable {V : Nat → Nat} {w w' wr w3 w5 w7 : World} {B T : Nat} {A : Option Addr} {n c : Nat} {l : List UInt8} {v v' v2 v7 : Value} {ns ns2 : List Nod} {g g2 i i2 : Nat} {cl cl2 : Nat → Bool} {inG : Bool} {s5 : Value} {ps bs : List Int} {z x : Int} {e : Ending}
theorem CBran.ret (h : CBran V w B T A n c l v ns g i cl inG e w') : ∃ z,e = .returned (.int .i64 z) ∧ CBran V w B T A n c l v ns g i cl inG (.returned (.int .i64 z)) w':=by
 rcases h with ⟨x,v',ns',g',i',cl',ns1,ps1,rfl,h⟩ | ⟨x,v',ns',g',i',cl',q,hq,rfl,h⟩
 · exact ⟨_,rfl,.inl ⟨x,v',ns',g',i',cl',ns1,ps1,rfl,h⟩⟩
 · exact ⟨_,rfl,.inr ⟨x,v',ns',g',i',cl',q,hq,rfl,h⟩⟩
theorem CBran.from {w0 : World} {v0 : Value} (h : CBran V w B T A n c l v ns g i cl inG e w') (h0 : ChP w0 w T v0 v) : CBran V w0 B T A n c l v0 ns g i cl inG e w':=by
 rcases h with ⟨x,v',ns',g',i',cl',ns1,ps1,h1,h2,h3,h4,h5⟩ | ⟨x,v',ns',g',i',cl',q,h1,h2,h3,h4,h5⟩
 · exact .inl ⟨x,v',ns',g',i',cl',ns1,ps1,h1,h2,h3,h0.trans h4,h5⟩
 · exact .inr ⟨x,v',ns',g',i',cl',q,h1,h2,h3,h0.trans h4,h5⟩
theorem pieAt_of (hn : n = l.length) (h : ¬ EndAt l n i inG) : PieAt l i inG:=by
 unfold EndAt at h
 exact ⟨by omega,fun e => h (.inr (.inl e)),fun hg e => h (.inr (.inr ⟨hg,e⟩))⟩
theorem relCB_next (h2 : Psr wr B T A n c l v2 ns2 g2 i2 cl2 0) (k2 : ChP w wr T v v2) (p6 : Pcs w.heap.size wr s5 ps) (q2 : ∀ p ∈ ps,okP (ns2.length : Int) p = true)
    (r1 : ns.length ≤ ns2.length) (r2 : ns2.length + ps.length + V i2 ≤ ns.length + V i) (r3 : g ≤ g2) (r4 : i ≤ i2)
    (q6 : ∀ bs lv,lv.isEmpty = !inG → StepsE l ⟨.B,i,ns,g,cl,[],bs,lv⟩ ⟨ctOf ps,i2,ns2,g2,cl2,ps,bs,lv⟩) (hT : T < w.heap.size)
    (hb : Below wr.heap.size wr w3) (hy : CNode V true w3 B T A n c l v2 ns2 g2 i2 cl2 inG (.returned (.int .i64 z)) w5)
    (ho : w7.ownsRow w.heap.size 3 1 v7 (ps.length + 1) (ps.map (Value.int .i64) ++ [.int .i64 z])) (hg : (w5.alloc (.cells #[.int .i64 z] 3)).grownBy w7 s5.ownBlock) :
    RelCB V w B T A n c l v ns g i cl inG v7 w7 ∧ leftP n T w7 < leftP n T wr:=by
 have hle:=h2.le
 rcases hy with ⟨x,v',ns',g',i',cl',e1,ok',h3,h4,a1,a0,a2,a3,a4⟩ | ⟨x,v',ns',g',i',cl',q,hq,e1,h3,h4,a4⟩
 · obtain rfl : z = x:=by simpa using e1
   have hp6:=((p6.below hb).chp (h2.keep hb) h4 hT).below (below_one w5 z)
   have h7:=(h3.keep (below_one w5 z)).grown hp6 hg hT
   refine ⟨.inl ⟨v',ns',g',i',cl',ps ++ [z],h7,(((k2.trans (ChP.of_below hb)).trans h4).trans (ChP.of_below (below_one w5 z))).grown hg p6.lt,hp6.more ho hg.size,fun y hy => ?_,by omega,by rw [lla,lls];omega,by omega,by omega,fun e => by simp at e,fun bs lv hlv => ?_⟩,by rw [h7.left,h2.left];omega⟩
   · rcases List.mem_append.1 hy with hy | hy
     · exact okP_more (q2 y hy) (by omega)
     · simp only [List.mem_singleton] at hy;subst hy;exact ok'
   · rw [ctOf_snoc]
     exact (q6 bs lv hlv).trans (a4 (ctOf ps) ps bs lv (by unfold ctOf;cases ps.isEmpty <;> simp) hlv)
 · have hp6:=((p6.below hb).chp (h2.keep hb) h4 hT).below (below_one w5 z)
   have h7:=(h3.keep (below_one w5 z)).grown hp6 hg hT
   exact ⟨.inr ⟨v',ns',g',i',cl',q,hq,h7,(((k2.trans (ChP.of_below hb)).trans h4).trans (ChP.of_below (below_one w5 z))).grown hg p6.lt,fun bs lv hlv => (q6 bs lv hlv).ends (a4 (ctOf ps) ps bs lv (by unfold ctOf;cases ps.isEmpty <;> simp) hlv)⟩,by rw [h7.left0 hq,h2.left];omega⟩
end
section
variable {V : Nat → Nat} {w : World} {B T : Nat} {A : Option Addr} {n c : Nat} {l : List UInt8} {v : Value} {ns : List Nod} {g i : Nat} {cl : Nat → Bool} {inG : Bool} (h : Psr w B T A n c l v ns g i cl 0)
include h
theorem cends_any (b : Bool) (hbe : b = true ↔ EndAt l n i inG) :
    Calls Tryz.prog 65 #[.pointer (some ⟨T,0,none⟩),.bool inG] w fun e w' => e = .returned (.bool b) ∧ Below w.heap.size w w':=by
 have hle:=h.le
 have hEn:=lhi (ends_any h)
 have hP:=lhi (fun w3 (hb : Below w.heap.size w w3) => h.keep hb)
 unfold EndAt at hbe
 by_cases hi : i = n
 · rw [decide_eq_true hi] at hEn
   obtain rfl : b = true:=hbe.2 (.inl (by omega))
   clear h hbe hi
   go_enter Tryz.func65,Tryz.ntmps65
   go_wp2_with (go_at_call 25;refine (hEn.out).mono ?_;rintro y w3 ⟨rfl,hb3⟩;replace hb3:=lhi hb3)
   go_ret
   exact ⟨rfl,hb3.out⟩
 rw [decide_eq_false hi] at hEn
 by_cases h1 : nx l i = 124
 · obtain rfl : b = true:=hbe.2 (.inr (.inl h1))
   have hC:=lhi (fun w3 (hb : Below w.heap.size w w3) => comes_is (hP.out _ hb) ⟨#[124]⟩ true (bg_nx 124 true (decide_eq_true h1)))
   clear h hbe hi h1
   go_enter Tryz.func65,Tryz.ntmps65
   go_wp2_with (first
    | (go_at_call 25;refine (hEn.out).mono ?_;rintro y w3 ⟨rfl,hb3⟩;replace hb3:=lhi hb3)
    | (go_at_call 47;refine (hC.out _ hb3.out).mono ?_;rintro y w4 ⟨rfl,hb4⟩;replace hb4:=lhi (hb3.out.trans (hb4.mono hb3.out.size))))
   go_ret
   exact ⟨rfl,hb4.out⟩
 have hC:=lhi (fun w3 (hb : Below w.heap.size w w3) => comes_is (hP.out _ hb) ⟨#[124]⟩ false (bg_nx 124 false (decide_eq_false h1)))
 cases inG with
 | false =>
  obtain rfl : b = false:=by
   cases b with
   | false => rfl
   | true =>
    rcases hbe.1 rfl with h2 | h2 | ⟨h2,_⟩
    · omega
    · exact absurd h2 h1
    · cases h2
  clear h hbe hi h1
  go_enter Tryz.func65,Tryz.ntmps65
  go_wp2_with (first
   | (go_at_call 25;refine (hEn.out).mono ?_;rintro y w3 ⟨rfl,hb3⟩;replace hb3:=lhi hb3)
   | (go_at_call 47;refine (hC.out _ hb3.out).mono ?_;rintro y w4 ⟨rfl,hb4⟩;replace hb4:=lhi (hb3.out.trans (hb4.mono hb3.out.size))))
  go_ret
  exact ⟨rfl,hb4.out⟩
 | true =>
  have hD:=lhi (fun w3 (hb : Below w.heap.size w w3) => comes_is (hP.out _ hb) ⟨#[41]⟩ b (bg_nx 41 b (by
   cases b with
   | true =>
    refine decide_eq_true ?_
    rcases hbe.1 rfl with h2 | h2 | ⟨_,h2⟩
    · omega
    · exact absurd h2 h1
    · exact h2
   | false => exact decide_eq_false (fun e => by have:=hbe.2 (.inr (.inr ⟨rfl,e⟩));cases this))))
  clear h hbe hi h1
  go_enter Tryz.func65,Tryz.ntmps65
  go_wp2_with (first
   | (go_at_call 25;refine (hEn.out).mono ?_;rintro y w3 ⟨rfl,hb3⟩;replace hb3:=lhi hb3)
   | (go_at_call 47;with_reducible show Calls _ _ #[_,Value.string {data:=#[124]}] _ _;refine (hC.out _ hb3.out).mono ?_;rintro y w4 ⟨rfl,hb4⟩;replace hb4:=lhi (hb3.out.trans (hb4.mono hb3.out.size)))
   | (go_at_call 47;with_reducible show Calls _ _ #[_,Value.string {data:=#[41]}] _ _;refine (hD.out _ hb4.out).mono ?_;rintro y w6 ⟨rfl,hb6⟩;replace hb6:=lhi (hb4.out.trans (hb6.mono hb4.out.size))))
  go_ret
  exact ⟨rfl,hb6.out⟩
theorem cbranch_none (he : EndAt l n i inG) : Calls Tryz.prog 42 #[.pointer (some ⟨T,0,none⟩),.bool inG] w (CBran V w B T A n c l v ns g i cl inG):=by
 have hnl:=h.hn
 have hE:=lhi (cends_any h true ⟨fun _ => he,fun _ => rfl⟩)
 have hW:=lhi (fun w3 (hb : Below w.heap.size w w3) => wrong_at (h.keep hb) 15 15 rfl)
 have hfin:=lhi (fun (bs : List Int) (lv : List (Nat × List Int × List Int)) (hlv : lv.isEmpty = !inG) => show EndsE l ⟨.B,i,ns,g,cl,[],bs,lv⟩ (.bad i 15) from .bad (by
  show stepEB l _ = _
  simp only [stepEB]
  rw [if_pos ?_]
  rcases he with he | he | ⟨rfl,he⟩
  · exact .inl (by omega)
  · exact .inr (.inl he)
  · exact .inr (.inr ⟨fun e => by rw [e] at hlv;simp at hlv,he⟩)))
 clear h he hnl
 go_enter Tryz.func42,Tryz.ntmps42
 go_wp2_with (first
  | (go_at_call 65;refine (hE.out).mono ?_;rintro y w3 ⟨rfl,hb3⟩;replace hb3:=lhi hb3)
  | (go_at_call 66;refine (hW.out _ hb3.out).mono ?_;intro y w5 hy;obtain ⟨v5,ns5,g5,cl5,rfl,h5,k5⟩:=hy;replace h5:=lhi h5;replace k5:=lhi ((ChP.of_below hb3.out).trans k5)))
 go_ret
 exact .inr ⟨-1,v5,ns5,g5,i,cl5,15,by decide,rfl,h5.out,k5.out,hfin.out⟩
theorem cbranch_any (hV : Pot l V) (hrm : ns.length + V i < 1000) (hB : ∀ k,k < n - i → CAltOK k) :
    Calls Tryz.prog 42 #[.pointer (some ⟨T,0,none⟩),.bool inG] w (CBran V w B T A n c l v ns g i cl inG):=by
 by_cases he0 : EndAt l n i inG
 · exact cbranch_none h he0
 obtain ⟨i0,hi0,hz0,hz1,hz2⟩:=info_parts ints_info
 replace hz1:=lhi hz1
 replace hz2:=lhi hz2
 have hTl:=lhi h.lt
 have hB':=lhi hB
 replace hV:=lhi hV
 have hE:=lhi (cends_any h false ⟨fun e => (by cases e),fun e => absurd e he0⟩)
 have hst:=lhi (fun (w3 : World) (hb : Below w.heap.size w w3) => show RelCB V w B T A n c l v ns g i cl inG (.slice none 0 0) w3 from
  .inl ⟨v,ns,g,i,cl,[],h.keep hb,ChP.of_below hb,⟨World.ownsRow_nil _ _ _ _,hb.size⟩,fun p hp => (by cases hp),nlr _,by simp,nlr _,nlr _,fun _ => he0,fun bs lv hlv => .refl _⟩)
 clear h hB he0
 go_enter Tryz.func42,Tryz.ntmps42
 go_wp2_with (go_at_call 65;refine (hE.out).mono ?_;rintro y w3 ⟨rfl,hb3⟩;replace hb3:=lhi hb3)
 go_loopw [5] (fun a wr => RelCB V w B T A n c l v ns g i cl inG a wr) (fun _ wr => leftP n T wr)
 case atStart => exact hst.out _ hb3.out
 case round =>
  clear hst hb3 hE
  rcases hrel with ⟨v2,ns2,g2,i2,cl2,ps2,h2,k2,p2,q1,q2,q3,q4,q5,q7,q6⟩ | ⟨v2,ns2,g2,i2,cl2,ee,he,h2,k2,q6⟩
  · have hF:=lhi (fine_any h2)
    rw [decide_eq_true rfl] at hF
    have hle2:=h2.le
    have hnl:=h2.hn
    obtain ⟨Ap,kp,rfl,-,-,-,-⟩:=p2.slice
    have hP:=lhi (fun w3 (hb : Below wr.heap.size wr w3) => h2.keep hb)
    have hTW:=hTl.out
    by_cases hend : EndAt l n i2 inG
    · have hEn:=lhi (cends_any h2 true ⟨fun _ => hend,fun _ => rfl⟩)
      have hps : ps2 ≠ []:=fun e => q7 e hend
      rw [ctOf_L hps] at q6
      by_cases hop : inG = true ∧ i2 = n
      · obtain ⟨rfl,hin⟩:=hop
        have hC:=lhi (fun w4 hb4 => abranch_open (hP.out w4 hb4) hin Ap ps2.length kp)
        have hst:=lhi (fun (bs : List Int) (lv : List (Nat × List Int × List Int)) (hlv : lv.isEmpty = !true) => (q6 bs lv hlv).ends (show EndsE l ⟨.L,i2,ns2,g2,cl2,ps2,bs,lv⟩ (.bad i2 14) from .bad (by
         show stepEL l _ = _
         simp only [stepEL]
         rw [if_pos (by omega)]
         cases lv with
         | nil => simp at hlv
         | cons a b => rfl)))
        replace k2:=lhi k2
        clear h2 p2 q1 q2 q3 q4 q5 q6 q7 hnl hps hend hin
        go_wp2_with (first
         | (go_at_call 39;refine (hF.out).mono ?_;rintro y w9 ⟨rfl,rfl⟩)
         | (go_at_call 65;refine (hEn.out).mono ?_;rintro y w3 ⟨rfl,hb3⟩;replace hb3:=lhi hb3)
         | (go_at_call 49;refine (hC.out _ hb3.out).mono ?_;rintro y w5 ⟨v5,ns5,g5,cl5,rfl,h5,k5⟩;replace h5:=lhi h5;replace k5:=lhi ((k2.out.trans (ChP.of_below hb3.out)).trans k5)))
        go_ret
        exact .inr ⟨-1,v5,ns5,g5,i2,cl5,14,by decide,rfl,h5.out,k5.out,hst.out⟩
      · have hlen:=chn_len 2 ns2 hps
        have hcs:=catS_chn (ns:=ns2) hps (by omega)
        obtain ⟨x,ns',hch⟩ : ∃ x ns',chn 2 ns2 ps2 = (x,ns'):=⟨_,_,rfl⟩
        rw [hch] at hcs hlen
        have hup:=catS_up q1 hcs
        have hC:=lhi (fun w4 hb4 => abranch_some (hP.out w4 hb4) (p2.below hb4) hTW q1 hcs inG (fun e1 e2 => hop ⟨e1,e2⟩))
        have hst:=lhi (show okP (ns'.length : Int) x = true ∧ ns.length ≤ ns'.length ∧ ns'.length + 1 + V i2 ≤ ns.length + V i ∧ (nx l i2 = 124 ∨ (if inG then nx l i2 = 41 else i2 = n)) from
         ⟨hup.2.1,by omega,by simp only at hlen;omega,by
          rcases hend with hd | hd | ⟨hd,hd2⟩
          · refine .inr ?_
            cases inG with
            | true => exact absurd ⟨rfl,by omega⟩ hop
            | false => simp;omega
          · exact .inl hd
          · exact .inr (by rw [hd];simpa using hd2)⟩)
        replace q6:=lhi q6
        replace hch:=lhi hch
        replace k2:=lhi k2
        replace q4:=lhi q4
        replace q5:=lhi q5
        clear h2 p2 q1 q2 q3 q7 hnl hps hend hop hlen hcs hup
        go_wp2_with (first
         | (go_at_call 39;refine (hF.out).mono ?_;rintro y w9 ⟨rfl,rfl⟩)
         | (go_at_call 65;refine (hEn.out).mono ?_;rintro y w3 ⟨rfl,hb3⟩;replace hb3:=lhi hb3)
         | (go_at_call 49;refine (hC.out _ hb3.out).mono ?_;rintro y w5 ⟨v5,rfl,h5,k5⟩;replace h5:=lhi h5;replace k5:=lhi ((k2.out.trans (ChP.of_below hb3.out)).trans k5)))
        go_ret
        exact .inl ⟨x,v5,ns',g2,i2,cl2,ns2,ps2,rfl,hst.out.1,h5.out,k5.out,hch.out,hst.out.2.1,hst.out.2.2.1,q4.out,q5.out,hst.out.2.2.2,q6.out⟩
    · have hEn:=lhi (cends_any h2 false ⟨fun e => (by cases e),fun e => absurd e hend⟩)
      have hPc:=lhi (fun (w3 : World) (hb : Below wr.heap.size wr w3) => cpiece_any (inG:=inG) (h2.keep hb) (pieAt_of hnl hend) hV.out (by omega) (fun k hk => hB'.out k (by omega)))
      have hkeep:=lhi (fun (w3 : World) (hb : Below wr.heap.size wr w3) (y : Ending) (w5 : World) (hy : CNode V true w3 B T A n c l v2 ns2 g2 i2 cl2 inG y w5) => show Pcs w.heap.size w5 (.slice Ap ps2.length kp) ps2 from by
       rcases hy with ⟨x,v',ns',g',i',cl',h1,h2',h3,h4,h5⟩ | ⟨x,v',ns',g',i',cl',q,h1,h2',h3,h4,h5⟩
       · exact (p2.below hb).chp (h2.keep hb) h4 hTW
       · exact (p2.below hb).chp (h2.keep hb) h4 hTW)
      have hcon:=lhi (fun (w3 : World) (hb : Below wr.heap.size wr w3) (z : Int) (w5 : World) (hy : CNode V true w3 B T A n c l v2 ns2 g2 i2 cl2 inG (.returned (.int .i64 z)) w5) (v7 : Value) (w7 : World)
       (ho : w7.ownsRow w.heap.size 3 1 v7 (ps2.length + 1) (ps2.map (Value.int .i64) ++ [.int .i64 z])) (hg : (w5.alloc (.cells #[.int .i64 z] 3)).grownBy w7 (Value.slice Ap ps2.length kp).ownBlock) => relCB_next h2 k2 p2 q1 q2 q3 q4 q5 q6 hTW hb hy ho hg)
      clear h2 k2 p2 q1 q2 q4 q6 q7 hend
      go_wp2_with (first
       | (go_at_call 39;refine (hF.out).mono ?_;rintro y w9 ⟨rfl,rfl⟩)
       | (go_at_call 65;refine (hEn.out).mono ?_;rintro y w3 ⟨rfl,hb3⟩;replace hb3:=lhi hb3)
       | (go_at_call 67;refine (hPc.out _ hb3.out).mono ?_;intro y w5 hy;obtain ⟨z,rfl,hy⟩:=hy.ret;have hq:=lhi (hcon.out _ hb3.out _ _ hy);have hpc5:=lhi (hkeep.out _ hb3.out _ _ hy);replace hy:=lhi hy)
       | (at_builtin;refine wpList_append_at rfl _ _ 53 rfl w.heap.size 3 i0 (.int .i64 0) 1 8 Tryz.underlying53 hi0 hz0 hz1.out hz2.out rfl (by decide) (.slice Ap ps2.length kp) ps2.length (ps2.map (Value.int .i64)) rfl (own_below hpc5.out.own (below_one w5 z)) (some ⟨w5.heap.size,0,none⟩) 1 1 [.int .i64 z] rfl rfl (src_int w5 z) (one_int z) (by unfold maxLen;omega) (by omega) (by have:=hpc5.out.base;simp;omega) ?_;intro v7 w7 hown7 hg7 _;replace hown7:=lhi hown7;replace hg7:=lhi hg7))
      have hfin:=lhi (hq.out _ _ hown7.out hg7.out)
      go_roundw
      case rel => exact hfin.out.1
      case measure => exact hfin.out.2
  · have hF:=lhi (fine_any h2)
    rw [decide_eq_false he] at hF
    have hC:=lhi (abranch_bad h2 he inG)
    have hfin:=lhi (show CBran V w B T A n c l v ns g i cl inG (.returned (.int .i64 (-1))) wr from .inr ⟨-1,v2,ns2,g2,i2,cl2,ee,he,rfl,h2,k2,q6⟩)
    clear h2 k2 q6 he
    go_wp2_with (first
     | (go_at_call 39;refine (hF.out).mono ?_;rintro y w9 ⟨rfl,rfl⟩)
     | (go_at_call 49;refine (hC.out _).mono ?_;rintro y w9 ⟨rfl,rfl⟩))
    go_ret
    exact hfin.out
end
theorem own_one (w1 : World) (W : Nat) (hW : W ≤ w1.heap.size) (x : Int) : (w1.alloc (.cells #[.int .i64 x] 3)).ownsRow W 3 1 (.slice (some ⟨w1.heap.size,0,none⟩) 1 1) 1 [.int .i64 x] :=
 ⟨rfl,.inr ⟨w1.heap.size,1,#[.int .i64 x],rfl,hW,heap_alloc_new w1 _,nlr _,by decide,rfl,rfl⟩⟩
def RelCA (V : Nat → Nat) (w : World) (B T : Nat) (A : Option Addr) (n c : Nat) (l : List UInt8) (v : Value) (ns : List Nod) (g i : Nat) (cl : Nat → Bool) (inG : Bool) (s5 : Value) (wr : World) : Prop :=
 (∃ v' ns' g' i' cl' bs x ns1 ps1,Psr wr B T A n c l v' ns' g' i' cl' 0 ∧ ChP w wr T v v' ∧ Pcs w.heap.size wr s5 (bs ++ [x]) ∧ (∀ p ∈ bs ++ [x],okP (ns'.length : Int) p = true) ∧ chn 2 ns1 ps1 = (x,ns') ∧ ns.length ≤ ns'.length ∧ ns'.length + 3 * bs.length + 1 + V i' ≤ ns.length + V i ∧ g ≤ g' ∧ i ≤ i' ∧
  (nx l i' = 124 ∨ (if inG then nx l i' = 41 else i' = n)) ∧ ∀ lv,lv.isEmpty = !inG → StepsE l ⟨.B,i,ns,g,cl,[],[],lv⟩ ⟨.L,i',ns1,g',cl',ps1,bs,lv⟩) ∨
 (∃ v' ns' g' i' cl' q,q ≠ 0 ∧ Psr wr B T A n c l v' ns' g' i' cl' q ∧ ChP w wr T v v' ∧ ∀ lv,lv.isEmpty = !inG → EndsE l ⟨.B,i,ns,g,cl,[],[],lv⟩ (.bad i' q))
section
variable {V : Nat → Nat} {w w' wr w3 w5 w7 : World} {B T : Nat} {A : Option Addr} {n c : Nat} {l : List UInt8} {v v' v2 v7 : Value} {ns ns2 ns1 : List Nod} {g g2 i i2 : Nat} {cl cl2 : Nat → Bool} {inG : Bool} {s5 : Value} {ps bs : List Int} {z x : Int} {e : Ending}
theorem relCA_first (hy : CBran V w B T A n c l v ns g i cl inG (.returned (.int .i64 z)) w5) (hT : T < w.heap.size) :
    RelCA V w B T A n c l v ns g i cl inG (.slice (some ⟨w5.heap.size,0,none⟩) 1 1) (w5.alloc (.cells #[.int .i64 z] 3)):=by
 rcases hy with ⟨x,v',ns',g',i',cl',ns1,ps1,e1,ok',h3,k3,hc,a1,a0,a2,a3,he,q6⟩ | ⟨x,v',ns',g',i',cl',q,hq,e1,h3,k3,q6⟩
 · obtain rfl : z = x:=by simpa using e1
   exact .inl ⟨v',ns',g',i',cl',[],z,ns1,ps1,h3.keep (below_one w5 z),k3.trans (ChP.of_below (below_one w5 z)),⟨own_one w5 _ k3.size z,by have:=k3.size;simp;omega⟩,fun p hp => by simp at hp;subst hp;exact ok',hc,a1,by simp;omega,a2,a3,he,fun lv hlv => q6 [] lv hlv⟩
 · exact .inr ⟨v',ns',g',i',cl',q,hq,h3.keep (below_one w5 z),k3.trans (ChP.of_below (below_one w5 z)),fun lv hlv => q6 [] lv hlv⟩
theorem relCA_next {w4 : World} {cl1 : Nat → Bool} {ps1 : List Int} (h2 : Psr wr B T A n c l v2 ns2 g2 i2 cl2 0) (k2 : ChP w wr T v v2) (p6 : Pcs w.heap.size wr s5 (bs ++ [x])) (q2 : ∀ p ∈ bs ++ [x],okP (ns2.length : Int) p = true) (hc : chn 2 ns1 ps1 = (x,ns2))
    (r1 : ns.length ≤ ns2.length) (r2 : ns2.length + 3 * bs.length + 1 + V i2 ≤ ns.length + V i) (r3 : g ≤ g2) (r4 : i ≤ i2) (hn : nx l i2 = 124) (hw : V (i2 + 1) + 2 ≤ V i2)
    (q6 : ∀ lv,lv.isEmpty = !inG → StepsE l ⟨.B,i,ns,g,cl,[],[],lv⟩ ⟨.L,i2,ns1,g2,cl2,ps1,bs,lv⟩) (hT : T < w.heap.size)
    (h4 : Psr w4 B T A n c l v2 ns2 g2 (i2 + 1) cl2 0) (k4 : ChP wr w4 T v2 v2) (hy : CBran V w4 B T A n c l v2 ns2 g2 (i2 + 1) cl2 inG (.returned (.int .i64 z)) w5)
    (ho : w7.ownsRow w.heap.size 3 1 v7 ((bs ++ [x]).length + 1) ((bs ++ [x]).map (Value.int .i64) ++ [.int .i64 z])) (hg : (w5.alloc (.cells #[.int .i64 z] 3)).grownBy w7 s5.ownBlock) :
    RelCA V w B T A n c l v ns g i cl inG v7 w7 ∧ leftP n T w7 < leftP n T wr:=by
 have hle:=h4.le
 have hil:=nx_lt (l:=l) (i:=i2) (by omega)
 have hstep : ∀ lv : List (Nat × List Int × List Int),stepE l ⟨.L,i2,ns1,g2,cl2,ps1,bs,lv⟩ = .go ⟨.B,i2 + 1,ns2,g2,cl2,[],bs ++ [x],lv⟩:=fun lv => by
  show stepEL l _ = _
  simp only [stepEL]
  rw [if_neg (by omega),if_pos hn]
  simp only [branE,hc]
 rcases hy with ⟨x',v',ns',g',i',cl',ns3,ps3,e1,ok',h5,k5,hc5,a1,a0,a2,a3,he,q8⟩ | ⟨x',v',ns',g',i',cl',q,hq,e1,h5,k5,q8⟩
 · obtain rfl : z = x':=by simpa using e1
   have hp6:=(((p6.chp h2 k4 hT).chp h4 k5 hT)).below (below_one w5 z)
   have h7:=(h5.keep (below_one w5 z)).grown hp6 hg hT
   refine ⟨.inl ⟨v',ns',g',i',cl',bs ++ [x],z,ns3,ps3,h7,(((k2.trans k4).trans k5).trans (ChP.of_below (below_one w5 z))).grown hg p6.lt,hp6.more ho hg.size,fun y hy => ?_,hc5,by omega,by rw [lla,lls];omega,by omega,by omega,he,fun lv hlv => ((q6 lv hlv).snoc (hstep lv)).trans (q8 (bs ++ [x]) lv hlv)⟩,by rw [h7.left,h2.left];omega⟩
   rcases List.mem_append.1 hy with hy | hy
   · exact okP_more (q2 y hy) (by omega)
   · simp only [List.mem_singleton] at hy;subst hy;exact ok'
 · have hp6:=(((p6.chp h2 k4 hT).chp h4 k5 hT)).below (below_one w5 z)
   have h7:=(h5.keep (below_one w5 z)).grown hp6 hg hT
   exact ⟨.inr ⟨v',ns',g',i',cl',q,hq,h7,(((k2.trans k4).trans k5).trans (ChP.of_below (below_one w5 z))).grown hg p6.lt,fun lv hlv => ((q6 lv hlv).snoc (hstep lv)).ends (q8 (bs ++ [x]) lv hlv)⟩,by rw [h7.left0 hq,h2.left];omega⟩
theorem calt_call (h : Psr w B T A n c l v ns g i cl 0) {W m k : Nat} {Ap : Option Addr} (hp : Pcs W w (.slice Ap m k) (bs ++ [x])) (hT : T < W) (hok : ∀ p ∈ bs ++ [x],okP (ns.length : Int) p = true) (hl : ns.length + bs.length ≤ 1000) {y : Int} {ns' : List Nod} (hc : chn 3 ns (bs ++ [x]) = (y,ns')) :
    Calls Tryz.prog 45 #[.pointer (some ⟨T,0,none⟩),.slice Ap m k] w fun e w' => ∃ v',e = .returned (.int .i64 y) ∧ Psr w' B T A n c l v' ns' g i cl 0 ∧ ChP w w' T v v':=by
 obtain ⟨h1,h2,h3,h4,h5⟩:=hp.slice'
 refine (alt_any B T 0 v ns g Ap m k w.heap.size (bs ++ [x]) w h.bldr h1 h2 h3 h4 (nlr _) (hp.apart h hT h5)).mono fun e w' ⟨v',e1,hb,hg⟩ => ?_
 rw [altR_chn (by simp) hok (by rw [lla,lls];omega),hc] at e1 hb
 exact ⟨v',e1,h.built (nlr _) hb hg,hg.chp⟩
theorem chn_ok (k : Int) {L : List Int} (hL : L ≠ []) (hok : ∀ p ∈ L,okP (ns.length : Int) p = true) : okP ((chn k ns L).2.length : Int) (chn k ns L).1 = true:=by
 cases L with
 | nil => exact absurd rfl hL
 | cons a r => rw [chn_cons];exact chnF_ok k r a ns (hok a (by simp))
end
section
variable {V : Nat → Nat} {w : World} {B T : Nat} {A : Option Addr} {n c : Nat} {l : List UInt8} {v : Value} {ns : List Nod} {g i : Nat} {cl : Nat → Bool} {inG : Bool} (h : Psr w B T A n c l v ns g i cl 0)
include h
theorem calternatives (hV : Pot l V) (hrm : ns.length + V i < 1000) (hB : ∀ k,k < n - i → CAltOK k) :
    Calls Tryz.prog 28 #[.pointer (some ⟨T,0,none⟩),.bool inG] w (CAlt V w B T A n c l v ns g i cl inG):=by
 obtain ⟨i0,hi0,hz0,hz1,hz2⟩:=info_parts ints_info
 replace hz1:=lhi hz1
 replace hz2:=lhi hz2
 have hTl:=lhi h.lt
 have hB':=lhi hB
 have hX:=lhi (cbranch_any (inG:=inG) h hV hrm hB)
 replace hV:=lhi hV
 clear h hB
 go_enter Tryz.func28,Tryz.ntmps28
 go_wp2_with (go_at_call 42;refine (hX.out).mono ?_;intro y w5 hy;obtain ⟨z,rfl,hy⟩:=hy.ret;replace hy:=lhi (relCA_first hy hTl.out))
 clear hX
 go_loopw [5] (fun a wr => RelCA V w B T A n c l v ns g i cl inG a wr) (fun _ wr => leftP n T wr)
 case atStart => exact hy.out
 case round =>
  clear hy
  rcases hrel with ⟨v2,ns2,g2,i2,cl2,bs,x,ns1,ps1,h2,k2,p2,q1,hc,q2,q3,q4,q5,he,q6⟩ | ⟨v2,ns2,g2,i2,cl2,ee,he,h2,k2,q6⟩
  · have hF:=lhi (fine_any h2)
    rw [decide_eq_true rfl] at hF
    have hnl:=h2.hn
    have hle:=h2.le
    obtain ⟨Ap,kp,rfl,-,-,-,-⟩:=p2.slice
    have hTW:=hTl.out
    by_cases hn : nx l i2 = 124
    · have hw:=hV.out.one i2 (.inr (.inr (.inr (.inr (.inr hn)))))
      have hY:=lhi (take_yes h2 ⟨#[124]⟩ (bg_nx 124 true (decide_eq_true hn)) 1 rfl (by decide))
      have hBr:=lhi (fun (w4 : World) (h4 : Psr w4 B T A n c l v2 ns2 g2 (i2 + 1) cl2 0) => cbranch_any (inG:=inG) h4 hV.out (by omega) (fun k hk => hB'.out k (by omega)))
      have hkeep:=lhi (fun (w4 : World) (h4 : Psr w4 B T A n c l v2 ns2 g2 (i2 + 1) cl2 0) (k4 : ChP wr w4 T v2 v2) (y : Ending) (w5 : World) (hy : CBran V w4 B T A n c l v2 ns2 g2 (i2 + 1) cl2 inG y w5) => show Pcs w.heap.size w5 (.slice Ap (bs ++ [x]).length kp) (bs ++ [x]) from by
       rcases hy with ⟨x,v',ns',g',i',cl',ns1,ps1,h1,h2',h3,h4',h5⟩ | ⟨x,v',ns',g',i',cl',q,h1,h2',h3,h4',h5⟩
       · exact ((p2.chp h2 k4 hTW).chp h4 h4' hTW)
       · exact ((p2.chp h2 k4 hTW).chp h4 h4' hTW))
      have hcon:=lhi (fun (w4 : World) (h4 : Psr w4 B T A n c l v2 ns2 g2 (i2 + 1) cl2 0) (k4 : ChP wr w4 T v2 v2) (z : Int) (w5 : World) (hy : CBran V w4 B T A n c l v2 ns2 g2 (i2 + 1) cl2 inG (.returned (.int .i64 z)) w5) (v7 : Value) (w7 : World)
       (ho : w7.ownsRow w.heap.size 3 1 v7 ((bs ++ [x]).length + 1) ((bs ++ [x]).map (Value.int .i64) ++ [.int .i64 z])) (hg : (w5.alloc (.cells #[.int .i64 z] 3)).grownBy w7 (Value.slice Ap (bs ++ [x]).length kp).ownBlock) => relCA_next (cl1:=cl) h2 k2 p2 q1 hc q2 q3 q4 q5 hn hw q6 hTW h4 k4 hy ho hg)
      have hM : (bs ++ [x]).length ≤ 1000:=by rw [lla,lls];omega
      clear h2 k2 p2 q1 q2 q3 q4 q5 q6 hc he hn hw
      generalize bs ++ [x] = L at *
      go_wp2_with (first
       | (go_at_call 39;refine (hF.out).mono ?_;rintro y w9 ⟨rfl,rfl⟩)
       | (go_at_call 43;refine (hY.out).mono ?_;rintro y w4 ⟨rfl,-,h4,k4⟩;replace h4:=lhi h4;replace k4:=lhi k4)
       | (go_at_call 42;refine (hBr.out _ h4.out).mono ?_;intro y w5 hy;obtain ⟨z,rfl,hy⟩:=hy.ret;have hq:=lhi (hcon.out _ h4.out k4.out _ _ hy);have hpc5:=lhi (hkeep.out _ h4.out k4.out _ _ hy);replace hy:=lhi hy)
       | (at_builtin;refine wpList_append_at rfl _ _ 53 rfl w.heap.size 3 i0 (.int .i64 0) 1 8 Tryz.underlying53 hi0 hz0 hz1.out hz2.out rfl (by decide) (.slice Ap L.length kp) L.length (L.map (Value.int .i64)) rfl (own_below hpc5.out.own (below_one w5 z)) (some ⟨w5.heap.size,0,none⟩) 1 1 [.int .i64 z] rfl rfl (src_int w5 z) (one_int z) (by unfold maxLen;omega) (by omega) (by have:=hpc5.out.base;simp;omega) ?_;intro v7 w7 hown7 hg7 _;replace hown7:=lhi hown7;replace hg7:=lhi hg7))
      have hfin:=lhi (hq.out _ _ hown7.out hg7.out)
      go_roundw
      case rel => exact hfin.out.1
      case measure => exact hfin.out.2
    · have hN:=lhi (take_no h2 ⟨#[124]⟩ (bg_nx 124 false (decide_eq_false hn)))
      have hF2:=lhi (fun (w3 : World) (hb : Below wr.heap.size wr w3) => fine_any (h2.keep hb))
      rw [decide_eq_true rfl] at hF2
      have hL : bs ++ [x] ≠ []:=by simp
      obtain ⟨y,ns',hch⟩ : ∃ y ns',chn 3 ns2 (bs ++ [x]) = (y,ns'):=⟨_,_,rfl⟩
      have hok:=chn_ok 3 hL q1
      have hlen:=chn_len 3 ns2 hL
      rw [hch] at hok hlen
      rw [lla,lls] at hlen
      simp only at hok hlen
      obtain ⟨yn,rfl⟩ : ∃ yn : Nat,y = (yn : Int):=⟨y.toNat,by have:=okP_pos hok;omega⟩
      have hC:=lhi (fun (w3 : World) (hb : Below wr.heap.size wr w3) => calt_call (h2.keep hb) (p2.below hb) hTW q1 (by omega) hch)
      have he2:=he.resolve_left hn
      have hfin:=lhi (fun (w6 : World) (v6 : Value) (h6 : Psr w6 B T A n c l v6 ns' g2 i2 cl2 0) (k6 : ChP wr w6 T v2 v6) => show CAlt V w B T A n c l v ns g i cl inG (.returned (.int .i64 (yn : Int))) w6 from
       .inl ⟨(yn : Int),v6,ns',g2,i2,cl2,ns1,ps1,bs,rfl,hok,h6,k2.trans k6,by omega,by omega,q4,q5,he2,fun lv hlv => ⟨by simp only [altsE,branE,hc];exact hch,q6 lv hlv⟩⟩)
      clear h2 k2 p2 q1 q2 q3 q4 q5 q6 hc he hn hok hlen hch he2 hL
      generalize (bs ++ [x]).length = M at *
      go_wp2_with (first
       | (go_at_call 39;(with_reducible refine (hF.out).mono ?_);rintro y w9 ⟨rfl,rfl⟩)
       | (go_at_call 39;refine (hF2.out _ hb3.out).mono ?_;rintro y w8 ⟨rfl,rfl⟩)
       | (go_at_call 43;refine (hN.out).mono ?_;rintro y w3 ⟨rfl,hb3⟩;have hbd:=lhi hb3.drew;replace hb3:=lhi hb3)
       | (go_region_with (first
           | (go_at_call 45;refine (hC.out _ hbd.out).mono ?_;rintro y w7 ⟨v7,rfl,h7,k7⟩;replace h7:=lhi h7;replace k7:=lhi ((ChP.of_below hbd.out).trans k7))
           | (go_at_call 44;refine (put_yes T yn _).mono ?_;rintro y w8 ⟨rfl,rfl⟩))))
      all_goals
       go_ret
       exact hfin.out _ _ h7.out k7.out
  · have hF:=lhi (fine_any h2)
    rw [decide_eq_false he] at hF
    have hfin:=lhi (show CAlt V w B T A n c l v ns g i cl inG (.returned (.int .i64 (-1))) wr from .inr ⟨-1,v2,ns2,g2,i2,cl2,ee,he,rfl,h2,k2,q6⟩)
    clear h2 k2 q6 he
    go_wp2_with (go_at_call 39;refine (hF.out).mono ?_;rintro y w9 ⟨rfl,rfl⟩)
    go_ret
    exact hfin.out
end
theorem calt_all : ∀ k,CAltOK k:=by
 intro k
 induction k using Nat.strongRecOn with
 | ind k ih =>
  intro V inG w B T A n c l v ns g i cl h hV hrm hk
  exact calternatives h hV hrm fun k' hk' => ih k' (by omega)
end Go.Proofs.YtonjnagcdnmcpaaGreatDoor
