/- Contracts and plain facts: M39. -/
import Derived.Test.YtonjnagcdnmcpaaGreatDoorM38
import Derived.Test.YtonjnagcdnmcpaaGreatDoorM37
import Derived.Test.YtonjnagcdnmcpaaGreatDoorM41
set_option linter.unusedVariables false
set_option linter.unusedSimpArgs false
set_option maxRecDepth 100000
set_option maxHeartbeats 32000000
namespace Go.Proofs.YtonjnagcdnmcpaaGreatDoor
open Go.RowKit
def RelRb (w : World) (B T : Nat) (A : Option Addr) (n c : Nat) (l : List UInt8) (v : Value) (ns : List Nod) (g i : Nat) (cl : Nat → Bool) (inG : Bool) (pv nv : Value) (wr : World) : Prop :=
 (∃ k v' ns' g' i' cl' ps,nv = .int .i64 ((k : Nat) : Int) ∧ k ≤ i' ∧ Rdr wr B T A n c l v' ns' g' i' cl' 0 ∧ ChP w wr T v v' ∧ Pcs w.heap.size wr pv ps ∧ (∀ p ∈ ps,okP (ns'.length : Int) p = true) ∧ ns.length ≤ ns'.length ∧ g ≤ g' ∧ i ≤ i' ∧ ps.length ≤ i' ∧ (k ≠ 0 → bg [92,123] (l.drop i') = false) ∧
  ∀ lv,lv.isEmpty = !inG → Steps l ⟨.B,i,ns,g,cl,[],lv⟩ ⟨.L,i',ns',g',cl',ps,lv⟩) ∨
 (∃ k v' ns' g' i' cl' q,nv = .int .i64 ((k : Nat) : Int) ∧ q ≠ 0 ∧ Rdr wr B T A n c l v' ns' g' i' cl' q ∧ ChP w wr T v v' ∧ ∀ lv,lv.isEmpty = !inG → Ends l ⟨.B,i,ns,g,cl,[],lv⟩ (.bad i' q))
section
variable {w : World} {B T : Nat} {A : Option Addr} {n c : Nat} {l : List UInt8} {v : Value} {ns : List Nod} {g i : Nat} {cl : Nat → Bool} {inG : Bool}
theorem bol_next {w1 w4 w7 : World} {v7 : Value} {z : Int} (h1 : Rdr w1 B T A n c l v ns g i cl 0) (hb1 : Below w.heap.size w w1) (hT : T < w.heap.size) (hb : bg [94] (l.drop i) = true)
    (hy : RPut w1 B T A n c l v ns g i cl bolN (.returned (.int .i64 z)) w4)
    (ho : w7.ownsRow w.heap.size 3 1 v7 (0 + 1) ([] ++ [.int .i64 z])) (hg : (w4.alloc (.cells #[.int .i64 z] 3)).grownBy w7 (Value.slice none 0 0).ownBlock) :
    w7.cell? ⟨T,1,none⟩ = some (.int .i64 (i : Int)) ∧ w7.frozen? ⟨T,1,none⟩ = false ∧ RelRb w B T A n c l v ns g i cl inG v7 (.int .i64 0) (w7.setCell ⟨T,1,none⟩ (.int .i64 ((i : Int) + 1))):=by
 have hi1 : i + 1 ≤ n:=by have:=bg_room hb;simp at this;have:=h1.hn;omega
 rcases hy with ⟨hl,v4,ez,h4,k4⟩ | ⟨hl,v4,ez,h4,k4⟩
 · injection ez with ez
   injection ez with _ ez
   subst ez
   have hsz : w.heap.size ≤ (w4.alloc (.cells #[.int .i64 (ns.length : Int)] 3)).heap.size:=by have:=k4.size;have:=hb1.size;simp;omega
   have hP4 : Pcs w.heap.size (w4.alloc (.cells #[.int .i64 (ns.length : Int)] 3)) (.slice none 0 0) []:=⟨World.ownsRow_nil _ _ _ _,hsz⟩
   have h7:=(h4.keep (below_one w4 _)).grown hP4 hg hT
   refine ⟨h7.c1,h7.thawed 1,.inl ⟨0,v4,_,g,i + 1,cl,[(ns.length : Int)],rfl,Nat.zero_le _,h7.goto hi1 (by omega),?_,?_,fun p hp => ?_,by simp,nlr _,by omega,by simp,fun e => absurd rfl e,fun lv hlv => .one (step_bol hb hl)⟩⟩
   · exact ((((ChP.of_below hb1).trans k4).trans (ChP.of_below (below_one w4 _))).grown hg (fun k e => by cases e)).trans (ChP.store _ T 1 _ v4)
   · exact (hP4.more ho hg.size).chr h7 (ChP.store _ T 1 _ v4) hT
   · simp only [List.mem_singleton] at hp
     subst hp
     rw [lla];exact okP_last _
 · injection ez with ez
   injection ez with _ ez
   subst ez
   have hsz : w.heap.size ≤ (w4.alloc (.cells #[.int .i64 (-1)] 3)).heap.size:=by have:=k4.size;have:=hb1.size;simp;omega
   have hP4 : Pcs w.heap.size (w4.alloc (.cells #[.int .i64 (-1)] 3)) (.slice none 0 0) []:=⟨World.ownsRow_nil _ _ _ _,hsz⟩
   have h7:=(h4.keep (below_one w4 _)).grown hP4 hg hT
   refine ⟨h7.c1,h7.thawed 1,.inr ⟨0,v4,ns,g,i + 1,cl,8,rfl,by decide,h7.goto hi1 (by omega),?_,fun lv hlv => .bad (step_bol_full hb hl)⟩⟩
   exact ((((ChP.of_below hb1).trans k4).trans (ChP.of_below (below_one w4 _))).grown hg (fun k e => by cases e)).trans (ChP.store _ T 1 _ v4)
variable (h : Rdr w B T A n c l v ns g i cl 0)
include h
theorem rbranch_any (hB : ∀ k,k < n - i → RBrOK k) :
    Calls Tryz.prog 33 #[.pointer (some ⟨T,0,none⟩),.bool inG] w (RBranch w B T A n c l v ns g i cl inG):=by
 obtain ⟨i0,hi0,hz0,hz1,hz2⟩:=info_parts ints_info
 replace hz1:=lhi hz1
 replace hz2:=lhi hz2
 have hns : n ≤ 1000000:=h.txt.2.2.2.1
 have hh:=lhi h
 have hTl:=lhi h.lt
 have hB':=lhi hB
 have hii : (i : Int) ≤ 1000000:=by have:=h.le;omega
 clear hB
 have hN0:=lhi (next_at h 0 0 rfl (by decide))
 rw [Nat.add_zero] at hN0
 have hq94 : (nx l i == 94) = bg [94] (l.drop i):=by
  rw [Bool.eq_iff_iff,beq_iff_eq]
  exact nx_bg l i 94
 have hU:=lhi (fun w1 (hb : Below w.heap.size w w1) => rput_any (h.keep hb) bolN (fits_plain 7 (.inr (.inl rfl)) _ _))
 rw [show nodV bolN = _ from nodV_z 7 0 0 0 0 0] at hU
 clear h
 have hst2:=lhi (fun (hb : bg [94] (l.drop i) = false) (lv : List (Nat × List Int)) => step_plain (ns:=ns) (g:=g) (cl:=cl) (ps:=[]) (lv:=lv) hb)
 have hbol:=lhi (fun (hb : bg [94] (l.drop i) = true) (w1 w4 w7 : World) (v7 : Value) (z : Int) (hb1 : Below w.heap.size w w1) hy ho hg => bol_next (inG:=inG) (hh.out.keep hb1) hb1 hTl.out hb (w4:=w4) (w7:=w7) (v7:=v7) (z:=z) hy ho hg)
 generalize bg [94] (l.drop i) = r at hq94 hst2 hbol
 generalize nx l i = d0 at *
 go_enter Tryz.func33,Tryz.ntmps33
 go_upto_if 9 with (go_at_call 51;refine (hN0.out).mono ?_;rintro e w1 ⟨rfl,hb1⟩;replace hb1:=lhi hb1)
 clear hN0
 go_cut [5] from 10 to 23 (fun s5 wx => RelRb w B T A n c l v ns g i cl inG s5 (.int .i64 0) wx)
 case first =>
  clear hB'
  cases r with
  | false =>
   go_wp2
   go_meet
   exact .inl ⟨0,v,ns,g,i,cl,[],rfl,Nat.zero_le _,hh.out.keep hb1.out,ChP.of_below hb1.out,(Pcs.nil_ w).below hb1.out,fun p hp => (by cases hp),nlr _,nlr _,nlr _,by simp,fun e => absurd rfl e,fun lv hlv => .one (hst2.out (by first | exact rfl | exact trivial) lv)⟩
  | true =>
   have hbol2:=lhi (hbol.out (by first | exact rfl | exact trivial))
   clear hbol hst2 hh
   go_wp2_with (first
    | (go_at_call 30;refine (hU.out _ hb1.out).mono ?_;intro x w4 hy;obtain ⟨z,rfl,hy⟩:=hy.ret;have hsz4 : w.heap.size ≤ w4.heap.size:=(by rcases hy with ⟨-,v',-,-,k⟩ | ⟨-,v',-,-,k⟩ <;> exact Nat.le_trans hb1.out.size k.size);replace hy:=lhi hy)
    | (at_builtin;refine wpList_append_at rfl _ _ 53 rfl w.heap.size 3 i0 (.int .i64 0) 1 8 Tryz.underlying53 hi0 hz0 hz1.out hz2.out rfl (by decide) (.slice none 0 0) 0 [] rfl (World.ownsRow_nil _ _ _ _) (some ⟨w4.heap.size,0,none⟩) 1 1 [.int .i64 z] rfl rfl (src_int w4 z) (one_int z) (by unfold maxLen;omega) (by omega) (by simp;omega) ?_;intro v7 w7 hown7 hg7 _;have hx:=hbol2.out _ _ _ _ _ hb1.out hy.out hown7 hg7;have c1:=hx.1;have t1:=hx.2.1;have hfin:=lhi hx.2.2;clear hx hown7 hg7))
   go_meet
   exact hfin.out
 case rest =>
  clear hst2 hbol hU hq94
  replace hcut:=lhi hcut
  go_wp2
  go_loopw [5,6] (fun a k wr => RelRb w B T A n c l v ns g i cl inG a k wr) (fun _ _ wr => leftR n T wr)
  case atStart => exact hcut.out
  case round =>
   clear hcut hb1 hh
   rcases hrel with ⟨k,v2,ns2,g2,i2,cl2,ps2,rfl,hk,h2,k2,p2,q1,q2,q3,q4,q5,q7,q6⟩ | ⟨k,v2,ns2,g2,i2,cl2,ee,rfl,he,h2,k2,q6⟩
   · have c2:=h2.c2
     have hle2:=h2.le
     obtain ⟨Ap,kp,rfl,-,-,-,-⟩:=p2.slice
     have hP:=lhi (fun w3 (hb : Below wr.heap.size wr w3) => h2.keep hb)
     have hN0:=lhi (fun w3 (hb : Below wr.heap.size wr w3) => next_at (h2.keep hb) 0 0 rfl (by decide))
     have hN1:=lhi (fun w3 (hb : Below wr.heap.size wr w3) => next_at (h2.keep hb) 1 1 rfl (by decide))
     rw [Nat.add_zero] at hN0
     have hx0:=lhi (show Below wr.heap.size wr wr from Below.refl _ _)
     have hTW:=hTl.out
     have hnl:=h2.hn
     have hk2 : (k : Int) ≤ 1000000:=by omega
     have hpl : ps2.length ≤ 2000000:=by omega
     have hCat:=lhi (fun w4 (hb : Below wr.heap.size wr w4) => rcat_any (h2.keep hb) (p2.below hb) hTW q1 hpl)
     have hcat:=lhi (fun (hends : if inG then bg [92,41] (l.drop i2) = true else i2 = n) (w4 w' : World) (hb : Below wr.heap.size wr w4) (z : Int) (hy : RCat w4 B T A n c l v2 ns2 g2 i2 cl2 ps2 (.returned (.int .i64 z)) w') => show RBranch w B T A n c l v ns g i cl inG (.returned (.int .i64 z)) w' from by
      have hends2 : if inG then bg [92,41] (l.drop i2) = true else i2 = l.length:=by cases inG <;> simp at hends ⊢ <;> omega
      rcases hy with ⟨x,v',ns',ez,hc,ok',hln,h3,k3⟩ | ⟨x,v',ns',ez,hc,h3,k3⟩
      · exact .inl ⟨x,v',ns',g2,i2,cl2,ns2,ps2,ez,ok',h3,(k2.trans (ChP.of_below hb)).trans k3,by omega,q3,q4,hc,hends,q6⟩
      · exact .inr ⟨x,v',ns',g2,i2,cl2,8,by decide,ez,h3,(k2.trans (ChP.of_below hb)).trans k3,fun lv hlv => (q6 lv hlv).ends (.bad (step_cat_full (g:=g2) (cl:=cl2) hlv hends2 hc))⟩)
     have hbad:=lhi (fun (hst : ∀ (lv : List (Nat × List Int)),lv.isEmpty = !inG → step l ⟨.L,i2,ns2,g2,cl2,ps2,lv⟩ = .bad i2 14) (w4 : World) (hb : Below wr.heap.size wr w4) => show RBranch w B T A n c l v ns g i cl inG (.returned (.int .i64 0)) (w4.setCell ⟨T,2,none⟩ (.int .i64 14)) from
      .inr ⟨0,v2,ns2,g2,i2,cl2,14,by decide,rfl,(h2.keep hb).erred 14 (z:=14) rfl,(k2.trans (ChP.of_below hb)).trans (ChP.store w4 T 2 (.int .i64 14) v2),fun lv hlv => (q6 lv hlv).ends (.bad (hst lv hlv))⟩)
     by_cases hin : i2 = n
     · have hz : nx l i2 = -1:=nx_none (by omega)
       rw [hz] at hN0
       cases inG with
       | true =>
        have hst:=lhi (hbad.out (fun lv hlv => step_open_end hlv (by omega)))
        clear h2 k2 p2 q1 q2 q3 q4 q5 q6 q7 hN1 hCat hcat hbad hnl hz hk hle2 hpl
        replace hin:=lhi hin
        go_wp2_with (first
         | (go_at_call 51;(with_reducible show Calls _ _ _ wr _);refine (hN0.out _ hx0.out).mono ?_;rintro y w1 ⟨rfl,hb1⟩;have c2b:=(hP.out _ hb1).c2;replace hb1:=lhi hb1)
         | (go_at_call 51;(with_reducible show Calls _ _ _ w1 _);refine (hN0.out _ hb1.out).mono ?_;rintro y w3 ⟨rfl,hb3⟩;replace hb3:=hb1.out.trans (hb3.mono hb1.out.size);have c2c:=(hP.out _ hb3).c2;have t2c:=(hP.out _ hb3).thawed 2;replace hb3:=lhi hb3))
        go_ret
        exact hst.out _ hb3.out
       | false =>
        have hfin:=lhi (hcat.out (by simp;exact hin))
        clear h2 k2 p2 q1 q2 q3 q4 q5 q6 q7 hN1 hcat hbad hnl hz hk hle2 hpl
        replace hin:=lhi hin
        go_wp2_with (first
         | (go_at_call 51;(with_reducible show Calls _ _ _ wr _);refine (hN0.out _ hx0.out).mono ?_;rintro y w1 ⟨rfl,hb1⟩;have c2b:=(hP.out _ hb1).c2;replace hb1:=lhi hb1)
         | (go_at_call 51;(with_reducible show Calls _ _ _ w1 _);refine (hN0.out _ hb1.out).mono ?_;rintro y w3 ⟨rfl,hb3⟩;replace hb3:=lhi (hb1.out.trans (hb3.mono hb1.out.size)))
         | (go_at_call 53;refine (hCat.out _ hb3.out).mono ?_;intro y w5 hy;obtain ⟨z,rfl,hy⟩:=hy.ret;replace hy:=lhi (hfin.out _ _ hb3.out _ hy)))
        go_ret
        exact hy.out
     · have hlt : i2 < n:=by omega
       cases hbb : bg [92,41] (l.drop i2) with
       | true =>
        obtain ⟨r2,hr2⟩:=drop_two hbb
        rw [show nx l i2 = 92 from by have:=nx_drop l i2 0;rw [Nat.add_zero] at this;rw [this,hr2];rfl] at hN0
        rw [show nx l (i2 + 1) = 41 from by rw [nx_drop,hr2];rfl] at hN1
        cases inG with
        | true =>
         have hfin:=lhi (hcat.out (by simp;exact hbb))
         clear h2 k2 p2 q1 q2 q3 q4 q5 q6 q7 hcat hbad hnl hr2 hbb hk hle2 hpl hin
         go_wp2_with (first
          | (go_at_call 51;(with_reducible show Calls _ _ _ wr _);refine (hN0.out _ hx0.out).mono ?_;rintro y w1 ⟨rfl,hb1⟩;replace hb1:=lhi hb1)
          | (go_at_call 51;(with_reducible show Calls _ _ _ w1 _);refine (hN0.out _ hb1.out).mono ?_;rintro y w3 ⟨rfl,hb3⟩;replace hb3:=lhi (hb1.out.trans (hb3.mono hb1.out.size)))
          | (go_at_call 51;(with_reducible show Calls _ _ _ w3 _);refine (hN1.out _ hb3.out).mono ?_;rintro y w4 ⟨rfl,hb4⟩;replace hb4:=hb3.out.trans (hb4.mono hb3.out.size);have c2b:=(hP.out _ hb4).c2;replace hb4:=lhi hb4)
          | (go_at_call 51;(with_reducible show Calls _ _ _ w4 _);refine (hN0.out _ hb4.out).mono ?_;rintro y w5 ⟨rfl,hb5⟩;replace hb5:=lhi (hb4.out.trans (hb5.mono hb4.out.size)))
          | (go_at_call 53;refine (hCat.out _ hb5.out).mono ?_;intro y w6 hy;obtain ⟨z,rfl,hy⟩:=hy.ret;replace hy:=lhi (hfin.out _ _ hb5.out _ hy)))
         go_ret
         exact hy.out
        | false =>
         have hst:=lhi (hbad.out (fun lv hlv => by rw [step_atom (inG:=false) (by omega) (fun e => by cases e) hlv,atom_esc hr2];rfl))
         clear h2 k2 p2 q1 q2 q3 q4 q5 q6 q7 hCat hcat hbad hnl hr2 hbb hk hle2 hpl hin
         go_wp2_with (first
          | (go_at_call 51;(with_reducible show Calls _ _ _ wr _);refine (hN0.out _ hx0.out).mono ?_;rintro y w1 ⟨rfl,hb1⟩;replace hb1:=lhi hb1)
          | (go_at_call 51;(with_reducible show Calls _ _ _ w1 _);refine (hN0.out _ hb1.out).mono ?_;rintro y w3 ⟨rfl,hb3⟩;replace hb3:=lhi (hb1.out.trans (hb3.mono hb1.out.size)))
          | (go_at_call 51;(with_reducible show Calls _ _ _ w3 _);refine (hN1.out _ hb3.out).mono ?_;rintro y w4 ⟨rfl,hb4⟩;replace hb4:=hb3.out.trans (hb4.mono hb3.out.size);have c2b:=(hP.out _ hb4).c2;replace hb4:=lhi hb4)
          | (go_at_call 51;(with_reducible show Calls _ _ _ w4 _);refine (hN0.out _ hb4.out).mono ?_;rintro y w5 ⟨rfl,hb5⟩;replace hb5:=hb4.out.trans (hb5.mono hb4.out.size);have c2c:=(hP.out _ hb5).c2;have t2c:=(hP.out _ hb5).thawed 2;replace hb5:=lhi hb5))
         go_ret
         exact hst.out _ hb5.out
       | false =>
        obtain ⟨x,hx⟩ : ∃ x,l[i2]? = some x:=⟨_,List.getElem?_eq_getElem (by omega)⟩
        have hkeep:=lhi (fun (w3 : World) (hb : Below wr.heap.size wr w3) (y : Ending) (w5 : World) (hy : RNode true w3 B T A n c l v2 ns2 g2 i2 cl2 inG y w5) => show Pcs w.heap.size w5 (.slice Ap ps2.length kp) ps2 from by
         rcases hy with ⟨x,v',ns',g',i',cl',h1,h2',h3,h4,h5⟩ | ⟨x,v',ns',g',i',cl',q,h1,h2',h3,h4,h5⟩
         · exact (p2.below hb).chr (h2.keep hb) h4 hTW
         · exact (p2.below hb).chr (h2.keep hb) h4 hTW)
        have hcon:=lhi (fun (w3 : World) (hb : Below wr.heap.size wr w3) (z : Int) (w5 : World) (hy : RNode true w3 B T A n c l v2 ns2 g2 i2 cl2 inG (.returned (.int .i64 z)) w5) (v7 : Value) (w7 : World) (hpc : Pcs w.heap.size w5 (.slice Ap ps2.length kp) ps2)
         (ho : w7.ownsRow w.heap.size 3 1 v7 (ps2.length + 1) (ps2.map (Value.int .i64) ++ [.int .i64 z])) (hg : (w5.alloc (.cells #[.int .i64 z] 3)).grownBy w7 (Value.slice Ap ps2.length kp).ownBlock) => show RelRb w B T A n c l v ns g i cl inG v7 (.int .i64 ((k : Int) + 1)) w7 ∧ leftR n T w7 < leftR n T wr from by
         have hpa:=hpc.below (below_one w5 z)
         rcases hy with ⟨x,v',ns',g',i',cl',e1,ok',h3,h4,r1,r2,r3,r5,r4⟩ | ⟨x,v',ns',g',i',cl',q,hq,e1,h3,h4,r4⟩
         · obtain rfl : z = x:=by simpa using e1
           have h7:=(h3.keep (below_one w5 z)).grown hpa hg hTW
           refine ⟨.inl ⟨k + 1,v',ns',g',i',cl',ps2 ++ [z],by rw [Int.natCast_add];rfl,by omega,h7,(((k2.trans (ChP.of_below hb)).trans h4).trans (ChP.of_below (below_one w5 z))).grown hg hpc.lt,hpa.more ho hg.size,fun y hy => ?_,by omega,by omega,by omega,by rw [lla,lls];omega,fun _ => r5 rfl,fun lv hlv => (q6 lv hlv).trans (r4 ps2 lv hlv)⟩,by rw [h7.left,h2.left];omega⟩
           rcases List.mem_append.1 hy with hy | hy
           · exact okP_more (q1 y hy) (by omega)
           · simp only [List.mem_singleton] at hy;subst hy;exact ok'
         · have h7:=(h3.keep (below_one w5 z)).grown hpa hg hTW
           exact ⟨.inr ⟨k + 1,v',ns',g',i',cl',q,by rw [Int.natCast_add];rfl,hq,h7,(((k2.trans (ChP.of_below hb)).trans h4).trans (ChP.of_below (below_one w5 z))).grown hg hpc.lt,fun lv hlv => (q6 lv hlv).ends (r4 ps2 lv hlv)⟩,by rw [h7.left0 hq,h2.left];omega⟩)
        have hPc:=lhi (fun (first : Bool) (hf : first = false → k ≠ 0) (w3 : World) (hb : Below wr.heap.size wr w3) => rpiece_any (inG:=inG) (first:=first) (h2.keep hb) hlt hbb (fun e => q7 (hf e)) (fun k hk => hB'.out k (by omega)))
        have hbase:=p2.base
        rw [nx_some hx] at hN0
        have hge : (0 : Int) ≤ (x.toNat : Int):=by omega
        have hway : Hid (((x.toNat : Int) == 92) = false ∨ ((x.toNat : Int) = 92 ∧ (nx l (i2 + 1) == 41) = false)):=by
         apply lhi
         by_cases hx9 : x = 92
         · subst hx9
           refine .inr ⟨rfl,?_⟩
           rw [bef];intro e
           have hd:=List.drop_eq_getElem_cons (show i2 < l.length by omega)
           have hx2:=(List.getElem?_eq_some_iff.1 hx).2
           rw [hx2] at hd
           rw [hd,bg_hd,(nx_bg l (i2 + 1) 41).1 e] at hbb
           cases hbb
         · exact .inl (u8_ne hx9)
        have hfst : Hid (k = 0 ∨ ((k : Int) == 0) = false):=lhi (by
         by_cases hk0 : k = 0
         · exact .inl hk0
         · exact .inr (by rw [bef];omega))
        generalize nx l (i2 + 1) = z1 at *
        clear h2 k2 p2 q1 q2 q3 q4 q6 q7 hCat hcat hbad hnl hbb hk hle2 hin hx hlt
        generalize (x.toNat : Int) = d at *
        have hpl2 : ps2.length ≤ 2000000:=hpl
        clear q5
        rcases hfst.out with rfl | hk0
        · replace hPc:=lhi (hPc.out true (fun e => by cases e))
          rcases hway.out with hw | ⟨rfl,hw⟩
          all_goals
           go_wp2_with (first
            | (go_at_call 51;(with_reducible show Calls _ _ _ wr _);refine (hN0.out _ hx0.out).mono ?_;rintro y w1 ⟨rfl,hb1⟩;replace hb1:=lhi hb1)
            | (go_at_call 51;(with_reducible show Calls _ _ _ w1 _);refine (hN0.out _ hb1.out).mono ?_;rintro y w3 ⟨rfl,hb3⟩;replace hb3:=hb1.out.trans (hb3.mono hb1.out.size);have hbL:=lhi hb3;replace hb3:=lhi hb3)
            | (go_at_call 51;(with_reducible show Calls _ _ _ w3 _);refine (hN1.out _ hb3.out).mono ?_;rintro y w4 ⟨rfl,hb4⟩;replace hb4:=hb3.out.trans (hb4.mono hb3.out.size);replace hbL:=lhi hb4;clear hb4)
            | (go_at_call 54;refine (hPc.out _ hbL.out).mono ?_;intro y w5 hy;obtain ⟨z,rfl,hy⟩:=hy.ret;have hq:=lhi (hcon.out _ hbL.out _ _ hy);replace hy:=lhi hy;have hpc5:=lhi (hkeep.out _ hbL.out _ _ hy.out))
            | (at_builtin;refine wpList_append_at rfl _ _ 53 rfl w.heap.size 3 i0 (.int .i64 0) 1 8 Tryz.underlying53 hi0 hz0 hz1.out hz2.out rfl (by decide) (.slice Ap ps2.length kp) ps2.length (ps2.map (Value.int .i64)) rfl (own_below hpc5.out.own (below_one w5 z)) (some ⟨w5.heap.size,0,none⟩) 1 1 [.int .i64 z] rfl rfl (src_int w5 z) (one_int z) (by unfold maxLen;omega) (by omega) (by have:=hpc5.out.base;simp;omega) ?_;intro v7 w7 hown7 hg7 _;replace hown7:=lhi hown7;replace hg7:=lhi hg7))
           have hfin:=lhi (hq.out _ _ hpc5.out hown7.out hg7.out)
           go_roundw
           case rel => exact hfin.out.1
           case measure => exact hfin.out.2
        · replace hPc:=lhi (hPc.out false (fun _ e => by rw [e] at hk0;cases hk0))
          rcases hway.out with hw | ⟨rfl,hw⟩
          all_goals
           go_wp2_with (first
            | (go_at_call 51;(with_reducible show Calls _ _ _ wr _);refine (hN0.out _ hx0.out).mono ?_;rintro y w1 ⟨rfl,hb1⟩;replace hb1:=lhi hb1)
            | (go_at_call 51;(with_reducible show Calls _ _ _ w1 _);refine (hN0.out _ hb1.out).mono ?_;rintro y w3 ⟨rfl,hb3⟩;replace hb3:=hb1.out.trans (hb3.mono hb1.out.size);have hbL:=lhi hb3;replace hb3:=lhi hb3)
            | (go_at_call 51;(with_reducible show Calls _ _ _ w3 _);refine (hN1.out _ hb3.out).mono ?_;rintro y w4 ⟨rfl,hb4⟩;replace hb4:=hb3.out.trans (hb4.mono hb3.out.size);replace hbL:=lhi hb4;clear hb4)
            | (go_at_call 54;refine (hPc.out _ hbL.out).mono ?_;intro y w5 hy;obtain ⟨z,rfl,hy⟩:=hy.ret;have hq:=lhi (hcon.out _ hbL.out _ _ hy);replace hy:=lhi hy;have hpc5:=lhi (hkeep.out _ hbL.out _ _ hy.out))
            | (at_builtin;refine wpList_append_at rfl _ _ 53 rfl w.heap.size 3 i0 (.int .i64 0) 1 8 Tryz.underlying53 hi0 hz0 hz1.out hz2.out rfl (by decide) (.slice Ap ps2.length kp) ps2.length (ps2.map (Value.int .i64)) rfl (own_below hpc5.out.own (below_one w5 z)) (some ⟨w5.heap.size,0,none⟩) 1 1 [.int .i64 z] rfl rfl (src_int w5 z) (one_int z) (by unfold maxLen;omega) (by omega) (by have:=hpc5.out.base;simp;omega) ?_;intro v7 w7 hown7 hg7 _;replace hown7:=lhi hown7;replace hg7:=lhi hg7))
           have hfin:=lhi (hq.out _ _ hpc5.out hown7.out hg7.out)
           go_roundw
           case rel => exact hfin.out.1
           case measure => exact hfin.out.2
   · have c2:=h2.c2
     have heb : ((ee : Int) == 0) = false:=by rw [bef];omega
     have heb2 : ((ee : Int) != 0) = true:=by rw [bne_iff_ne];omega
     have hfin:=lhi (show RBranch w B T A n c l v ns g i cl inG (.returned (.int .i64 0)) wr from .inr ⟨0,v2,ns2,g2,i2,cl2,ee,he,rfl,h2,k2,q6⟩)
     clear h2 k2 q6 he
     go_wp2
     go_ret
     exact hfin.out
end
theorem rbr_all : ∀ k,RBrOK k:=by
 intro k
 induction k using Nat.strongRecOn with
 | ind k ih =>
  intro inG w B T A n c l v ns g i cl h hk
  exact rbranch_any h fun k' hk' => ih k' (by omega)
section
variable {w : World} {B T : Nat} {A : Option Addr} {n c : Nat} {l : List UInt8} {v : Value} {ns : List Nod} {g i : Nat} {cl : Nat → Bool} {e : Nat}
theorem rtold_bad (h : Rdr w B T A n c l v ns g i cl e) (he : e ≠ 0) :
    Calls Tryz.prog 31 #[.pointer (some ⟨T,0,none⟩)] w fun x w' => x = .returned (.tuple #[.agg #[.slice none 0 0,.int .i64 0],.int .i64 (i : Int),.int .i64 (e : Int)]) ∧ Below w.heap.size w w':=by
 have hb0 : Below w.heap.size w (w.alloc (.cells #[.slice none 0 0,.int .i64 0] 26)):=(Below.refl _ _).alloc (nlr _) _
 have h0:=h.keep hb0
 have c1:=h0.c1
 have c2:=h0.c2
 have hTl:=h.lt
 have hTn : T ≠ w.heap.size:=by omega
 have heb : ((e : Int) != 0) = true:=by rw [bne_iff_ne];omega
 have hR:=lhi (held_new w 26 #[.slice none 0 0,.int .i64 0])
 have hT2:=lhi (show (w.alloc (.cells #[.slice none 0 0,.int .i64 0] 26)).drew.cell? ⟨T,1,none⟩ = some (.int .i64 (i : Int)) ∧ (w.alloc (.cells #[.slice none 0 0,.int .i64 0] 26)).drew.cell? ⟨T,2,none⟩ = some (.int .i64 (e : Int)) from ⟨c1,c2⟩)
 replace hb0:=lhi hb0
 clear h h0 he
 go_enter Tryz.func31,Tryz.ntmps31
 go_wp2
 go_region_held3 (fun w' => w'.cell? ⟨T,1,none⟩ = some (.int .i64 (i : Int)) ∧ w'.cell? ⟨T,2,none⟩ = some (.int .i64 (e : Int)))
  (first | with_reducible exact hT2.out | with_reducible exact ⟨cell_far2 hT2.out.1 hTn,cell_far2 hT2.out.2 hTn⟩ | go_keep)
  (fail)
 all_goals
  go_wp2
  exact bodyPost_ret (v:=.tuple #[.agg #[.slice none 0 0,.int .i64 0],.int .i64 (i : Int),.int .i64 (e : Int)]) (results_cell_three Tryz.results31 _ _ w.heap.size 26 #[.slice none 0 0,.int .i64 0] (0,0) _ rfl rfl rfl ((held_new w 26 _)) Tryz.underlying26 rfl (by kernel_rfl)) rfl ⟨rfl,hb0.out.drew⟩
theorem rtold_ok (h : Rdr w B T A n c l v ns g i cl 0) :
    Calls Tryz.prog 31 #[.pointer (some ⟨T,0,none⟩)] w fun x w' => x = .returned (.tuple #[.agg #[v,.int .i64 (g : Int)],.int .i64 0,.int .i64 0]) ∧ Below w.heap.size w w':=by
 have hb0 : Below w.heap.size w (w.alloc (.cells #[.slice none 0 0,.int .i64 0] 26)):=(Below.refl _ _).alloc (nlr _) _
 have h0:=h.keep hb0
 have c2:=h0.c2
 have c3:=h0.c3
 have c4:=h0.c4
 have hTl:=h.lt
 have hTn : T ≠ w.heap.size:=by omega
 obtain ⟨Av,cap,rfl⟩:=own_slice h.own
 have hT2:=lhi (show (w.alloc (.cells #[.slice none 0 0,.int .i64 0] 26)).drew.cell? ⟨T,3,none⟩ = some (.slice Av ns.length cap) ∧ (w.alloc (.cells #[.slice none 0 0,.int .i64 0] 26)).drew.cell? ⟨T,4,none⟩ = some (.int .i64 (g : Int)) from ⟨c3,c4⟩)
 have h1:=h.keep (show Below w.heap.size w (w.alloc (.cells #[.slice Av ns.length cap,.int .i64 (g : Int)] 26)) from (Below.refl _ _).alloc (nlr _) _)
 have hT3:=lhi (show (w.alloc (.cells #[.slice Av ns.length cap,.int .i64 (g : Int)] 26)).drew.cell? ⟨T,3,none⟩ = some (.slice Av ns.length cap) ∧ (w.alloc (.cells #[.slice Av ns.length cap,.int .i64 (g : Int)] 26)).drew.cell? ⟨T,4,none⟩ = some (.int .i64 (g : Int)) from ⟨h1.c3,h1.c4⟩)
 clear h1
 replace hb0:=lhi hb0
 have hal:=lhi (fun o => show Below w.heap.size w (w.alloc o) from (Below.refl _ _).alloc (nlr _) _)
 clear h h0
 generalize ns.length = N at *
 go_enter Tryz.func31,Tryz.ntmps31
 go_wp2
 go_region_held3 (fun w' => w'.cell? ⟨T,3,none⟩ = some (.slice Av N cap) ∧ w'.cell? ⟨T,4,none⟩ = some (.int .i64 (g : Int)))
  (first | with_reducible exact hT2.out | with_reducible exact hT3.out | with_reducible exact ⟨cell_far2 hT2.out.1 hTn,cell_far2 hT2.out.2 hTn⟩ | go_keep)
  (fail)
 all_goals
  go_wp2
  exact bodyPost_ret (v:=.tuple #[.agg #[.slice Av N cap,.int .i64 (g : Int)],.int .i64 0,.int .i64 0]) (results_cell_three Tryz.results31 _ _ w.heap.size 26 #[.slice Av N cap,.int .i64 (g : Int)] (0,0) _ rfl rfl rfl ((held_new w 26 _)) Tryz.underlying26 rfl (by kernel_rfl)) rfl ⟨rfl,(hal.out _).drew⟩
end
theorem rdr_new {w w1 : World} {A : Option Addr} {n c : Nat} {l : List UInt8} (h : Inp w A n c l) (hb : Below w.heap.size w w1) :
    Rdr (w1.alloc (.cells (rdrC (.slice none 0 0) 0 A n c 0 noCl 0) 70)) w.heap.size w1.heap.size A n c l (.slice none 0 0) [] 0 0 noCl 0 :=
 ⟨held_new _ _ _,World.ownsRow_nil _ _ _ _,by simp,by simp,hb.size,Nat.zero_le _,fun q h => by simp [noCl] at h,(txt_of h).below (hb.trans ((Below.refl _ _).alloc hb.size _))⟩
theorem rbasic_any {A : Option Addr} {n c : Nat} {l : List UInt8} {w : World} (h : Inp w A n c l) :
    Calls Tryz.prog 18 #[.slice A n c] w (PRes w l):=by
 have hb1 : Below w.heap.size w (w.alloc (.cells #[.slice none 0 0,.int .i64 0] 26)):=(Below.refl _ _).alloc (nlr _) _
 have hP:=rdr_new h hb1
 rw [show (w.alloc (.cells #[.slice none 0 0,.int .i64 0] 26)).heap.size = w.heap.size + 1 from sizeA' _ _] at hP
 have hBr:=lhi (rbr_all n false _ _ _ A n c l _ [] 0 0 noCl hP (by omega))
 have hR:=lhi (((held_new w 26 #[.slice none 0 0,.int .i64 0]).alloc (.cells (rdrC (.slice none 0 0) 0 A n c 0 noCl 0) 70)))
 have hb2:=lhi (hb1.alloc hb1.size (.cells (rdrC (.slice none 0 0) 0 A n c 0 noCl 0) 70))
 have hn:=lhi h.1
 clear h hP hb1
 unfold rdrC noCl at hBr hR hb2
 go_enter Tryz.func18,Tryz.ntmps18
 go_wp2_with (first
  | (go_at_call 33;refine (hBr.out).mono ?_;intro y w3 hy;rcases hy with ⟨x,v2,ns2,g2,i2,cl2,ns1,ps2,rfl,ok2,h2,k2,q1,q2,q3,q4,q5,q6⟩ | ⟨x,v2,ns2,g2,i2,cl2,e2,he2,rfl,h2,k2,q6⟩
     all_goals first
      | (have hst:=q6 [] rfl
         have hir:=(hst.inv inv0).right q4
         have hen:=lhi (hst.ends (.fin (show step l ⟨.L,i2,ns1,g2,cl2,ps2,[]⟩ = .fin ns2 g2 by
          show stepL l ⟨.L,i2,ns1,g2,cl2,ps2,[]⟩ = _
          have hq5 : i2 = n:=by simpa using q5
          simp only [stepL]
          rw [if_pos (by rw [hq5,hn.out];exact nlr _),q4])))
         have hr:=lhi hir.1
         have hT:=lhi (rtold_ok h2)
         have hR3:=lhi (hR.out.chp k2 (by omega) (by intro e;cases e))
         have hb3:=lhi (hb2.out.trans (k2.below (by have:=hb2.out.size;exact this) (by omega) (fun k e => by cases e)))
         have how:=lhi h2.own
         obtain ⟨Av,cap,rfl⟩:=own_slice h2.own
         clear h2 k2 q1 q2 q3 q4 q5 q6 ok2 hst hir)
      | (have hT:=lhi (rtold_bad h2 he2)
         have hR3:=lhi (hR.out.chp k2 (by omega) (by intro e;cases e))
         have hb3:=lhi (hb2.out.trans (k2.below (by have:=hb2.out.size;exact this) (by omega) (fun k e => by cases e)))
         have hen:=lhi (q6 [] rfl)
         replace he2:=lhi he2
         clear h2 k2 q6))
  | (go_at_call 31;refine (hT.out).mono ?_;rintro y w4 ⟨rfl,hb4⟩;have hR4:=lhi (hR3.out.keep hb4);have z:=hR4.out.at_ (i:=0) rfl;have z1:=hR4.out.at_ (i:=1) rfl;have y0:=hR4.out.thawed 0;have y1:=hR4.out.thawed 1;have hb5:=lhi hb4;replace hb4:=lhi (hb3.out.trans (hb4.mono hb3.out.size))))
 · have hown : ((w4.setCell ⟨w.heap.size,0,none⟩ (.slice Av ns2.length cap)).setCell ⟨w.heap.size,1,none⟩ (.int .i64 (g2 : Int))).ownsRow w.heap.size 43 10 (.slice Av ns2.length cap) ns2.length (nodsL ns2) :=
     own_far (hR4.out.put 0 (.slice Av ns2.length cap)) (by decide) (own_far hR4.out (by decide) (own_below how.out hb5.out) 0 _) 1 _
   exact bodyPost_ret (v:=.tuple #[.agg #[.slice Av ns2.length cap,.int .i64 (g2 : Int)],.int .i64 0,.int .i64 0]) (results_cell_three Tryz.results18 _ _ w.heap.size 26 #[.slice Av ns2.length cap,.int .i64 (g2 : Int)] (0,0) _ rfl rfl rfl ((hR4.out.put 0 _).put 1 _) Tryz.underlying26 rfl (by kernel_rfl)) rfl
    (.inl ⟨_,ns2,g2,rfl,hen.out,hr.out,hown,(hb4.out.setCell (p:=⟨w.heap.size,0,none⟩) (nlr _) _).setCell (p:=⟨w.heap.size,1,none⟩) (nlr _) _⟩)
 · exact bodyPost_ret (v:=.tuple #[.agg #[.slice none 0 0,.int .i64 0],.int .i64 (i2 : Int),.int .i64 (e2 : Int)]) (results_cell_three Tryz.results18 _ _ w.heap.size 26 #[.slice none 0 0,.int .i64 0] (0,0) _ rfl rfl rfl ((hR4.out.put 0 _).put 1 _) Tryz.underlying26 rfl (by kernel_rfl)) rfl
     (.inr ⟨i2,e2,he2.out,rfl,hen.out,(hb4.out.setCell (p:=⟨w.heap.size,0,none⟩) (nlr _) _).setCell (p:=⟨w.heap.size,1,none⟩) (nlr _) _⟩)
theorem rext_nil {A : Option Addr} {n c : Nat} {l : List UInt8} {w : World} (h : Inp w A n c l) (h0 : n = 0) :
    Calls Tryz.prog 17 #[.slice A n c] w (PResE w l):=by
 have hb1 : Below w.heap.size w (w.alloc (.cells #[.slice none 0 0,.int .i64 0] 26)):=(Below.refl _ _).alloc (nlr _) _
 have hP:=rdr_new h hb1
 rw [show (w.alloc (.cells #[.slice none 0 0,.int .i64 0] 26)).heap.size = w.heap.size + 1 from sizeA' _ _] at hP
 have hl0 : l = []:=List.length_eq_zero_iff.1 (by have:=h.1;omega)
 have hU:=lhi (rput_any hP emptyN (fits_plain 0 (.inl rfl) _ _))
 rw [show nodV emptyN = _ from nodV_z 0 0 0 0 0 0] at hU
 have hR:=lhi (((held_new w 26 #[.slice none 0 0,.int .i64 0]).alloc (.cells (rdrC (.slice none 0 0) 0 A n c 0 noCl 0) 70)))
 have hb2:=lhi (hb1.alloc hb1.size (.cells (rdrC (.slice none 0 0) 0 A n c 0 noCl 0) 70))
 have hn:=lhi h.1
 have hfin:=lhi (show EndX l (.fin [emptyN] 0) from .inl ⟨hl0,rfl⟩)
 clear h hP hb1 hl0 hn
 unfold rdrC noCl at hU hR hb2
 subst h0
 go_enter Tryz.func17,Tryz.ntmps17
 go_wp2_with (first
  | (go_at_call 30;refine (hU.out).mono ?_;intro y w3 hy
     rcases hy with ⟨_,v2,rfl,h2,k2⟩ | ⟨hf,_⟩
     rotate_left
     exact absurd (by decide) hf
     have hT:=lhi (rtold_ok h2)
     have hR3:=lhi (hR.out.chp k2 (by omega) (by intro e;cases e))
     have hb3:=lhi (hb2.out.trans (k2.below (by have:=hb2.out.size;exact this) (by omega) (fun k e => by cases e)))
     have how:=lhi h2.own
     obtain ⟨Av,cap,rfl⟩:=own_slice h2.own
     clear h2 k2)
  | (go_at_call 31;refine (hT.out).mono ?_;rintro y w4 ⟨rfl,hb4⟩;have hR4:=lhi (hR3.out.keep hb4);have z:=hR4.out.at_ (i:=0) rfl;have z1:=hR4.out.at_ (i:=1) rfl;have y0:=hR4.out.thawed 0;have y1:=hR4.out.thawed 1;have hb5:=lhi hb4;replace hb4:=lhi (hb3.out.trans (hb4.mono hb3.out.size))))
 have hown : ((w4.setCell ⟨w.heap.size,0,none⟩ (.slice Av 1 cap)).setCell ⟨w.heap.size,1,none⟩ (.int .i64 0)).ownsRow w.heap.size 43 10 (.slice Av 1 cap) 1 (nodsL [emptyN]) :=
  own_far (hR4.out.put 0 (.slice Av 1 cap)) (by decide) (own_far hR4.out (by decide) (own_below how.out hb5.out) 0 _) 1 _
 exact bodyPost_ret (v:=.tuple #[.agg #[.slice Av 1 cap,.int .i64 0],.int .i64 0,.int .i64 0]) (results_cell_three Tryz.results17 _ _ w.heap.size 26 #[.slice Av 1 cap,.int .i64 0] (0,0) _ rfl rfl rfl ((hR4.out.put 0 _).put 1 _) Tryz.underlying26 rfl (by kernel_rfl)) rfl
     (.inl ⟨_,[emptyN],0,rfl,hfin.out,right_empty,hown,(hb4.out.setCell (p:=⟨w.heap.size,0,none⟩) (nlr _) _).setCell (p:=⟨w.heap.size,1,none⟩) (nlr _) _⟩)
theorem rext_pot {A : Option Addr} {n c : Nat} {l : List UInt8} {w : World} (h : Inp w A n c l) {V : Nat → Nat} (hV : Pot l V) (hV0 : V 0 < 1000) :
    Calls Tryz.prog 17 #[.slice A n c] w (PResE w l):=by
 by_cases h0 : n = 0
 · exact rext_nil h h0
 have hb1 : Below w.heap.size w (w.alloc (.cells #[.slice none 0 0,.int .i64 0] 26)):=(Below.refl _ _).alloc (nlr _) _
 have hP:=rdr_new h hb1
 rw [show (w.alloc (.cells #[.slice none 0 0,.int .i64 0] 26)).heap.size = w.heap.size + 1 from sizeA' _ _] at hP
 have hl0 : l ≠ []:=fun e => h0 (by have:=h.1;rw [e] at this;simpa using this)
 have hBr:=lhi (ealt_top hP hV hV0)
 have hR:=lhi (((held_new w 26 #[.slice none 0 0,.int .i64 0]).alloc (.cells (rdrC (.slice none 0 0) 0 A n c 0 noCl 0) 70)))
 have hb2:=lhi (hb1.alloc hb1.size (.cells (rdrC (.slice none 0 0) 0 A n c 0 noCl 0) 70))
 have hn:=lhi h.1
 have hnz : ((n : Int) == 0) = false:=by rw [bef];omega
 replace hl0:=lhi hl0
 clear h hP hb1 h0 hV hV0
 unfold rdrC noCl at hBr hR hb2
 go_enter Tryz.func17,Tryz.ntmps17
 go_wp2_with (first
  | (go_at_call 32;refine (hBr.out).mono ?_;intro y w3 hy;rcases hy with ⟨x,v2,ns2,g2,i2,cl2,ns1,ps1,bs1,rfl,ok2,h2,k2,q1,q2,q3,q4,q5,q6⟩ | ⟨x,v2,ns2,g2,i2,cl2,e2,he2,rfl,h2,k2,q6⟩
     all_goals first
      | (obtain ⟨hal,hst⟩:=q6 [] rfl
         have hir:=(hst.inv invE0).right hal h2.len
         have hen:=lhi (show EndX l (.fin ns2 g2) from .inr ⟨hl0.out,hst.ends (.fin (by
          show stepEL l _ = _
          have hq5 : i2 = n:=by simpa using q5
          simp only [stepEL]
          rw [if_pos (by rw [hq5,hn.out];exact nlr _),hal]))⟩)
         have hr:=lhi hir.1
         have hT:=lhi (rtold_ok h2)
         have hR3:=lhi (hR.out.chp k2 (by omega) (by intro e;cases e))
         have hb3:=lhi (hb2.out.trans (k2.below (by have:=hb2.out.size;exact this) (by omega) (fun k e => by cases e)))
         have how:=lhi h2.own
         obtain ⟨Av,cap,rfl⟩:=own_slice h2.own
         clear h2 k2 q1 q2 q3 q4 q5 q6 ok2 hst hir hal)
      | (have hT:=lhi (rtold_bad h2 he2)
         have hR3:=lhi (hR.out.chp k2 (by omega) (by intro e;cases e))
         have hb3:=lhi (hb2.out.trans (k2.below (by have:=hb2.out.size;exact this) (by omega) (fun k e => by cases e)))
         have hen:=lhi (show EndX l (.bad i2 e2) from .inr ⟨hl0.out,q6 [] rfl⟩)
         replace he2:=lhi he2
         clear h2 k2 q6))
  | (go_at_call 31;refine (hT.out).mono ?_;rintro y w4 ⟨rfl,hb4⟩;have hR4:=lhi (hR3.out.keep hb4);have z:=hR4.out.at_ (i:=0) rfl;have z1:=hR4.out.at_ (i:=1) rfl;have y0:=hR4.out.thawed 0;have y1:=hR4.out.thawed 1;have hb5:=lhi hb4;replace hb4:=lhi (hb3.out.trans (hb4.mono hb3.out.size))))
 · have hown : ((w4.setCell ⟨w.heap.size,0,none⟩ (.slice Av ns2.length cap)).setCell ⟨w.heap.size,1,none⟩ (.int .i64 (g2 : Int))).ownsRow w.heap.size 43 10 (.slice Av ns2.length cap) ns2.length (nodsL ns2) :=
     own_far (hR4.out.put 0 (.slice Av ns2.length cap)) (by decide) (own_far hR4.out (by decide) (own_below how.out hb5.out) 0 _) 1 _
   exact bodyPost_ret (v:=.tuple #[.agg #[.slice Av ns2.length cap,.int .i64 (g2 : Int)],.int .i64 0,.int .i64 0]) (results_cell_three Tryz.results17 _ _ w.heap.size 26 #[.slice Av ns2.length cap,.int .i64 (g2 : Int)] (0,0) _ rfl rfl rfl ((hR4.out.put 0 _).put 1 _) Tryz.underlying26 rfl (by kernel_rfl)) rfl
    (.inl ⟨_,ns2,g2,rfl,hen.out,hr.out,hown,(hb4.out.setCell (p:=⟨w.heap.size,0,none⟩) (nlr _) _).setCell (p:=⟨w.heap.size,1,none⟩) (nlr _) _⟩)
 · exact bodyPost_ret (v:=.tuple #[.agg #[.slice none 0 0,.int .i64 0],.int .i64 (i2 : Int),.int .i64 (e2 : Int)]) (results_cell_three Tryz.results17 _ _ w.heap.size 26 #[.slice none 0 0,.int .i64 0] (0,0) _ rfl rfl rfl ((hR4.out.put 0 _).put 1 _) Tryz.underlying26 rfl (by kernel_rfl)) rfl
     (.inr ⟨i2,e2,he2.out,rfl,hen.out,(hb4.out.setCell (p:=⟨w.heap.size,0,none⟩) (nlr _) _).setCell (p:=⟨w.heap.size,1,none⟩) (nlr _) _⟩)
end Go.Proofs.YtonjnagcdnmcpaaGreatDoor
