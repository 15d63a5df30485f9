/- Contracts and plain facts: M25. -/
import Derived.Test.YtonjnagcdnmcpaaGreatDoorM24
import Derived.Test.YtonjnagcdnmcpaaGreatDoorM23
set_option linter.unusedVariables false
set_option linter.unusedSimpArgs false
set_option maxRecDepth 100000
set_option maxHeartbeats 32000000
namespace Go.Proofs.YtonjnagcdnmcpaaGreatDoor
open Go.RowKit
def RelBr (w : World) (B T : Nat) (A : Option Addr) (n c : Nat) (l : List UInt8) (v : Value) (ns : List Nod) (g i : Nat) (cl : Nat → Bool) (inG : Bool) (pv : Value) (wr : World) : Prop :=
 (∃ v' ns' g' i' cl' ps,Psr wr B T A n c l v' ns' g' i' cl' 0 ∧ ChP w wr T v v' ∧ Pcs w.heap.size wr pv ps ∧ (∀ p ∈ ps,okP (ns'.length : Int) p = true) ∧ ns.length ≤ ns'.length ∧ g ≤ g' ∧ i ≤ i' ∧ ps.length ≤ i' ∧
  ∀ lv,lv.isEmpty = !inG → Steps l ⟨.B,i,ns,g,cl,[],lv⟩ ⟨.L,i',ns',g',cl',ps,lv⟩) ∨
 (∃ v' ns' g' i' cl' q,q ≠ 0 ∧ Psr wr B T A n c l v' ns' g' i' cl' q ∧ ChP w wr T v v' ∧ ∀ lv,lv.isEmpty = !inG → Ends l ⟨.B,i,ns,g,cl,[],lv⟩ (.bad i' q))
section
variable {t : List UInt8} {i : Nat} {ns : List Nod} {g : Nat} {cl : Nat → Bool} {ps : List Int} {lv : List (Nat × List Int)} {x : Int}
theorem step_bol (hb : bg [94] (t.drop i) = true) (hl : ns.length < 1000) : step t ⟨.B,i,ns,g,cl,ps,lv⟩ = .go ⟨.L,i + 1,ns ++ [bolN],g,cl,[(ns.length : Int)],lv⟩:=by
 show stepB t _ = _
 simp only [stepB,putS]
 rw [if_pos hb,if_pos hl]
theorem step_bol_full (hb : bg [94] (t.drop i) = true) (hl : ¬ ns.length < 1000) : step t ⟨.B,i,ns,g,cl,ps,lv⟩ = .bad (i + 1) 8:=by
 show stepB t _ = _
 simp only [stepB,putS]
 rw [if_pos hb,if_neg hl]
theorem step_plain (hb : bg [94] (t.drop i) = false) : step t ⟨.B,i,ns,g,cl,ps,lv⟩ = .go ⟨.L,i,ns,g,cl,[],lv⟩:=by
 show stepB t _ = _
 simp only [stepB,putS]
 rw [if_neg (by rw [hb];decide)]
theorem step_open_end (hlv : lv.isEmpty = false) (hi : i = t.length) : step t ⟨.L,i,ns,g,cl,ps,lv⟩ = .bad i 14:=by
 cases lv with
 | nil => cases hlv
 | cons a lv =>
  obtain ⟨q,p⟩:=a
  show stepL t ⟨.L,i,ns,g,cl,ps,(q,p) :: lv⟩ = _
  simp only [stepL]
  rw [if_pos (by omega)]
theorem step_cat_full {inG : Bool} (hlv : lv.isEmpty = !inG) (he : if inG then bg [92,41] (t.drop i) = true else i = t.length) (hc : catS ns ps = none) : step t ⟨.L,i,ns,g,cl,ps,lv⟩ = .bad i 8:=by
 cases lv with
 | nil =>
  obtain rfl : inG = false:=by cases inG <;> simp at hlv ⊢
  simp at he
  show stepL t ⟨.L,i,ns,g,cl,ps,[]⟩ = _
  simp only [stepL]
  rw [if_pos (by omega),hc]
 | cons a lv =>
  obtain ⟨q,p⟩:=a
  obtain rfl : inG = true:=by cases inG <;> simp at hlv ⊢
  simp at he
  have:=bg_room he
  simp at this
  show stepL t ⟨.L,i,ns,g,cl,ps,(q,p) :: lv⟩ = _
  simp only [stepL]
  rw [if_neg (by omega),if_pos he,hc]
end
section
variable {w : World} {B T : Nat} {A : Option Addr} {n c : Nat} {l : List UInt8} {v : Value} {ns : List Nod} {g i : Nat} {cl : Nat → Bool} {inG : Bool}
theorem new_ints (w : World) (z : Int) : ∀ (j : Nat) (u : Value),[Value.int .i64 z][j]? = some u → (w.alloc (.cells #[.int .i64 z] 3)).cell? ((⟨w.heap.size,0,none⟩ : Addr).add j) = some u:=World.news_of_block (heap_alloc_new w _)
theorem relBr_bol {w1 w8 w6 : World} {z : Int} {v6 : Value} (h1 : ChP w w1 T v v) (hT : T < w.heap.size) (hs : w.heap.size ≤ w1.heap.size) (hb : bg [94] (l.drop i) = true)
    (hy : YPut w1 B T A n c l v ns g cl (i + 1) bolN (.returned (.int .i64 z)) w8) (ho : w6.ownsRow w.heap.size 3 1 v6 1 [.int .i64 z]) (hg : (w8.alloc (.cells #[.int .i64 z] 3)).grownBy w6 none) :
    RelBr w B T A n c l v ns g i cl inG v6 w6:=by
 have hP : ∀ w8 : World,w1.heap.size ≤ w8.heap.size → Pcs w.heap.size (w8.alloc (.cells #[.int .i64 z] 3)) (.slice none 0 0) []:=fun w8 h8 => ⟨World.ownsRow_nil _ _ _ _,by simp;omega⟩
 rcases hy with ⟨hl,v',e1,h3,h4⟩ | ⟨hl,v',e1,h3,h4⟩
 · obtain rfl : z = (ns.length : Int):=by simpa using e1
   refine .inl ⟨v',_,g,i + 1,cl,[(ns.length : Int)],(h3.keep (below_one w8 _)).grown (hP w8 h4.size) hg hT,((h1.trans h4).trans (ChP.of_below (below_one w8 _))).grown (pv:=.slice none 0 0) hg (fun k e => by cases e),(hP w8 h4.size).more ho hg.size,fun p hp => ?_,by simp,nlr _,by omega,by simp,fun lv hlv => .one (step_bol hb hl)⟩
   simp only [List.mem_singleton] at hp
   subst hp
   rw [lla];exact okP_last _
 · exact .inr ⟨v',_,_,_,_,_,by decide,(h3.keep (below_one w8 _)).grown (hP w8 h4.size) hg hT,((h1.trans h4).trans (ChP.of_below (below_one w8 _))).grown (pv:=.slice none 0 0) hg (fun k e => by cases e),fun lv hlv => .bad (step_bol_full hb hl)⟩
variable (h : Psr w B T A n c l v ns g i cl 0)
include h
theorem branch_any (hB : ∀ k,k < n - i → BrOK k) :
    Calls Tryz.prog 29 #[.pointer (some ⟨T,0,none⟩),.bool inG] w (YBranch w B T A n c l v ns g i cl inG):=by
 obtain ⟨i0,hi0,hz0,hz1,hz2⟩:=info_parts ints_info
 replace hz1:=lhi hz1
 replace hz2:=lhi hz2
 have hns : n ≤ 1000000:=h.txt.2.2.2.1
 have hTl:=lhi h.lt
 have hB':=lhi hB
 have hpl:=lhi h.le
 have hbB:=lhi h.bhs
 clear hB
 generalize hbr : bg [94] (l.drop i) = r
 have hX:=lhi (take_any h ⟨#[94]⟩ r hbr 1 rfl (by decide))
 replace hbr:=lhi hbr
 clear h
 go_enter Tryz.func29,Tryz.ntmps29
 go_upto_if 9 with (go_at_call 43;refine (hX.out).mono ?_;rintro e w1 ⟨rfl,hrm,h1,k1⟩;replace h1:=lhi h1;replace k1:=lhi k1;replace hrm:=lhi hrm)
 clear hX
 go_cut [5] from 10 to 21 (fun s5 wx => RelBr w B T A n c l v ns g i cl inG s5 wx)
 case first =>
  clear hB'
  cases r with
  | false =>
   go_wp2
   go_meet
   exact .inl ⟨v,ns,g,i,cl,[],h1.out,k1.out,⟨World.ownsRow_nil _ _ _ _,k1.out.size⟩,fun p hp => (by cases hp),nlr _,nlr _,nlr _,by simp,fun lv hlv => .one (step_plain hbr.out)⟩
  | true =>
   have hi1:=hrm.out (by first | exact rfl | exact trivial)
   have h1d:=lhi (show Psr w1.drew B T A n c l v ns g (i + 1) cl 0 from h1.out.keep (Below.refl _ _).drew)
   have k1d:=lhi (k1.out.trans (ChP.of_below (Below.refl _ _).drew))
   have hBo:=lhi (bol_any B T 0 v ns g _ h1d.out.bldr)
   have hpo:=lhi (fun (y : Ending) (w5 : World) => put_of h1d.out (fits_plain 7 (.inr (.inl rfl)) _ _) (x:=y) (w2:=w5))
   have hsz : w.heap.size ≤ w1.drew.heap.size:=k1d.out.size
   clear h1 k1 hrm
   go_wp2
   go_region_law (first
    | (refine step_append_lies _ (by rfl) _ _ 53 (by rfl) w.heap.size 3 i0 (.int .i64 0) 1 8 Tryz.underlying53 hi0 hz0 hz1.out hz2.out rfl (by decide) (.slice none 0 0) 0 [] (by rfl) (World.ownsRow_nil _ _ _ _) ⟨w8.heap.size,0,none⟩ 1 1 [.int .i64 z] (by rfl) rfl (new_ints w8 z) (one_int z) (by omega) (by unfold maxLen;omega) (by omega) (by simp;omega) (w8.heap.size + 1) (by simp) ?_;intro g6 c6 w6 hown6 hg6 hb6 hg6lt
       replace hown6:=lhi hown6
       replace hg6:=lhi hg6)
    | (go_simp;go_wp2_with (first
        | (go_at_call 46;refine (hBo.out).mono ?_;intro x w4 hx0;obtain ⟨z,rfl,hx⟩:=hpo.out _ _ hx0;clear hx0;replace hx:=lhi hx)
        | (go_at_call 44;refine (hx.out).mono ?_;intro x w8 hy;obtain ⟨z,rfl,hy⟩:=hy.ret;have hs8 : w.heap.size ≤ w8.heap.size:=Nat.le_trans hsz hy.size;replace hy:=lhi hy))))
   all_goals
    go_wp2
    go_meet
    exact relBr_bol k1d.out hTl.out hsz hbr.out hy.out hown6.out hg6.out
 case rest =>
  clear hbr h1 hrm
  replace hcut:=lhi hcut
  go_wp2
  go_loopw [5] (fun a wr => RelBr w B T A n c l v ns g i cl inG a wr) (fun _ wr => leftP n T wr)
  case atStart => exact hcut.out
  case round =>
   clear hcut k1
   rcases hrel with ⟨v2,ns2,g2,i2,cl2,ps2,h2,k2,p2,q1,q2,q3,q4,q5,q6⟩ | ⟨v2,ns2,g2,i2,cl2,ee,he,h2,k2,q6⟩
   · have hF:=lhi (fine_any h2)
     rw [decide_eq_true rfl] at hF
     have hle2:=h2.le
     obtain ⟨Ap,kp,rfl,-,-,-,-⟩:=p2.slice
     have hP:=lhi (fun w3 (hb : Below wr.heap.size wr w3) => h2.keep hb)
     have hEn:=lhi (ends_any h2)
     have hTW:=hTl.out
     have hkeep:=lhi (fun (w3 : World) (hb : Below wr.heap.size wr w3) (y : Ending) (w5 : World) (hy : YNode true w3 B T A n c l v2 ns2 g2 i2 cl2 inG y w5) => show Pcs w.heap.size w5 (.slice Ap ps2.length kp) ps2 from by
      rcases hy with ⟨x,v',ns',g',i',cl',h1,h2',h3,h4,h5⟩ | ⟨v',ns',g',i',cl',q,h1,h2',h3,h4,h5⟩
      · exact (p2.below hb).chp (h2.keep hb) h4 hTW
      · exact (p2.below hb).chp (h2.keep hb) h4 hTW)
     have hcon:=lhi (fun (w3 : World) (hb : Below wr.heap.size wr w3) (z : Int) (w5 : World) (hy : YNode true w3 B T A n c l v2 ns2 g2 i2 cl2 inG (.returned (.int .i64 z)) w5) (v7 : Value) (w7 : World) (hpc : Pcs w.heap.size w5 (.slice Ap ps2.length kp) ps2)
      (ho : w7.ownsRow w.heap.size 3 1 v7 (ps2.length + 1) (ps2.map (Value.int .i64) ++ [.int .i64 z])) (hg : (w5.alloc (.cells #[.int .i64 z] 3)).grownBy w7 (Value.slice Ap ps2.length kp).ownBlock) => show RelBr w B T A n c l v ns g i cl inG v7 w7 ∧ leftP n T w7 < leftP n T wr from by
      have hpa:=hpc.below (below_one w5 z)
      rcases hy with ⟨x,v',ns',g',i',cl',e1,ok',h3,h4,r1,r2,r3,r4⟩ | ⟨v',ns',g',i',cl',q,hq,e1,h3,h4,r4⟩
      · obtain rfl : z = x:=by simpa using e1
        have h7:=(h3.keep (below_one w5 z)).grown hpa hg hTW
        refine ⟨.inl ⟨v',ns',g',i',cl',ps2 ++ [z],h7,(((k2.trans (ChP.of_below hb)).trans h4).trans (ChP.of_below (below_one w5 z))).grown hg hpc.lt,hpa.more ho hg.size,fun y hy => ?_,by omega,by omega,by omega,by rw [lla,lls];omega,fun lv hlv => (q6 lv hlv).trans (r4 ps2 lv hlv)⟩,by rw [h7.left,h2.left];omega⟩
        rcases List.mem_append.1 hy with hy | hy
        · exact okP_more (q1 y hy) (by omega)
        · simp only [List.mem_singleton] at hy;subst hy;exact ok'
      · have h7:=(h3.keep (below_one w5 z)).grown hpa hg hTW
        exact ⟨.inr ⟨v',ns',g',i',cl',q,hq,h7,(((k2.trans (ChP.of_below hb)).trans h4).trans (ChP.of_below (below_one w5 z))).grown hg hpc.lt,fun lv hlv => (q6 lv hlv).ends (r4 ps2 lv hlv)⟩,by rw [h7.left0 hq,h2.left];omega⟩)
     have hPc:=lhi (fun (hi : i2 < n) (hc : inG = true → bg [92,41] (l.drop i2) = false) (w3 : World) (hb : Below wr.heap.size wr w3) => piece_any (inG:=inG) (h2.keep hb) hi hc (fun k hk => hB'.out k (by omega)))
     have hbase:=p2.base
     have q3':=q3
     have q4':=q4
     have hnl:=h2.hn
     by_cases hin : i2 = n
     · rw [decide_eq_true hin] at hEn
       cases inG with
       | true =>
        have hst:=lhi (fun (lv : List (Nat × List Int)) (hlv : lv.isEmpty = !true) => (q6 lv hlv).ends (.bad (step_open_end (g:=g2) (cl:=cl2) (ns:=ns2) (ps:=ps2) hlv (by omega))))
        replace k2:=lhi k2
        have hC:=lhi (fun w4 hb4 => abranch_open (hP.out w4 hb4) hin Ap ps2.length kp)
        replace hin:=lhi hin
        clear h2 p2 q1 q2 q6 hPc hcon hkeep hnl
        go_wp2_with (first
         | (go_at_call 39;refine (hF.out).mono ?_;rintro y w9 ⟨rfl,rfl⟩)
         | (go_at_call 25;refine (hEn.out).mono ?_;rintro y w3 ⟨rfl,hb3⟩;replace hb3:=lhi hb3)
         | (go_at_call 49;refine (hC.out _ hb3.out).mono ?_;rintro y w5 ⟨v5,ns5,g5,cl5,rfl,h5,k5⟩;replace h5:=lhi h5;replace k5:=lhi ((k2.out.trans (ChP.of_below hb3.out)).trans k5)))
        go_ret
        exact .inr ⟨v5,ns5,g5,i2,cl5,14,by decide,rfl,h5.out,k5.out,hst.out⟩
       | false =>
        have hends : if false then bg [92,41] (l.drop i2) = true else i2 = l.length:=by simp;omega
        have hends2:=lhi (show if (false : Bool) then bg [92,41] (l.drop i2) = true else i2 = n by simp;exact hin)
        replace hin:=lhi hin
        replace hnl:=lhi hnl
        cases hcs : catS ns2 ps2 with
        | none =>
         have hC:=lhi (fun w4 hb4 => abranch_none (hP.out w4 hb4) (p2.below hb4) hTW q1 hcs false (fun e => by cases e))
         have hst:=lhi (fun (lv : List (Nat × List Int)) (hlv : lv.isEmpty = !false) => (q6 lv hlv).ends (.bad (step_cat_full (g:=g2) (cl:=cl2) hlv hends hcs)))
         replace k2:=lhi k2
         clear h2 p2 q1 q2 q3 q4 q6 hPc hcon hkeep hcs hends
         go_wp2_with (first
          | (go_at_call 39;refine (hF.out).mono ?_;rintro y w9 ⟨rfl,rfl⟩)
          | (go_at_call 25;refine (hEn.out).mono ?_;rintro y w3 ⟨rfl,hb3⟩;replace hb3:=lhi hb3)
          | (go_at_call 49;refine (hC.out _ hb3.out).mono ?_;rintro y w5 ⟨v5,ns5,g5,cl5,rfl,h5,k5⟩;replace h5:=lhi h5;replace k5:=lhi ((k2.out.trans (ChP.of_below hb3.out)).trans k5)))
         go_ret
         exact .inr ⟨v5,ns5,g5,i2,cl5,8,by decide,rfl,h5.out,k5.out,hst.out⟩
        | some rr =>
         obtain ⟨x,ns'⟩:=rr
         have hup:=catS_up q1 hcs
         have hC:=lhi (fun w4 hb4 => abranch_some (hP.out w4 hb4) (p2.below hb4) hTW q1 hcs false (fun e => by cases e))
         have hst:=lhi (show ns.length ≤ ns'.length ∧ okP (ns'.length : Int) x = true from ⟨by omega,hup.2.1⟩)
         replace q6:=lhi q6
         replace hcs:=lhi hcs
         replace hends:=lhi hends
         replace k2:=lhi k2
         clear h2 p2 q1 q2 hPc hcon hkeep hup
         go_wp2_with (first
          | (go_at_call 39;refine (hF.out).mono ?_;rintro y w9 ⟨rfl,rfl⟩)
          | (go_at_call 25;refine (hEn.out).mono ?_;rintro y w3 ⟨rfl,hb3⟩;replace hb3:=lhi hb3)
          | (go_at_call 49;refine (hC.out _ hb3.out).mono ?_;rintro z w5 ⟨v5,rfl,h5,k5⟩;replace h5:=lhi h5;replace k5:=lhi ((k2.out.trans (ChP.of_below hb3.out)).trans k5)))
         go_ret
         exact .inl ⟨x,v5,ns',g2,i2,cl2,ns2,ps2,rfl,hst.out.2,h5.out,k5.out,hst.out.1,q3',q4',hcs.out,hends2.out,q6.out⟩
     · rw [decide_eq_false hin] at hEn
       have hlt : i2 < n:=by omega
       cases inG with
       | false =>
        replace hPc:=lhi (hPc.out hlt (fun h => by cases h))
        clear h2 k2 p2 q1 q2 q3 q4 q6
        go_wp2_with (first
         | (go_at_call 39;refine (hF.out).mono ?_;rintro y w9 ⟨rfl,rfl⟩)
         | (go_at_call 25;refine (hEn.out).mono ?_;rintro y w3 ⟨rfl,hb3⟩;replace hb3:=lhi hb3)
         | (go_at_call 48;refine (hPc.out _ hb3.out).mono ?_;intro y w5 hy;obtain ⟨z,rfl,hy⟩:=hy.ret;have hq:=lhi (hcon.out _ hb3.out _ _ hy);replace hy:=lhi hy;have hpc5:=lhi (hkeep.out _ hb3.out _ _ hy.out))
         | (at_builtin;refine wpList_append_at rfl _ _ 53 rfl w.heap.size 3 i0 (.int .i64 0) 1 8 Tryz.underlying53 hi0 hz0 hz1.out hz2.out rfl (by decide) (.slice Ap ps2.length kp) ps2.length (ps2.map (Value.int .i64)) rfl (own_below hpc5.out.own (below_one w5 z)) (some ⟨w5.heap.size,0,none⟩) 1 1 [.int .i64 z] rfl rfl (src_int w5 z) (one_int z) (by unfold maxLen;omega) (by omega) (by have:=hpc5.out.base;simp;omega) ?_;intro v7 w7 hown7 hg7 _;replace hown7:=lhi hown7;replace hg7:=lhi hg7))
        have hfin:=lhi (hq.out _ _ hpc5.out hown7.out hg7.out)
        go_roundw
        case rel => exact hfin.out.1
        case measure => exact hfin.out.2
       | true =>
        cases hbb : bg [92,41] (l.drop i2) with
        | true =>
         have hCm:=lhi (fun w3 (hb : Below wr.heap.size wr w3) => comes_is (hP.out w3 hb) ⟨#[92,41]⟩ true hbb)
         have hends : if true then bg [92,41] (l.drop i2) = true else i2 = l.length:=by simpa using hbb
         have hends2:=lhi (show if true then bg [92,41] (l.drop i2) = true else i2 = n by simpa using hbb)
         have hne : i2 ≠ n:=hin
         clear hbb
         cases hcs : catS ns2 ps2 with
         | none =>
          have hC:=lhi (fun w4 hb4 => abranch_none (hP.out w4 hb4) (p2.below hb4) hTW q1 hcs true (fun _ => hne))
          have hst:=lhi (fun (lv : List (Nat × List Int)) (hlv : lv.isEmpty = !true) => (q6 lv hlv).ends (.bad (step_cat_full (g:=g2) (cl:=cl2) hlv hends hcs)))
          replace k2:=lhi k2
          clear h2 p2 q1 q2 q3 q4 q6 hPc hcon hkeep hcs hends
          go_wp2_with (first
           | (go_at_call 39;refine (hF.out).mono ?_;rintro y w9 ⟨rfl,rfl⟩)
           | (go_at_call 25;refine (hEn.out).mono ?_;rintro y w3 ⟨rfl,hb3⟩;replace hb3:=lhi hb3)
           | (go_at_call 47;refine (hCm.out _ hb3.out).mono ?_;rintro y w4 ⟨rfl,hb4⟩;replace hb4:=lhi (hb3.out.trans (hb4.mono hb3.out.size)))
           | (go_at_call 49;refine (hC.out _ hb4.out).mono ?_;rintro y w5 ⟨v5,ns5,g5,cl5,rfl,h5,k5⟩;replace h5:=lhi h5;replace k5:=lhi ((k2.out.trans (ChP.of_below hb4.out)).trans k5)))
          go_ret
          exact .inr ⟨v5,ns5,g5,i2,cl5,8,by decide,rfl,h5.out,k5.out,hst.out⟩
         | some rr =>
          obtain ⟨x,ns'⟩:=rr
          have hup:=catS_up q1 hcs
          have hC:=lhi (fun w4 hb4 => abranch_some (hP.out w4 hb4) (p2.below hb4) hTW q1 hcs true (fun _ => hne))
          have hst:=lhi (show ns.length ≤ ns'.length ∧ okP (ns'.length : Int) x = true from ⟨by omega,hup.2.1⟩)
          replace q6:=lhi q6
          replace hcs:=lhi hcs
          replace hends:=lhi hends
          replace k2:=lhi k2
          clear h2 p2 q1 q2 hPc hcon hkeep hup
          go_wp2_with (first
           | (go_at_call 39;refine (hF.out).mono ?_;rintro y w9 ⟨rfl,rfl⟩)
           | (go_at_call 25;refine (hEn.out).mono ?_;rintro y w3 ⟨rfl,hb3⟩;replace hb3:=lhi hb3)
           | (go_at_call 47;refine (hCm.out _ hb3.out).mono ?_;rintro y w4 ⟨rfl,hb4⟩;replace hb4:=lhi (hb3.out.trans (hb4.mono hb3.out.size)))
           | (go_at_call 49;refine (hC.out _ hb4.out).mono ?_;rintro z w5 ⟨v5,rfl,h5,k5⟩;replace h5:=lhi h5;replace k5:=lhi ((k2.out.trans (ChP.of_below hb4.out)).trans k5)))
          go_ret
          exact .inl ⟨x,v5,ns',g2,i2,cl2,ns2,ps2,rfl,hst.out.2,h5.out,k5.out,hst.out.1,q3',q4',hcs.out,hends2.out,q6.out⟩
        | false =>
         have hCm:=lhi (fun w3 (hb : Below wr.heap.size wr w3) => comes_is (hP.out w3 hb) ⟨#[92,41]⟩ false hbb)
         replace hPc:=lhi (hPc.out hlt (fun _ => hbb))
         clear h2 k2 p2 q1 q2 q3 q4 q6 hbb
         go_wp2_with (first
          | (go_at_call 39;refine (hF.out).mono ?_;rintro y w9 ⟨rfl,rfl⟩)
          | (go_at_call 25;refine (hEn.out).mono ?_;rintro y w3 ⟨rfl,hb3⟩;replace hb3:=lhi hb3)
          | (go_at_call 47;refine (hCm.out _ hb3.out).mono ?_;rintro y w4 ⟨rfl,hb4⟩;replace hb4:=lhi (hb3.out.trans (hb4.mono hb3.out.size)))
          | (go_at_call 48;refine (hPc.out _ hb4.out).mono ?_;intro y w5 hy;obtain ⟨z,rfl,hy⟩:=hy.ret;have hq:=lhi (hcon.out _ hb4.out _ _ hy);replace hy:=lhi hy;have hpc5:=lhi (hkeep.out _ hb4.out _ _ hy.out))
          | (at_builtin;refine wpList_append_at rfl _ _ 53 rfl w.heap.size 3 i0 (.int .i64 0) 1 8 Tryz.underlying53 hi0 hz0 hz1.out hz2.out rfl (by decide) (.slice Ap ps2.length kp) ps2.length (ps2.map (Value.int .i64)) rfl (own_below hpc5.out.own (below_one w5 z)) (some ⟨w5.heap.size,0,none⟩) 1 1 [.int .i64 z] rfl rfl (src_int w5 z) (one_int z) (by unfold maxLen;omega) (by omega) (by have:=hpc5.out.base;simp;omega) ?_;intro v7 w7 hown7 hg7 _;replace hown7:=lhi hown7;replace hg7:=lhi hg7))
         have hfin:=lhi (hq.out _ _ hpc5.out hown7.out hg7.out)
         go_roundw
         case rel => exact hfin.out.1
         case measure => exact hfin.out.2
   · have hF:=lhi (fine_any h2)
     rw [decide_eq_false he] at hF
     have hC:=lhi (abranch_bad h2 he inG)
     have hfin:=lhi (show YBranch w B T A n c l v ns g i cl inG (.returned (.int .i64 (-1))) wr from .inr ⟨v2,ns2,g2,i2,cl2,ee,he,rfl,h2,k2,q6⟩)
     clear h2 k2 q6 he
     go_wp2_with (first
      | (go_at_call 39;refine (hF.out).mono ?_;rintro y w9 ⟨rfl,rfl⟩)
      | (go_at_call 49;refine (hC.out _).mono ?_;rintro y w9 ⟨rfl,rfl⟩))
     go_ret
     exact hfin.out
end
theorem br_all : ∀ k,BrOK k:=by
 intro k
 induction k using Nat.strongRecOn with
 | ind k ih =>
  intro inG w B T A n c l v ns g i cl h hk
  exact branch_any h fun k' hk' => ih k' (by omega)
def headC : Ct → List Int
 | .P x => [x]
 | _ => []
def rootsC (c : Cf) : List Int:=headC c.ct ++ (c.ps ++ c.lv.flatMap (·.2))
def opensC (c : Cf) : List Int:=c.lv.map fun a => (a.1 : Int)
structure InvC (c : Cf) : Prop where
 tree : Tree c.ns c.g (rootsC c)
 grp : ∀ q,1 ≤ q → q ≤ c.g → grpsN c.ns q + cntI (opensC c) q = 1
 opn : ∀ q ∈ opensC c,1 ≤ q ∧ q ≤ (c.g : Int)
 nine : c.g ≤ 9
 clg : ∀ q,c.cl q = true → 1 ≤ q ∧ q ≤ c.g
 last : match c.ct with
  | .P x => x = (c.ns.length : Int) - 1
  | .L => ∀ hne : c.ps ≠ [],c.ps.getLast hne = (c.ns.length : Int) - 1
  | .B => c.ps = []
theorem inv0 : InvC cf0:=⟨Tree.nil_ 0,fun q h1 h2 => by simp [cf0] at h2;omega,fun q h => by simp [opensC,cf0] at h,by simp [cf0],fun q h => by simp [cf0] at h,rfl⟩
theorem atomR_nod {t : List UInt8} {i : Nat} {r : List UInt8} {j : Nat} {nd : Nod} (h : atomR t i r = .nod j nd) : (∃ f,nd = setN f) ∨ nd = eolN:=by
 cases r with
 | nil => cases h
 | cons c r =>
  simp only [atomR] at h
  split at h
  · cases r with
    | nil => cases h
    | cons x r =>
     simp only [escA] at h
     repeat' split at h
     all_goals first
      | (simp only [Am.nod.injEq] at h;exact .inl ⟨_,h.2.symm⟩)
      | cases h
  · split at h
    · unfold brkA at h
      split at h
      · cases h
      · simp only [Am.nod.injEq] at h;exact .inl ⟨_,h.2.symm⟩
    · repeat' split at h
      all_goals first
       | (simp only [Am.nod.injEq] at h;exact .inl ⟨_,h.2.symm⟩)
       | (simp only [Am.nod.injEq] at h;exact .inr h.2.symm)
theorem putS_go {ns : List Nod} {i : Nat} {n : Nod} {k : Int → List Nod → Rs} {c : Cf} (h : putS ns i n k = .go c) : ns.length < 1000 ∧ k (ns.length : Int) (ns ++ [n]) = .go c:=by
 unfold putS at h
 split at h
 · exact ⟨by assumption,h⟩
 · cases h
theorem InvC.leaf {c : Cf} (h : InvC c) (hct : c.ct = .L) {nd : Nod} {j : Nat} (hl : c.ns.length < 1000) (hp : partsN nd = []) (hf : fitsN nd (c.ns.length : Int) (c.g : Int) = true) (hk : nd.kind ≠ 5) :
    InvC ⟨.P (c.ns.length : Int),j,c.ns ++ [nd],c.g,c.cl,c.ps,c.lv⟩:=by
 obtain ⟨ct,i,ns,g,cl,ps,lv⟩:=c
 simp only at hct
 subst hct
 refine ⟨Tree.node (P:=[]) h.tree hl hp hf,fun q h1 h2 => ?_,h.opn,h.nine,h.clg,by simp⟩
 rw [grpsN_snoc,if_neg (fun e => hk e.1)]
 have:=h.grp q h1 h2
 simp only [opensC] at this ⊢
 omega
theorem step_inv {t : List UInt8} {c c' : Cf} (h : InvC c) (hs : step t c = .go c') : InvC c':=by
 obtain ⟨ct,i,ns,g,cl,ps,lv⟩:=c
 have hat : ∀ c1 : Cf,c1.ct = .L → InvC c1 → stepA c1 (atomA t c1.i) = .go c' → InvC c':=by
  intro c1 hct h1 hs
  cases ha : atomA t c1.i with
  | bad e => rw [ha] at hs;cases hs
  | opn =>
   rw [ha] at hs
   simp only [stepA] at hs
   split at hs
   · rename_i hg
     injection hs with hs
     subst hs
     have ht:=h1.tree
     obtain ⟨ct,i,ns,g,cl,ps,lv⟩:=c1
     simp only at hct
     subst hct
     refine ⟨(by simpa [rootsC,headC] using ht.more (Nat.le_succ g)),fun q q1 q2 => ?_,fun q hq => ?_,hg,fun q hq => ?_,rfl⟩
     · simp only [opensC,List.map_cons] at q2 ⊢
       rw [cntI_cons]
       by_cases hq : q = g + 1
       · subst hq
         have e1 : grpsN ns (g + 1) = 0:=cntI_zero fun x hx e => by
          obtain ⟨nd,hn,rfl⟩:=List.mem_map.1 hx
          obtain ⟨hn,hk⟩:=List.mem_filter.1 hn
          obtain ⟨k,hk2,rfl⟩:=List.getElem_of_mem hn
          have:=fits_grp (ht.fit k hk2) (by simpa using hk)
          simp only at this
          omega
         have e2 : cntI (lv.map fun a => (a.1 : Int)) (g + 1) = 0:=cntI_zero fun x hx e => by
          have:=h1.opn x hx
          simp only at this
          omega
         rw [if_pos rfl];omega
       · have:=h1.grp q q1 (by simp only;omega)
         simp only [opensC] at this
         rw [if_neg (by omega)];omega
     · simp only [opensC,List.map_cons,List.mem_cons] at hq
       simp only
       rcases hq with rfl | hq
       · omega
       · have:=h1.opn q hq
         simp only at this
         omega
     · have:=h1.clg q hq
       simp only at this ⊢
       omega
   · cases hs
  | bak q =>
   rw [ha] at hs
   simp only [stepA] at hs
   split at hs
   · rename_i hq
     obtain ⟨hl,hs⟩:=putS_go hs
     injection hs with hs
     subst hs
     have hqg:=h1.clg q hq
     exact h1.leaf hct hl rfl (fits_back (by omega) (by omega)) (by simp [backN])
   · cases hs
  | nod j nd =>
   rw [ha] at hs
   simp only [stepA] at hs
   obtain ⟨hl,hs⟩:=putS_go hs
   injection hs with hs
   subst hs
   unfold atomA at ha
   rcases atomR_nod ha with ⟨f,rfl⟩ | rfl
   · exact h1.leaf hct hl rfl (fits_set f _ _) (by simp [setN])
   · exact h1.leaf hct hl rfl (fits_plain 8 (.inr (.inr rfl)) _ _) (by decide)
 cases ct with
 | B =>
  have hps : ps = []:=h.last
  subst hps
  change stepB t _ = _ at hs
  simp only [stepB] at hs
  split at hs
  · obtain ⟨hl,hs⟩:=putS_go hs
    injection hs with hs
    subst hs
    have ht:=h.tree
    refine ⟨Tree.node (P:=[]) ht hl rfl (fits_plain 7 (.inr (.inl rfl)) _ _),fun q h1 h2 => ?_,h.opn,h.nine,h.clg,fun _ => by simp⟩
    rw [grpsN_snoc,if_neg (by rintro ⟨e,_⟩;exact absurd e (by decide))]
    have:=h.grp q h1 h2
    simp only [opensC] at this ⊢
    omega
  · injection hs with hs
    subst hs
    exact ⟨h.tree,h.grp,h.opn,h.nine,h.clg,fun hne => absurd rfl hne⟩
 | P x =>
  have hx : x = (ns.length : Int) - 1:=h.last
  have ht : Tree ns g ([x] ++ (ps ++ lv.flatMap (·.2))):=h.tree
  have hok:=ht.ok x (by simp)
  have hrep : ∀ (lo hi : Int) (j : Nat),timesN lo hi = true → ns.length < 1000 → InvC ⟨.P (ns.length : Int),j,ns ++ [repN x lo hi],g,cl,ps,lv⟩:=fun lo hi j htm hl => by
   refine ⟨Tree.node (P:=[x]) ht hl rfl (fits_rep hok htm),fun q h1 h2 => ?_,h.opn,h.nine,h.clg,by simp⟩
   rw [grpsN_snoc,if_neg (by rintro ⟨e,_⟩;simp [repN] at e)]
   have:=h.grp q h1 h2
   simp only [opensC] at this ⊢
   omega
  change stepP t _ x = _ at hs
  simp only [stepP] at hs
  split at hs
  · obtain ⟨hl,hs⟩:=putS_go hs
    injection hs with hs
    subst hs
    exact hrep 0 (-1) _ (by decide) hl
  · split at hs
    · cases hv : ivl t i with
      | none => rw [hv] at hs;cases hs
      | some p =>
       obtain ⟨lo,hi,j⟩:=p
       rw [hv] at hs
       simp only at hs
       obtain ⟨hl,hs⟩:=putS_go hs
       injection hs with hs
       subst hs
       refine hrep lo hi _ ?_ hl
       unfold ivl at hv
       obtain ⟨⟨a,b,k⟩,h1,h2⟩:=Option.map_eq_some_iff.1 hv
       simp only [Prod.mk.injEq] at h2
       obtain ⟨rfl,rfl,rfl⟩:=h2
       exact (ivB_ok h1).2.1
    · injection hs with hs
      subst hs
      refine ⟨ht.perm ?_,h.grp,h.opn,h.nine,h.clg,fun _ => by simp [hx]⟩
      show ([x] ++ (ps ++ lv.flatMap (·.2))).Perm ([] ++ ((ps ++ [x]) ++ lv.flatMap (·.2)))
      rw [List.nil_append,← List.append_assoc]
      exact List.Perm.append_right _ List.perm_append_comm
 | L =>
  change stepL t _ = _ at hs
  cases lv with
  | nil =>
   simp only [stepL] at hs
   split at hs
   · split at hs <;> cases hs
   · exact hat _ rfl h hs
  | cons a lv =>
   obtain ⟨q,p⟩:=a
   simp only [stepL] at hs
   split at hs
   · cases hs
   · split at hs
     · cases hc : catS ns ps with
       | none => rw [hc] at hs;cases hs
       | some r =>
        obtain ⟨x,ns'⟩:=r
        rw [hc] at hs
        simp only at hs
        obtain ⟨hl,hs⟩:=putS_go hs
        injection hs with hs
        subst hs
        have ht : Tree ns g (ps ++ (p ++ lv.flatMap (·.2))):=by simpa [rootsC,headC] using h.tree
        obtain ⟨k1,k2,k3⟩:=catS_tree ht h.last hc
        have hqg:=h.opn (q : Int) (by simp [opensC])
        simp only at hqg
        have hq1 : 1 ≤ q:=by omega
        have hq2 : q ≤ g:=by omega
        have hxo:=k1.ok x (by simp)
        refine ⟨Tree.node (P:=[x]) k1 hl rfl (fits_group hxo (by omega) (by omega)),fun z h1 h2 => ?_,fun z hz => h.opn z (by simp only [opensC,List.map_cons,List.mem_cons] at hz ⊢;exact .inr hz),h.nine,fun z hz => ?_,by simp⟩
        · rw [grpsN_snoc,k3]
          have:=h.grp z h1 h2
          simp only [opensC,List.map_cons] at this ⊢
          rw [cntI_cons] at this
          have e5 : (groupN (q : Int) x).kind = 5:=rfl
          have eg : (groupN (q : Int) x).grp = (q : Int):=rfl
          rw [e5,eg]
          by_cases hz : (q : Int) = (z : Int)
          · rw [if_pos hz] at this
            rw [if_pos ⟨rfl,hz⟩];omega
          · rw [if_neg hz] at this
            rw [if_neg (fun e => hz e.2)];omega
        · simp only [setQ] at hz
          split at hz
          · rename_i e
            subst e
            exact ⟨hq1,hq2⟩
          · exact h.clg z hz
     · exact hat _ rfl h hs
theorem Steps.inv {t : List UInt8} {c c' : Cf} (hs : Steps t c c') (h : InvC c) : InvC c':=by
 induction hs with
 | refl => exact h
 | head h1 _ ih => exact ih (step_inv h h1)
theorem InvC.right {i : Nat} {ns : List Nod} {g : Nat} {cl : Nat → Bool} {ps : List Int} {x : Int} {ns' : List Nod} (h : InvC ⟨.L,i,ns,g,cl,ps,[]⟩) (hc : catS ns ps = some (x,ns')) : rightN ns' (g : Int) = true ∧ x = (ns'.length : Int) - 1 ∧ 1 ≤ ns'.length ∧ g ≤ 9:=by
 have ht : Tree ns g (ps ++ []):=by simpa [rootsC,headC] using h.tree
 obtain ⟨k1,k2,k3⟩:=catS_tree ht h.last hc
 have hxo:=k1.ok x (by simp)
 rw [okP_iff] at hxo
 have h9 : g ≤ 9:=h.nine
 have h1 : 1 ≤ ns'.length:=by omega
 refine ⟨?_,k2,h1,h9⟩
 rw [rightN_end ⟨h1,k1.len,by omega,by omega⟩ k1.fit]
 rw [onceL_yes,onceL_yes]
 · rfl
 · intro k hk
   rw [List.length_map,List.length_range,Int.toNat_natCast] at hk
   rw [List.getElem_map,List.getElem_range,k3]
   have:=h.grp (k + 1) (by omega) (by simp only;omega)
   simpa [opensC,cntI] using this
 · intro k hk
   rw [List.length_map,List.length_range] at hk
   rw [List.getElem_map,List.getElem_range]
   have:=k1.use k (by omega)
   rw [cntI_cons,if_neg (by omega)] at this
   simpa [cntI] using this
def PRes (w : World) (l : List UInt8) (e : Ending) (w' : World) : Prop :=
 (∃ v ns g,e = .returned (.tuple #[.agg #[v,.int .i64 ((g : Nat) : Int)],.int .i64 0,.int .i64 0]) ∧ Ends l cf0 (.fin ns g) ∧ rightN ns (g : Int) = true ∧ w'.ownsRow w.heap.size 43 10 v ns.length (nodsL ns) ∧ Below w.heap.size w w') ∨
 (∃ p q : Nat,q ≠ 0 ∧ e = .returned (.tuple #[.agg #[.slice none 0 0,.int .i64 0],.int .i64 (p : Int),.int .i64 (q : Int)]) ∧ Ends l cf0 (.bad p q) ∧ Below w.heap.size w w')
theorem bparse_any {A : Option Addr} {n c : Nat} {l : List UInt8} {w : World} (h : Inp w A n c l) :
    Calls Tryz.prog 16 #[.slice A n c] w (PRes w l):=by
 have hb1 : Below w.heap.size w (w.alloc (.cells #[.slice none 0 0,.int .i64 0] 26)):=(Below.refl _ _).alloc (nlr _) _
 have hR:=lhi (held_new w 26 #[.slice none 0 0,.int .i64 0])
 have hN:=lhi (new_any A n c (w.alloc (.cells #[.slice none 0 0,.int .i64 0] 26)))
 have hsz : w.heap.size < (w.alloc (.cells #[.slice none 0 0,.int .i64 0] 26)).heap.size:=by simp
 have hPn:=lhi (fun (w1 : World) (hb : Below w.heap.size w w1) => psr_new h hb 65 (by decide) (by decide))
 have hBr:=lhi (fun (w2 : World) (B T : Nat) (hP : Psr w2 B T A n c l (.slice none 0 0) [] 0 0 noCl 0) => br_all n false w2 B T A n c l _ [] 0 0 noCl hP (by omega))
 have hn:=lhi h.1
 replace hb1:=lhi hb1
 clear h
 unfold psrC noCl at hN hPn
 go_enter Tryz.func16,Tryz.ntmps16
 go_wp2_with (first
  | (go_at_call 24;refine (hN.out).mono ?_;rintro e w1 ⟨rfl,hb⟩;have hbw:=hb1.out.trans (hb.mono hb1.out.size);have hP1:=lhi (hPn.out w1 hbw);have hTR : w.heap.size < w1.heap.size:=nll hsz hb.size;have hRk:=lhi (hR.out.keep hb);replace hbw:=lhi hbw;clear hb)
  | (go_at_call 29;refine (hBr.out _ _ _ hP1.out).mono ?_;intro y w3 hy;rcases hy with ⟨x,v2,ns2,g2,i2,cl2,ns1,ps2,rfl,ok2,h2,k2,q1,q2,q3,q4,q5,q6⟩ | ⟨v2,ns2,g2,i2,cl2,e2,he2,rfl,h2,k2,q6⟩
     all_goals first
      | (have hst:=q6 [] rfl
         have hir:=(hst.inv inv0).right q4
         have hen:=lhi (hst.ends (.fin (show step l ⟨.L,i2,ns1,g2,cl2,ps2,[]⟩ = .fin ns2 g2 by
          show stepL l ⟨.L,i2,ns1,g2,cl2,ps2,[]⟩ = _
          have hq5 : i2 = n:=by simpa using q5
          simp only [stepL]
          rw [if_pos (by rw [hq5,hn.out];exact nlr _),q4])))
         have hr:=lhi hir.1
         have hTo:=lhi (told_ok h2 hir.1 hir.2.2.1 x hir.2.1)
         have hR3:=lhi (((hRk.out.alloc _)).chp k2 (by omega) (by intro e;cases e))
         have hb3:=lhi ((hbw.out.alloc hbw.out.size _).trans (k2.below (by have:=hbw.out.size;simp;omega) (by omega) (fun k e => by cases e)))
         clear h2 k2 q1 q2 q3 q4 q5 q6 hst hir ok2)
      | (have hTo:=lhi (told_bad h2 he2 (-1))
         have hR3:=lhi (((hRk.out.alloc _)).chp k2 (by omega) (by intro e;cases e))
         have hb3:=lhi ((hbw.out.alloc hbw.out.size _).trans (k2.below (by have:=hbw.out.size;simp;omega) (by omega) (fun k e => by cases e)))
         have hen:=lhi (q6 [] rfl)
         replace he2:=lhi he2
         clear h2 k2 q6))
  | (go_at_call 26;refine (hTo.out).mono ?_;intro y w4 hy;first
     | (obtain ⟨v4,rfl,ho4,hb4⟩:=hy;obtain ⟨A4,c4,rfl,-,-,-,-⟩:=own_nods ho4;replace ho4:=lhi ho4;have hR4:=lhi (hR3.out.keep hb4);have z:=hR4.out.at_ (i:=0) rfl;have z1:=hR4.out.at_ (i:=1) rfl;have y0:=hR4.out.thawed 0;have y1:=hR4.out.thawed 1;replace hb4:=lhi (hb3.out.trans (hb4.mono hb3.out.size)))
     | (obtain ⟨rfl,hb4⟩:=hy;have hR4:=lhi (hR3.out.keep hb4);have z:=hR4.out.at_ (i:=0) rfl;have z1:=hR4.out.at_ (i:=1) rfl;have y0:=hR4.out.thawed 0;have y1:=hR4.out.thawed 1;replace hb4:=lhi (hb3.out.trans (hb4.mono hb3.out.size)))))
 · have hown : (w4.setCell ⟨w.heap.size,0,none⟩ (.slice A4 ns2.length c4)).setCell ⟨w.heap.size,1,none⟩ (.int .i64 (g2 : Int)) |>.ownsRow w.heap.size 43 10 (.slice A4 ns2.length c4) ns2.length (nodsL ns2) :=
     own_low (own_far (hR4.out.put 0 (.slice A4 ns2.length c4)) (by decide) (own_far hR4.out (by decide) ho4.out 0 _) 1 _) hb3.out.size
   exact bodyPost_ret (v:=.tuple #[.agg #[.slice A4 ns2.length c4,.int .i64 (g2 : Int)],.int .i64 0,.int .i64 0]) (results_cell_three Tryz.results16 _ _ w.heap.size 26 #[.slice A4 ns2.length c4,.int .i64 (g2 : Int)] (0,0) _ rfl rfl rfl ((hR4.out.put 0 _).put 1 _) Tryz.underlying26 rfl (by kernel_rfl)) rfl
    (.inl ⟨_,ns2,g2,rfl,hen.out,hr.out,hown,(hb4.out.setCell (p:=⟨w.heap.size,0,none⟩) (nlr _) _).setCell (p:=⟨w.heap.size,1,none⟩) (nlr _) _⟩)
 · exact bodyPost_ret (v:=.tuple #[.agg #[.slice none 0 0,.int .i64 0],.int .i64 (i2 : Int),.int .i64 (e2 : Int)]) (results_cell_three Tryz.results16 _ _ w.heap.size 26 #[.slice none 0 0,.int .i64 0] (0,0) _ rfl rfl rfl ((hR4.out.put 0 _).put 1 _) Tryz.underlying26 rfl (by kernel_rfl)) rfl
     (.inr ⟨i2,e2,he2.out,rfl,hen.out,(hb4.out.setCell (p:=⟨w.heap.size,0,none⟩) (nlr _) _).setCell (p:=⟨w.heap.size,1,none⟩) (nlr _) _⟩)
end Go.Proofs.YtonjnagcdnmcpaaGreatDoor
namespace Go.Proofs.YtonjnagcdnmcpaaGreatDoor
open Go.RowKit
def runS : Nat → List UInt8 → Cf → Rs
 | 0,_,c => .go c
 | k + 1,t,c => match step t c with
  | .go c' => runS k t c'
  | .bad i e => .bad i e
  | .fin ns g => .fin ns g
theorem runS_ends : ∀ (k : Nat) (t : List UInt8) (c : Cf) (r : Rs),runS k t c = r → (∀ c2,r ≠ .go c2) → Ends t c r
 | 0,t,c,r,h,hr => absurd h.symm (hr c)
 | k + 1,t,c,r,h,hr => by
  unfold runS at h
  cases hs : step t c with
  | go c' =>
   rw [hs] at h
   obtain ⟨c2,h1,h2,h3⟩:=runS_ends k t c' r h hr
   exact ⟨c2,.head hs h1,h2,h3⟩
  | bad i e => rw [hs] at h;exact ⟨c,.refl c,by rw [hs];exact h,hr⟩
  | fin ns g => rw [hs] at h;exact ⟨c,.refl c,by rw [hs];exact h,hr⟩
theorem ends_fin {k : Nat} {t : List UInt8} {ns : List Nod} {g : Nat} (h : runS k t cf0 = .fin ns g) : Ends t cf0 (.fin ns g):=runS_ends k t cf0 _ h fun _ => by simp
structure OwnC (w : World) (q : Nat) : Prop where
 lt : q < w.heap.size
 kind : w.cell? ⟨q,10,none⟩ = some (.int .i64 4)
theorem OwnC.keep {w w' : World} {q : Nat} (h : OwnC w q) (hb : Below w.heap.size w w') : OwnC w' q:=⟨nll h.lt hb.size,(hb.cell (p:=⟨q,10,none⟩) h.lt).trans h.kind⟩
theorem OwnC.alloc {w : World} {q : Nat} (h : OwnC w q) (o : Obj) : OwnC (w.alloc o) q:=h.keep ((Below.refl _ _).alloc (nlr _) o)
end Go.Proofs.YtonjnagcdnmcpaaGreatDoor
