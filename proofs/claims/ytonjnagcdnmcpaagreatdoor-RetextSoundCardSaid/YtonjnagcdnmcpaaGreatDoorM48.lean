/- Contracts and plain facts: M48. -/
import Derived.Test.YtonjnagcdnmcpaaGreatDoorM34
import Derived.Test.YtonjnagcdnmcpaaGreatDoorM35
set_option linter.unusedVariables false
set_option linter.unusedSimpArgs false
set_option maxRecDepth 100000
set_option maxHeartbeats 32000000
namespace Go.Proofs.YtonjnagcdnmcpaaGreatDoor
open Go.RowKit
def RBranch (w : World) (B T : Nat) (A : Option Addr) (n c : Nat) (l : List UInt8) (v : Value) (ns : List Nod) (g i : Nat) (cl : Nat → Bool) (inG : Bool) (e : Ending) (w' : World) : Prop :=
 (∃ x v' ns' g' i' cl' ns1 ps',e = .returned (.int .i64 x) ∧ okP (ns'.length : Int) x = true ∧ Rdr w' B T A n c l v' ns' g' i' cl' 0 ∧ ChP w w' T v v' ∧ ns.length ≤ ns'.length ∧ g ≤ g' ∧ i ≤ i' ∧ catS ns1 ps' = some (x,ns') ∧
  (if inG then bg [92,41] (l.drop i') = true else i' = n) ∧ ∀ lv,lv.isEmpty = !inG → Steps l ⟨.B,i,ns,g,cl,[],lv⟩ ⟨.L,i',ns1,g',cl',ps',lv⟩) ∨
 (∃ x v' ns' g' i' cl' q,q ≠ 0 ∧ e = .returned (.int .i64 x) ∧ Rdr w' B T A n c l v' ns' g' i' cl' q ∧ ChP w w' T v v' ∧ ∀ lv,lv.isEmpty = !inG → Ends l ⟨.B,i,ns,g,cl,[],lv⟩ (.bad i' q))
def RBrOK (k : Nat) : Prop:=∀ (inG : Bool) (w : World) (B T : Nat) (A : Option Addr) (n c : Nat) (l : List UInt8) (v : Value) (ns : List Nod) (g i : Nat) (cl : Nat → Bool),Rdr w B T A n c l v ns g i cl 0 → n - i = k →
 Calls Tryz.prog 33 #[.pointer (some ⟨T,0,none⟩),.bool inG] w (RBranch w B T A n c l v ns g i cl inG)
section
variable {w : World} {B T : Nat} {A : Option Addr} {n c : Nat} {l : List UInt8} {v : Value} {ns : List Nod} {g i : Nat} {cl : Nat → Bool} (h : Rdr w B T A n c l v ns g i cl 0) {inG : Bool} (hx : bg [92,40] (l.drop i) = true)
include h hx
theorem rgroup_full (hg : g = 9) : Calls Tryz.prog 74 #[.pointer (some ⟨T,0,none⟩),.int .i64 2,.bool true] w (RNode false w B T A n c l v ns g i cl inG):=by
 have hrm:=bg_room hx
 simp at hrm
 have c4:=h.c4
 have c2:=h.c2
 have t2:=h.thawed 2
 have hg9 : (9 : Int) ≤ (g : Int):=by omega
 have hfin:=lhi (fun (w' : World) (x : Ending) (y : RBad w B T A n c l v i 17 x w') => y.node (pc:=false) (inG:=inG) (ns:=ns) (g:=g) (cl:=cl) (by omega) (fun _ => by obtain ⟨r,hr⟩:=drop_two hx;rw [hr];rfl) (fun ps lv => by rw [atom_opn hx];simp [stepA,hg]) (by decide))
 have h2:=lhi (h.erred 17 (z:=17) rfl)
 have k2:=lhi (ChP.store w T 2 (.int .i64 17) v)
 clear h hx
 replace hg:=lhi hg
 go_enter Tryz.func74,Tryz.ntmps74
 go_wp2
 go_ret
 exact hfin.out _ _ ⟨0,v,_,_,_,rfl,h2.out,k2.out⟩
theorem rgroup_any (hB : ∀ k,k < n - i → RBrOK k) : Calls Tryz.prog 74 #[.pointer (some ⟨T,0,none⟩),.int .i64 2,.bool true] w (RNode false w B T A n c l v ns g i cl inG):=by
 by_cases hg : g = 9
 · exact rgroup_full h hx hg
 have hg9 : g < 9:=by have:=h.grp;omega
 have hrm:=bg_room hx
 simp at hrm
 have hnl:=h.hn
 have hns : n ≤ 1000000:=h.txt.2.2.2.1
 have hi2 : i + 2 ≤ n:=by omega
 have hi0 : (i : Int) ≤ 1000000:=by omega
 have c4:=h.c4
 have t4:=h.thawed 4
 have hm:=h.opened hg9 (z:=(g : Int) + 1) rfl
 have c1:=hm.c1
 have t1:=hm.thawed 1
 have h1:=lhi (hm.goto hi2 (z:=(i : Int) + 2) (by omega))
 have k1:=lhi ((ChP.store w T 4 (.int .i64 ((g : Int) + 1)) v).trans (ChP.store _ T 1 (.int .i64 ((i : Int) + 2)) v))
 have hst:=lhi (fun (ps : List Int) (lv : List (Nat × List Int)) (hlv : lv.isEmpty = !inG) => show step l ⟨.L,i,ns,g,cl,ps,lv⟩ = .go ⟨.B,i + 2,ns,g + 1,cl,[],(g + 1,ps) :: lv⟩ from by
  rw [step_atom (by omega) (fun _ => by obtain ⟨r,hr⟩:=drop_two hx;rw [hr];rfl) hlv,atom_opn hx]
  simp only [stepA]
  rw [if_pos hg9])
 have hBr:=lhi (fun (w2 : World) (h2 : Rdr w2 B T A n c l v ns (g + 1) (i + 2) cl 0) => hB (n - (i + 2)) (by omega) true w2 B T A n c l v ns (g + 1) (i + 2) cl h2 rfl)
 have hg0 : (g : Int) + 1 ≤ 9:=by omega
 have hg1 : ¬ (9 : Int) ≤ (g : Int):=by omega
 clear h hx hg hrm hB hnl hm
 go_enter Tryz.func74,Tryz.ntmps74
 go_wp2_with (first
  | (go_at_call 33;refine (hBr.out _ h1.out).mono ?_;intro x w2 hy;rcases hy with ⟨x,v2,ns2,g2,i2,cl2,ns1,ps2,rfl,ok2,h2,k2,q1,q2,q3,q4,q5,q6⟩ | ⟨x,v2,ns2,g2,i2,cl2,e2,he2,rfl,h2,k2,q6⟩
     all_goals first
      | (rw [if_pos rfl] at q5
         have c2:=h2.c2
         have c1b:=h2.c1
         have t1b:=h2.thawed 1
         have hrm:=bg_room q5
         have hi4 : i2 + 2 ≤ n:=by
          have hnl:=h2.hn
          simp at hrm;omega
         have hi5 : (i2 : Int) ≤ 1000000:=by omega
         have h3:=h2.goto hi4 (z:=(i2 : Int) + 2) (by omega)
         have t5:=h3.thawed (5 + (g + 1))
         have c5:=h3.cQ (g + 1) (by omega)
         have h4:=lhi (h3.ended (q:=g + 1) (by omega) q2)
         have k4:=lhi (((k1.out.trans k2).trans (ChP.store _ T 1 (.int .i64 ((i2 : Int) + 2)) v2)).trans (ChP.store _ T (5 + (g + 1)) (.bool true) v2))
         have hf:=lhi (fits_group (q:=(g : Int) + 1) (g:=(g2 : Int)) ok2 (by omega) (by omega))
         have hU:=lhi (rput_any h4.out (groupN ((g : Int) + 1) x) hf.out)
         rw [show nodV (groupN ((g : Int) + 1) x) = _ from nodV_z 5 x 0 0 0 ((g : Int) + 1)] at hU
         replace q1:=lhi q1
         replace q2:=lhi q2
         replace q3:=lhi q3
         replace q4:=lhi q4
         replace q5:=lhi q5
         replace q6:=lhi q6
         replace ok2:=lhi ok2
         clear h2 k2 hrm h3 k1)
      | (have c2:=h2.c2
         have he : ((e2 : Int) != 0) = true:=by rw [bne_iff_ne];omega
         replace h2:=lhi h2
         replace k2:=lhi (k1.out.trans k2)
         replace q6:=lhi q6
         replace he2:=lhi he2
         clear k1)))
 · go_wp2_with (go_at_call 30;refine (hU.out).mono ?_;intro y w5 hy;obtain ⟨z,rfl,hy⟩:=hy.ret;replace hy:=lhi hy)
   go_ret
   rcases hy.out with ⟨hl,v5,ez,h5,k5⟩ | ⟨hl,v5,ez,h5,k5⟩
   · refine .inl ⟨_,v5,_,g2,i2 + 2,_,ez,?_,h5,k4.out.trans k5,?_,?_,?_,(fun e => by cases e),fun ps lv hlv => ?_⟩
     · rw [lla];exact okP_last _
     · have:=q1.out;rw [lla];omega
     · have:=q2.out;omega
     · have:=q3.out;omega
     · refine (Steps.one (hst.out ps lv hlv)).trans ((q6.out _ rfl).snoc ?_)
       exact step_close q5.out q4.out (by simpa using hl)
   · refine .inr ⟨_,v5,_,_,_,_,_,by decide,ez,h5,k4.out.trans k5,fun ps lv hlv => ?_⟩
     refine (Steps.one (hst.out ps lv hlv)).ends ((q6.out _ rfl).ends (.bad ?_))
     exact step_close_full q5.out q4.out (by simpa using hl)
 · go_ret
   exact .inr ⟨_,v2,ns2,g2,i2,cl2,e2,he2.out,rfl,h2.out,k2.out,fun ps lv hlv => (Steps.one (hst.out ps lv hlv)).ends (q6.out _ rfl)⟩
end
def leftR (n T : Nat) (w : World) : Nat :=
 match w.cell? ⟨T,2,none⟩,w.cell? ⟨T,1,none⟩ with
 | some (.int _ 0),some (.int _ i) => n + 1 - i.toNat
 | _,_ => 0
section
variable {w w' wr : World} {B T : Nat} {A : Option Addr} {n c : Nat} {l : List UInt8} {v v2 : Value} {ns ns2 : List Nod} {g g2 i i2 j : Nat} {cl cl2 : Nat → Bool} {e : Nat} {inG : Bool} {nd : Nod}
theorem Rdr.left (h : Rdr w B T A n c l v ns g i cl 0) : leftR n T w = n + 1 - i:=by
 unfold leftR;rw [h.c2,h.c1];simp
theorem Rdr.left0 (h : Rdr w B T A n c l v ns g i cl e) (he : e ≠ 0) : leftR n T w = 0:=by
 unfold leftR;rw [h.c2,h.c1]
 split
 · rename_i h1 _
   simp at h1;omega
 · rfl
theorem rep_next {x z : Int} (h2 : Rdr wr B T A n c l v2 ns2 g2 i2 cl2 0) (k2 : ChP w wr T v v2) (q1 : ns.length ≤ ns2.length) (q2 : g ≤ g2) (q3 : i < i2)
    (q4 : ∀ ps lv,lv.isEmpty = !inG → Steps l ⟨.L,i,ns,g,cl,ps,lv⟩ ⟨toC false x,i2,ns2,g2,cl2,toP false x ps,lv⟩) (hj : i2 < j)
    (hs : ∀ (ps : List Int) (lv : List (Nat × List Int)),ns2.length < 1000 → step l ⟨.P x,i2,ns2,g2,cl2,ps,lv⟩ = .go ⟨.P (ns2.length : Int),j,ns2 ++ [nd],g2,cl2,ps,lv⟩)
    (hf : ∀ (ps : List Int) (lv : List (Nat × List Int)),¬ ns2.length < 1000 → step l ⟨.P x,i2,ns2,g2,cl2,ps,lv⟩ = .bad j 8)
    (hy : RPut wr B T A n c l v2 ns2 g2 j cl2 nd (.returned (.int .i64 z)) w') : RNode false w B T A n c l v ns g i cl inG (.returned (.int .i64 z)) w' ∧ leftR n T w' < leftR n T wr:=by
 have hle:=h2.le
 rcases hy with ⟨hl,v',ez,h3,k3⟩ | ⟨hl,v',ez,h3,k3⟩
 · refine ⟨.inl ⟨_,v',_,g2,j,cl2,ez,by rw [lla];exact okP_last _,h3,k2.trans k3,by rw [lla];omega,q2,by omega,(fun e => by cases e),fun ps lv hlv => (q4 ps lv hlv).snoc (hs ps lv hl)⟩,?_⟩
   have:=h3.le
   rw [h3.left,h2.left];omega
 · refine ⟨.inr ⟨_,v',_,g2,j,cl2,8,by decide,ez,h3,k2.trans k3,fun ps lv hlv => (q4 ps lv hlv).ends (.bad (hf ps lv hl))⟩,?_⟩
   rw [h3.left0 (by decide),h2.left];omega
theorem two_bg {t : List UInt8} {k : Nat} (h1 : nx t k = 92) (h2 : nx t (k + 1) = 123) : bg [92,123] (t.drop k) = true:=by
 have a:=(nx_bg t k 92).1 h1
 have b:=(nx_bg t (k + 1) 123).1 h2
 cases hd : t.drop k with
 | nil => rw [hd] at a;cases a
 | cons x r =>
  have hr : t.drop (k + 1) = r:=by
   have:=congrArg (List.drop 1) hd
   rwa [List.drop_drop] at this
  rw [hd,bg_cons,bg_nil,Bool.and_true] at a
  rw [hr] at b
  rw [bg_cons,a,b];rfl
end
section
variable {w : World} {B T : Nat} {A : Option Addr} {n c : Nat} {l : List UInt8} {v : Value} {ns : List Nod} {g i : Nat} {cl : Nat → Bool} (h : Rdr w B T A n c l v ns g i cl 0) {inG : Bool}
include h
theorem rpiece_brace (hb : bg [92,123] (l.drop i) = true) (hc : inG = true → bg [92,41] (l.drop i) = false) : Calls Tryz.prog 54 #[.pointer (some ⟨T,0,none⟩),.bool true] w (RNode true w B T A n c l v ns g i cl inG):=by
 obtain ⟨r2,hr2⟩:=drop_two hb
 have hrm:=bg_room hb
 simp at hrm
 have hnl:=h.hn
 have hP:=lhi (fun w3 (hb : Below w.heap.size w w3) => h.keep hb)
 have hN0:=lhi (next_at h 0 0 rfl (by decide))
 have hN1:=lhi (fun w3 (hb : Below w.heap.size w w3) => next_at (h.keep hb) 1 1 rfl (by decide))
 rw [show nx l (i + 0) = 92 from by rw [nx_drop,hr2];rfl] at hN0
 rw [show nx l (i + 1) = 123 from by rw [nx_drop,hr2];rfl] at hN1
 have hfin:=lhi (fun (w' : World) (x : Ending) (y : RBad w B T A n c l v i 13 x w') => y.node (pc:=true) (inG:=inG) (ns:=ns) (g:=g) (cl:=cl) (by omega) hc (fun ps lv => by rw [atom_esc hr2];rfl) (by decide))
 clear h hr2 hrm hnl hb
 go_enter Tryz.func54,Tryz.ntmps54
 go_wp2_with (first
  | (go_at_call 51;(with_reducible show Calls _ _ _ w _);refine (hN0.out).mono ?_;rintro e w1 ⟨rfl,hb1⟩;replace hb1:=lhi hb1)
  | (go_at_call 51;(with_reducible show Calls _ _ _ w1 _);refine (hN1.out _ hb1.out).mono ?_;rintro e w2 ⟨rfl,hb2⟩;replace hb2:=hb1.out.trans (hb2.mono hb1.out.size);have h2:=hP.out _ hb2;have c2:=h2.c2;have t2:=h2.thawed 2;have h3:=lhi (h2.erred 13 (z:=13) rfl);have k3:=lhi ((ChP.of_below (T:=T) (v:=v) hb2).trans (ChP.store w2 T 2 (.int .i64 13) v));clear h2))
 go_ret
 exact hfin.out _ _ ⟨0,v,_,_,_,rfl,h3.out,k3.out⟩
theorem rpiece_esc {first : Bool} {r : List UInt8} (hx : l.drop i = 92 :: r) (h41 : bg [41] r = false) (h123 : bg [123] r = false) (hB : ∀ k,k < n - i → RBrOK k) :
    Calls Tryz.prog 54 #[.pointer (some ⟨T,0,none⟩),.bool first] w (RNode true w B T A n c l v ns g i cl inG):=by
 obtain ⟨hi,hx1,hd⟩:=drop_at hx
 have hns : n ≤ 1000000:=h.txt.2.2.2.1
 have hc : inG = true → bg [92,41] (l.drop i) = false:=fun _ => by rw [hx,bg_cons,h41];rfl
 have hN0:=lhi (next_at h 0 0 rfl (by decide))
 have hN1:=lhi (fun w3 (hb : Below w.heap.size w w3) => next_at (h.keep hb) 1 1 rfl (by decide))
 rw [show nx l (i + 0) = 92 from by rw [nx_drop,hx];rfl] at hN0
 have hn1 : nx l (i + 1) = nx r 0:=by rw [nx_drop,hx,nx_succ]
 rw [hn1] at hN1
 have e123 : (nx r 0 == 123) = false:=by rw [bef];intro e;have:=(nx_eq r 123).mp e;rw [h123] at this;cases this
 have hG:=lhi (fun (hg : bg [40] r = true) w3 (hb : Below w.heap.size w w3) => rgroup_any (inG:=inG) (h.keep hb) (by rw [hx,bg_cons,hg];rfl) hB)
 have hE:=lhi (fun (hg : bg [40] r = false) w3 (hb : Below w.heap.size w w3) => rescape_any (inG:=inG) (h.keep hb) hx hc hg h41 h123)
 have e40 : (nx r 0 == 40) = bg [40] r:=by
  rw [Bool.eq_iff_iff,beq_iff_eq]
  exact iff_of_eq (nx_eq r 40)
 generalize hb40 : bg [40] r = b40 at *
 generalize nx r 0 = z1 at *
 clear h hx hx1 hd hi hc h41 h123 hb40 hn1 hB
 go_enter Tryz.func54,Tryz.ntmps54
 go_upto_if 33 with (first
  | (go_at_call 51;(with_reducible show Calls _ _ _ w _);refine (hN0.out).mono ?_;rintro e w1 ⟨rfl,hb1⟩;replace hb1:=lhi hb1)
  | (go_at_call 51;(with_reducible show Calls _ _ _ w1 _);refine (hN1.out _ hb1.out).mono ?_;rintro e w2 ⟨rfl,hb2⟩;replace hb2:=lhi (hb1.out.trans (hb2.mono hb1.out.size)))
  | (go_at_call 51;(with_reducible show Calls _ _ _ w2 _);refine (hN1.out _ hb2.out).mono ?_;rintro e w3 ⟨rfl,hb3⟩;replace hb3:=lhi (hb2.out.trans (hb3.mono hb2.out.size))))
 clear hN0 hN1
 go_cut [6,7] from 34 to 80 (fun s6 s7 wx => RNode false w B T A n c l v ns g i cl inG (.returned s6) wx)
 case first =>
  cases b40 with
  | true =>
   replace hG:=lhi (hG.out rfl _ hb3.out)
   clear hE
   go_wp2_with (go_at_call 74;refine (hG.out).mono ?_;intro x w4 hy;obtain ⟨z,rfl,hy⟩:=hy.ret;replace hy:=lhi (hy.from (ChP.of_below hb3.out)))
   go_meet
   exact hy.out
  | false =>
   replace hE:=lhi (hE.out rfl _ hb3.out)
   clear hG
   go_wp2_with (go_at_call 75;refine (hE.out).mono ?_;intro x w4 hy;obtain ⟨z,rfl,hy⟩:=hy.ret;replace hy:=lhi (hy.from (ChP.of_below hb3.out)))
   go_meet
   exact hy.out
 case rest =>
  clear hG hE e40 e123
  replace hcut:=lhi hcut
  go_wp2
  go_loopw [6,8,9,10,11] (fun a _ _ _ _ wr => RNode false w B T A n c l v ns g i cl inG (.returned a) wr) (fun _ _ _ _ _ wr => leftR n T wr)
  case atStart => exact hcut.out
  case round =>
   clear hcut
   rcases hrel with ⟨x,v2,ns2,g2,i2,cl2,ea,ok2,h2,k2,q1,q2,q3,-,q4⟩ | ⟨x,v2,ns2,g2,i2,cl2,e2,he2,ea,h2,k2,q4⟩
   · obtain rfl:=(Ending.returned.inj ea)
     clear ea
     have c2:=h2.c2
     have hle:=h2.le
     have hi2 : (i2 : Int) ≤ 1000000:=by omega
     have hnl:=h2.hn
     have hP:=lhi (fun w3 (hb : Below wr.heap.size wr w3) => h2.keep hb)
     have hN0:=lhi (fun w3 (hb : Below wr.heap.size wr w3) => next_at (h2.keep hb) 0 0 rfl (by decide))
     have hN1:=lhi (fun w3 (hb : Below wr.heap.size wr w3) => next_at (h2.keep hb) 1 1 rfl (by decide))
     rw [Nat.add_zero] at hN0
     have hx0:=lhi (show Below wr.heap.size wr wr from Below.refl _ _)
     cases hb1 : bg [42] (l.drop i2) with
     | true =>
      have hi3 : i2 + 1 ≤ n:=by have:=bg_room hb1;simp at this;omega
      rw [show nx l i2 = 42 from (nx_bg l i2 42).2 hb1] at hN0
      have hU:=lhi (fun w3 (h3 : Rdr w3 B T A n c l v2 ns2 g2 (i2 + 1) cl2 0) => rput_any h3 (repN x 0 (-1)) (fits_rep ok2 (by decide)))
      rw [show nodV (repN x 0 (-1)) = _ from nodV_z 4 x 0 0 (-1) 0] at hU
      have hfin:=lhi (fun w' z (hy : RPut wr B T A n c l v2 ns2 g2 (i2 + 1) cl2 (repN x 0 (-1)) (.returned (.int .i64 z)) w') => rep_next h2 k2 q1 q2 q3 q4 (show i2 < i2 + 1 by omega) (fun ps lv hl => step_star hb1 hl) (fun ps lv hl => step_star_full hb1 hl) hy)
      clear h2 k2 q1 q2 q3 q4 ok2 hN1 hb1 hnl
      go_wp2_with (first
       | (go_at_call 51;(with_reducible show Calls _ _ _ wr _);refine (hN0.out _ hx0.out).mono ?_;rintro y w1 ⟨rfl,hb1⟩;have h1:=hP.out _ hb1;have c1:=h1.c1;have t1:=h1.thawed 1;have h3:=lhi (h1.goto hi3 (z:=(i2 : Int) + 1) (by omega));have k3:=lhi ((ChP.of_below (T:=T) (v:=v2) hb1).trans (ChP.store w1 T 1 (.int .i64 ((i2 : Int) + 1)) v2));clear h1 hb1)
       | (go_at_call 30;refine (hU.out _ h3.out).mono ?_;intro y w4 hy;obtain ⟨z,rfl,hy⟩:=hy.ret;replace hy:=lhi (hfin.out _ _ (hy.from k3.out))))
      go_roundw
      case rel => exact hy.out.1
      case measure => exact hy.out.2
     | false =>
      have hz42 : (nx l i2 == 42) = false:=by rw [bef];intro e;rw [(nx_bg l i2 42).1 e] at hb1;cases hb1
      cases hb2 : bg [92,123] (l.drop i2) with
      | false =>
       have hfin:=lhi (show ∀ w',Below wr.heap.size wr w' → RNode true w B T A n c l v ns g i cl inG (.returned (.int .i64 x)) w' from fun w' hb => .inl ⟨x,v2,ns2,g2,i2,cl2,rfl,ok2,h2.keep hb,k2.trans (ChP.of_below hb),q1,q2,q3,fun _ => hb2,fun ps lv hlv => (q4 ps lv hlv).snoc (step_off hb1 hb2)⟩)
       by_cases h92 : nx l i2 = 92
       · have h123 : (nx l (i2 + 1) != 123) = true:=by
           rw [bne_iff_ne];intro e
           rw [two_bg h92 e] at hb2;cases hb2
         rw [h92] at hN0
         generalize nx l (i2 + 1) = z1 at *
         clear h2 k2 q1 q2 q3 q4 ok2 hb1 hb2 hnl hz42 h92
         go_wp2_with (first
          | (go_at_call 51;(with_reducible show Calls _ _ _ wr _);refine (hN0.out _ hx0.out).mono ?_;rintro y w1 ⟨rfl,hb1⟩;replace hb1:=lhi hb1)
          | (go_at_call 51;(with_reducible show Calls _ _ _ w1 _);refine (hN0.out _ hb1.out).mono ?_;rintro y w3 ⟨rfl,hb3⟩;replace hb3:=lhi (hb1.out.trans (hb3.mono hb1.out.size)))
          | (go_at_call 51;(with_reducible show Calls _ _ _ w3 _);refine (hN1.out _ hb3.out).mono ?_;rintro y w4 ⟨rfl,hb4⟩;replace hb4:=lhi (hb3.out.trans (hb4.mono hb3.out.size))))
         go_ret
         exact hfin.out _ hb4.out
       · have hz92 : (nx l i2 != 92) = true:=by rw [bne_iff_ne];exact h92
         generalize nx l i2 = z0 at *
         clear h2 k2 q1 q2 q3 q4 ok2 hb1 hb2 hnl h92 hN1
         go_wp2_with (first
          | (go_at_call 51;(with_reducible show Calls _ _ _ wr _);refine (hN0.out _ hx0.out).mono ?_;rintro y w1 ⟨rfl,hb1⟩;replace hb1:=lhi hb1)
          | (go_at_call 51;(with_reducible show Calls _ _ _ w1 _);refine (hN0.out _ hb1.out).mono ?_;rintro y w3 ⟨rfl,hb3⟩;replace hb3:=lhi (hb1.out.trans (hb3.mono hb1.out.size))))
         go_ret
         exact hfin.out _ hb3.out
      | true =>
       obtain ⟨r2,hr2⟩:=drop_two hb2
       have hrm:=bg_room hb2
       simp at hrm
       rw [show nx l i2 = 92 from by have:=nx_drop l i2 0;rw [Nat.add_zero] at this;rw [this,hr2];rfl] at hN0
       rw [show nx l (i2 + 1) = 123 from by rw [nx_drop,hr2];rfl] at hN1
       obtain ⟨p,hp⟩ : ∃ p,p = i2 + 2:=⟨_,rfl⟩
       have hwp : IntKind.i64.wrap ((i2 : Int) + 2) = (p : Int):=by rw [IntWalk.i64_in _ (by omega)];omega
       have hIv:=lhi (fun w3 (hb : Below wr.heap.size wr w3) => rinterval_any (h2.keep hb) (a:=p) (by omega))
       have hiv:=ivl_riv hb2
       rw [← hp] at hiv
       clear hz42 hr2
       cases hv : rivI l p with
       | none =>
        rw [hv] at hIv hiv
        unfold rivR at hIv
        have hfin:=lhi (show ∀ w' v',Rdr w' B T A n c l v' ns2 g2 i2 cl2 13 → ChP wr w' T v2 v' → RNode true w B T A n c l v ns g i cl inG (.returned (.int .i64 x)) w' from fun w' v' h3 k3 => .inr ⟨x,v',ns2,g2,i2,cl2,13,by decide,rfl,h3,k2.trans k3,fun ps lv hlv => (q4 ps lv hlv).ends (.bad (step_ivl_bad hb1 hb2 hiv))⟩)
        clear h2 k2 q1 q2 q3 q4 ok2 hb1 hb2 hnl hiv hv hp
        go_wp2_with (first
         | (go_at_call 51;(with_reducible show Calls _ _ _ wr _);refine (hN0.out _ hx0.out).mono ?_;rintro y w1 ⟨rfl,hb1⟩;replace hb1:=lhi hb1)
         | (go_at_call 51;(with_reducible show Calls _ _ _ w1 _);refine (hN0.out _ hb1.out).mono ?_;rintro y w3 ⟨rfl,hb3⟩;replace hb3:=lhi (hb1.out.trans (hb3.mono hb1.out.size)))
         | (go_at_call 51;(with_reducible show Calls _ _ _ w3 _);refine (hN1.out _ hb3.out).mono ?_;rintro y w4 ⟨rfl,hb4⟩;replace hb4:=hb3.out.trans (hb4.mono hb3.out.size);have h4:=hP.out _ hb4;have c1:=h4.c1;have c2b:=h4.c2;have t2:=h4.thawed 2;have h5:=lhi (h4.erred 13 (z:=13) rfl);have k5:=lhi ((ChP.of_below (T:=T) (v:=v2) hb4).trans (ChP.store w4 T 2 (.int .i64 13) v2));replace hb4:=lhi hb4;clear h4)
         | (go_at_call 78;refine (hIv.out _ hb4.out).mono ?_;rintro y w5 ⟨rfl,rfl⟩))
        go_ret
        exact hfin.out _ _ h5.out k5.out
       | some t3 =>
        obtain ⟨lo,hi,k⟩:=t3
        rw [hv] at hIv hiv
        unfold rivR at hIv
        have hkin:=riv_in (show p ≤ l.length by omega) hv
        have hk0 : (k : Int) ≤ 1000000:=by omega
        have hk00 : (0 : Int) ≤ (k : Int):=by omega
        obtain ⟨m,hm⟩ : ∃ m,m = k + 1:=⟨_,rfl⟩
        have hwm : IntKind.i64.wrap ((k : Int) + 1) = (m : Int):=by rw [IntWalk.i64_in _ (by omega)];omega
        have hm00 : (0 : Int) ≤ (m : Int):=by omega
        simp only at hiv
        by_cases hb3 : bg [92,125] (l.drop k) = true
        · rw [if_pos hb3] at hiv
          obtain ⟨r3,hr3⟩:=drop_two hb3
          have hrm3:=bg_room hb3
          simp at hrm3
          have hi3 : k + 2 ≤ n:=by omega
          obtain ⟨hk1,hx1,hd1⟩:=drop_at hr3
          obtain ⟨hk2,hx2,-⟩:=drop_at hd1
          rw [← hm] at hx2
          obtain ⟨ad,hA,hcell1⟩:=h2.byte hx1
          obtain ⟨ad2,hA2,hcell2⟩:=h2.byte hx2
          subst hA
          cases hA2
          have hmn : ¬ (n : Int) ≤ (m : Int):=by omega
          have hmn2 : ¬ n ≤ m:=by omega
          have hmn1 : (m : Int) < (n : Int):=by omega
          have hkn1 : (k : Int) < (n : Int):=by omega
          have htm:=(ivl_size hiv (by omega)).2.2
          have hBy:=lhi (fun w3 (hb : Below wr.heap.size wr w3) => (show w3.cell? (ad.add k) = some (.int .u8 92) ∧ w3.cell? (ad.add m) = some (.int .u8 125) from by
           obtain ⟨a1,e1,f1⟩:=(h2.keep hb).byte hx1
           obtain ⟨a2,e2,f2⟩:=(h2.keep hb).byte hx2
           cases e1
           cases e2
           exact ⟨f1,f2⟩))
          have hU:=lhi (fun w3 (h3 : Rdr w3 B T (some ad) n c l v2 ns2 g2 (k + 2) cl2 0) => rput_any h3 (repN x lo hi) (fits_rep ok2 htm))
          rw [show nodV (repN x lo hi) = _ from nodV_z 4 x 0 lo hi 0] at hU
          have hfin:=lhi (fun w' z (hy : RPut wr B T (some ad) n c l v2 ns2 g2 (k + 2) cl2 (repN x lo hi) (.returned (.int .i64 z)) w') => rep_next h2 k2 q1 q2 q3 q4 (show i2 < k + 2 by omega) (fun ps lv hl => step_ivl hb1 hb2 hiv hl) (fun ps lv hl => step_ivl_full hb1 hb2 hiv hl) hy)
          have hnc : n ≤ c:=h2.inp.2.1
          clear h2 k2 q1 q2 q3 q4 ok2 hb1 hb2 hnl hiv hv hp hr3 hd1 hx1 hx2 hm hcell1 hcell2 hb3 htm hrm hrm3
          go_wp2_with (first
           | (go_at_call 51;(with_reducible show Calls _ _ _ wr _);refine (hN0.out _ hx0.out).mono ?_;rintro y w1 ⟨rfl,hb1⟩;replace hb1:=lhi hb1)
           | (go_at_call 51;(with_reducible show Calls _ _ _ w1 _);refine (hN0.out _ hb1.out).mono ?_;rintro y w3 ⟨rfl,hb3⟩;replace hb3:=lhi (hb1.out.trans (hb3.mono hb1.out.size)))
           | (go_at_call 51;(with_reducible show Calls _ _ _ w3 _);refine (hN1.out _ hb3.out).mono ?_;rintro y w4 ⟨rfl,hb4⟩;replace hb4:=hb3.out.trans (hb4.mono hb3.out.size);have h4:=hP.out _ hb4;have c0:=h4.c0;have c1:=h4.c1;have t1:=h4.thawed 1;have hby:=hBy.out _ hb4;have by1:=hby.1;have by2:=hby.2;have h5:=lhi (h4.goto hi3 (z:=(k : Int) + 2) (by omega));have k5:=lhi ((ChP.of_below (T:=T) (v:=v2) hb4).trans (ChP.store w4 T 1 (.int .i64 ((k : Int) + 2)) v2));replace hb4:=lhi hb4;clear h4 hby)
           | (go_at_call 78;refine (hIv.out _ hb4.out).mono ?_;rintro y w5 ⟨rfl,rfl⟩)
           | (go_at_call 30;refine (hU.out _ h5.out).mono ?_;intro y w6 hy;obtain ⟨z,rfl,hy⟩:=hy.ret;replace hy:=lhi (hfin.out _ _ (hy.from k5.out))))
          go_roundw
          case rel => exact hy.out.1
          case measure => exact hy.out.2
        · rw [if_neg hb3] at hiv
          have hfin:=lhi (show ∀ w' v',Rdr w' B T A n c l v' ns2 g2 i2 cl2 13 → ChP wr w' T v2 v' → RNode true w B T A n c l v ns g i cl inG (.returned (.int .i64 x)) w' from fun w' v' h3 k3 => .inr ⟨x,v',ns2,g2,i2,cl2,13,by decide,rfl,h3,k2.trans k3,fun ps lv hlv => (q4 ps lv hlv).ends (.bad (step_ivl_bad hb1 hb2 hiv))⟩)
          by_cases hmn : m < n
          · have hx1 : l[k]? = some (l[k]'(by omega)):=List.getElem?_eq_getElem _
            have hx2 : l[m]? = some (l[m]'(by omega)):=List.getElem?_eq_getElem _
            have hno : l[k]'(by omega) ≠ 92 ∨ l[m]'(by omega) ≠ 125:=by
             by_cases e1 : l[k]'(by omega) = 92
             · refine .inr fun e2 => hb3 ?_
               rw [List.drop_eq_getElem_cons (show k < l.length by omega),bg_cons,e1]
               subst hm
               rw [List.drop_eq_getElem_cons (show k + 1 < l.length by omega),bg_cons,e2];rfl
             · exact .inl e1
            generalize l[k]'(by omega) = y1 at *
            generalize l[m]'(by omega) = y2 at *
            obtain ⟨ad,hA,hcell1⟩:=h2.byte hx1
            obtain ⟨ad2,hA2,hcell2⟩:=h2.byte hx2
            subst hA
            cases hA2
            have hmn3 : ¬ (n : Int) ≤ (m : Int):=by omega
            have hmn2 : ¬ n ≤ m:=by omega
            have hmn1 : (m : Int) < (n : Int):=by omega
            have hkn1 : (k : Int) < (n : Int):=by omega
            have hBy:=lhi (fun w3 (hb : Below wr.heap.size wr w3) => (show w3.cell? (ad.add k) = some (.int .u8 (y1.toNat : Int)) ∧ w3.cell? (ad.add m) = some (.int .u8 (y2.toNat : Int)) from by
             obtain ⟨a1,e1,f1⟩:=(h2.keep hb).byte hx1
             obtain ⟨a2,e2,f2⟩:=(h2.keep hb).byte hx2
             cases e1
             cases e2
             exact ⟨f1,f2⟩))
            have hnc : n ≤ c:=h2.inp.2.1
            have hne1 : ((y1.toNat : Int) != 92) = true ∨ (((y1.toNat : Int) != 92) = false ∧ ((y2.toNat : Int) != 125) = true):=by
             by_cases e1 : y1 = 92
             · exact .inr ⟨by subst e1;rfl,by rw [bne_iff_ne];intro e;exact (hno.resolve_left (fun k => k e1)) (UInt8.toNat_inj.1 (show y2.toNat = 125 by omega))⟩
             · exact .inl (by rw [bne_iff_ne];intro e;exact e1 (UInt8.toNat_inj.1 (show y1.toNat = 92 by omega)))
            clear h2 k2 q1 q2 q3 q4 ok2 hb1 hb2 hnl hiv hv hp hx1 hx2 hm hcell1 hcell2 hb3 hrm hno hmn
            generalize (y1.toNat : Int) = d1 at *
            generalize (y2.toNat : Int) = d2 at *
            rcases hne1 with hne1 | ⟨hne1,hne2⟩
            all_goals
             go_wp2_with (first
              | (go_at_call 51;(with_reducible show Calls _ _ _ wr _);refine (hN0.out _ hx0.out).mono ?_;rintro y w1 ⟨rfl,hb1⟩;replace hb1:=lhi hb1)
              | (go_at_call 51;(with_reducible show Calls _ _ _ w1 _);refine (hN0.out _ hb1.out).mono ?_;rintro y w3 ⟨rfl,hb3⟩;replace hb3:=lhi (hb1.out.trans (hb3.mono hb1.out.size)))
              | (go_at_call 51;(with_reducible show Calls _ _ _ w3 _);refine (hN1.out _ hb3.out).mono ?_;rintro y w4 ⟨rfl,hb4⟩;replace hb4:=hb3.out.trans (hb4.mono hb3.out.size);have h4:=hP.out _ hb4;have c0:=h4.c0;have c1:=h4.c1;have c2b:=h4.c2;have t2:=h4.thawed 2;have hby:=hBy.out _ hb4;have by1:=hby.1;have by2:=hby.2;have h5:=lhi (h4.erred 13 (z:=13) rfl);have k5:=lhi ((ChP.of_below (T:=T) (v:=v2) hb4).trans (ChP.store w4 T 2 (.int .i64 13) v2));replace hb4:=lhi hb4;clear h4 hby)
              | (go_at_call 78;refine (hIv.out _ hb4.out).mono ?_;rintro y w5 ⟨rfl,rfl⟩))
             go_ret
             exact hfin.out _ _ h5.out k5.out
          · have hmn3 : (n : Int) ≤ (m : Int):=by omega
            have hmn2 : n ≤ m:=by omega
            clear h2 k2 q1 q2 q3 q4 ok2 hb1 hb2 hnl hiv hv hp hm hb3 hrm hmn
            go_wp2_with (first
             | (go_at_call 51;(with_reducible show Calls _ _ _ wr _);refine (hN0.out _ hx0.out).mono ?_;rintro y w1 ⟨rfl,hb1⟩;replace hb1:=lhi hb1)
             | (go_at_call 51;(with_reducible show Calls _ _ _ w1 _);refine (hN0.out _ hb1.out).mono ?_;rintro y w3 ⟨rfl,hb3⟩;replace hb3:=lhi (hb1.out.trans (hb3.mono hb1.out.size)))
             | (go_at_call 51;(with_reducible show Calls _ _ _ w3 _);refine (hN1.out _ hb3.out).mono ?_;rintro y w4 ⟨rfl,hb4⟩;replace hb4:=hb3.out.trans (hb4.mono hb3.out.size);have h4:=hP.out _ hb4;have c0:=h4.c0;have c1:=h4.c1;have c2b:=h4.c2;have t2:=h4.thawed 2;have h5:=lhi (h4.erred 13 (z:=13) rfl);have k5:=lhi ((ChP.of_below (T:=T) (v:=v2) hb4).trans (ChP.store w4 T 2 (.int .i64 13) v2));replace hb4:=lhi hb4;clear h4)
             | (go_at_call 78;refine (hIv.out _ hb4.out).mono ?_;rintro y w5 ⟨rfl,rfl⟩))
            go_ret
            exact hfin.out _ _ h5.out k5.out
   · obtain rfl:=(Ending.returned.inj ea)
     clear ea
     have c2:=h2.c2
     have he : ((e2 : Int) == 0) = false:=by rw [bef];omega
     have hfin:=lhi (show RNode true w B T A n c l v ns g i cl inG (.returned (.int .i64 x)) wr from .inr ⟨x,v2,ns2,g2,i2,cl2,e2,he2,rfl,h2,k2,q4⟩)
     clear h2 k2 q4 he2
     go_wp2
     go_ret
     exact hfin.out
end
end Go.Proofs.YtonjnagcdnmcpaaGreatDoor
