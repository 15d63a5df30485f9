/- Contracts and plain facts: M18. -/
import Derived.Test.YtonjnagcdnmcpaaGreatDoorM17
set_option linter.unusedVariables false
set_option linter.unusedSimpArgs false
set_option maxRecDepth 100000
set_option maxHeartbeats 32000000
namespace Go.Proofs.YtonjnagcdnmcpaaGreatDoor
open Go.RowKit
theorem bbegins_is {A : Option Addr} {n c : Nat} {l : List UInt8} {w : World} (h : Inp w A n c l) (s : ByteArray) (b : Bool) (hb : bg s.data.toList l = b) :
    Calls Tryz.prog 69 #[.slice A n c,.string s] w fun e w' => e = .returned (.bool b) ∧ Below w.heap.size w w':=by
 have:=bbegins_any A n c l s w h
 rwa [hb] at this
def ivR : Option (Int × Int × Nat) → Ending
 | none => .returned (.tuple #[.int .i64 0,.int .i64 0,.int .i64 0,.bool false])
 | some (lo,hi,j) => .returned (.tuple #[.int .i64 lo,.int .i64 hi,.int .i64 (j : Int),.bool true])
theorem cat_toList (a b : ByteArray) : (a ++ b).data.toList = a.data.toList ++ b.data.toList:=by simp
theorem results_tmp4 {fn : Func} {t u v q : Tmp} (h : fn.results = #[.tmp t,.tmp u,.tmp v,.tmp q]) (tmps : Array Value) (P : Program) (w : World) :
    (results fn tmps).run P w = .ok (.tuple #[tmps.getD t undef,tmps.getD u undef,tmps.getD v undef,tmps.getD q undef]) w:=by
 simp [results,h]
theorem interval_any (sb se : ByteArray) (hse : 0 < se.size) (hsz : se.size ≤ 1000000) (hsb : sb.size ≤ 1000000) {A : Option Addr} {n c : Nat} {l : List UInt8} {w : World} (h : Inp w A n c l) :
    Calls Tryz.prog 96 #[.slice A n c,.string sb,.string se] w fun e w' => e = ivR (ivG sb.size se.data.toList l) ∧ Below w.heap.size w w':=by
 have hns : n ≤ 1000000:=h.2.2.2.1
 have hnc:=h.2.1
 have hcm:=h.2.2.1
 unfold maxLen at hcm
 have hnl:=h.1
 have hEl : se.data.toList.length = se.size:=(len_toList se)
 have hEn : bg se.data.toList [] = false:=by
  cases hq : se.data.toList with
  | nil => rw [hq] at hEl;simp at hEl;omega
  | cons a b => rfl
 have hNum:=lhi (fun (a : Int) (w1 : World) (hb : Below w.heap.size w w1) => num_any A c l n a 255 _ w1 h.1 ((h.grow hb).2.2.2.2.1) (by unfold maxLen;omega) hnc (by decide) (by decide))
 have hBg:=lhi (fun (k : Nat) (hk : k ≤ n) (w1 : World) (hb : Below w.heap.size w w1) (s : ByteArray) (r : Bool) (hr : bg s.data.toList (l.drop k) = r) => bbegins_is ((h.grow hb).drop hk) s r hr)
 have hR:=lhi (Below.refl w.heap.size w)
 have hbl:=lhi hnl
 clear h
 generalize hz : ivG sb.size se.data.toList l = Z
 replace hz:=lhi hz
 unfold ivG at hz
 simp only [hEl] at hz
 rcases hq : numS l (sb.size : Int) 255 with ⟨x,y,e⟩
 have hN1:=lhi (hNum.out (sb.size : Int) w hR.out)
 rw [hq] at hN1
 by_cases he : e = 0
 case neg =>
  obtain ⟨rfl,rfl⟩:=numS_bad hq he
  have hz' : none = Z:=by have:=hz.out;rw [hq,if_pos he] at this;exact this
  subst hz'
  have heb : (e != 0) = true:=by rw [bne_iff_ne];exact he
  clear hz hnl hq
  unfold three at hN1
  go_enter Tryz.func96,Tryz.ntmps96
  go_wp2_with (go_at_call 118;refine (hN1.out).mono ?_;rintro e w1 ⟨rfl,rfl⟩)
  (try simp only [Exit.inBlock,Exit.then])
  refine bodyPost_ret (results_tmp4 rfl _ _ _) rfl ?_
  exact ⟨rfl,hR.out⟩
 case pos =>
  subst he
  obtain ⟨k,rfl,h1,h2,h3,h4⟩:=numS_ok (a:=sb.size) hq
  have hkn : k ≤ n:=by omega
  have hz1:=hz.out
  rw [hq] at hz1
  simp only at hz1
  rw [if_neg (by simp),Int.toNat_natCast] at hz1
  replace hq:=lhi hq
  clear hz
  unfold three at hN1
  simp only at hN1
  cases hb1 : bg (44 :: se.data.toList) (l.drop k) with
  | true =>
   have hb2:=bg_tail hb1
   have hrm:=bg_room hb1
   simp only [List.length_cons,hEl] at hrm
   replace hrm : k + (se.size + 1) ≤ l.length:=hrm.resolve_left (by simp)
   rw [hb1,if_pos rfl] at hz1
   subst hz1
   have hB1:=lhi (hBg.out k hkn w hR.out (⟨#[44]⟩ ++ se) true (by rw [cat_toList];exact hb1))
   have hB2:=lhi (fun w1 hb => hBg.out (k + 1) (by omega) w1 hb se true hb2)
   have hck : ¬ c = k:=by omega
   have hck1 : ¬ c = k + 1:=by omega
   have hk3 : k + 1 + se.size ≤ n:=by omega
   clear hEl hEn
   rw [if_neg hck] at hB1
   rw [if_neg hck1,show (Option.map (fun x : Addr => x.add (k + 1)) A) = Option.map (fun x : Addr => ⟨x.block,x.off + (k + 1),none⟩) A from rfl] at hB2
   clear hb1 hb2 hNum hBg hnl h2
   go_enter Tryz.func96,Tryz.ntmps96
   go_wp2_with (first
    | (go_at_call 118;refine (hN1.out).mono ?_;rintro e w1 ⟨rfl,rfl⟩)
    | (go_at_call 69;with_reducible show Calls _ _ #[_,Value.string (ByteArray.mk #[44] ++ se)] _ _;refine (hB1.out).mono ?_;rintro e w1 ⟨rfl,hw1⟩)
    | (go_at_call 69;with_reducible show Calls _ _ #[_,Value.string se] _ _;refine (hB2.out _ hw1).mono ?_;rintro e w2 ⟨rfl,hw2⟩))
   (try simp only [Exit.inBlock,Exit.then])
   refine bodyPost_ret (results_tmp4 rfl _ _ _) rfl ?_
   exact ⟨by unfold ivR;go_num,hw1.trans (hw2.mono hw1.size)⟩
  | false =>
   rw [hb1,if_neg (by simp)] at hz1
   by_cases hck : c = k
   · have hdn : l.drop k = []:=List.drop_eq_nil_of_le (by omega)
     rw [hdn] at hz1
     have hz' : none = Z:=by
      have q:=hz1
      rw [show bg [44] ([] : List UInt8) = false from rfl,if_neg (by decide),hEn,if_neg (by decide)] at q
      exact q
     subst hz'
     have hB1:=lhi (hBg.out k hkn w hR.out (⟨#[44]⟩ ++ se) false (by rw [cat_toList];exact hb1))
     have hB2:=lhi (fun w1 hb => hBg.out k hkn w1 hb ⟨#[44]⟩ false (by rw [hdn];rfl))
     have hB3:=lhi (fun w1 hb => hBg.out k hkn w1 hb se false (by rw [hdn];exact hEn))
     obtain rfl : n = k:=by omega
     obtain rfl : c = n:=hck
     rw [if_pos rfl,Nat.sub_self] at hB1 hB2 hB3
     clear hb1 hNum hBg hnl h2 hdn hz1
     go_enter Tryz.func96,Tryz.ntmps96
     go_wp2_with (first
      | (go_at_call 118;refine (hN1.out).mono ?_;rintro e w1 ⟨rfl,rfl⟩)
      | (go_at_call 69;with_reducible show Calls _ _ #[_,Value.string (ByteArray.mk #[44] ++ se)] _ _;refine (hB1.out).mono ?_;rintro e w1 ⟨rfl,hw1⟩)
      | (go_at_call 69;with_reducible show Calls _ _ #[_,Value.string {data:=#[44]}] _ _;refine (hB2.out _ hw1).mono ?_;rintro e w2 ⟨rfl,hw2⟩;replace hw2:=hw1.trans (hw2.mono hw1.size))
      | (go_at_call 69;with_reducible show Calls _ _ #[_,Value.string se] _ _;refine (hB3.out _ hw2).mono ?_;rintro e w3 ⟨rfl,hw3⟩))
     (try simp only [Exit.inBlock,Exit.then])
     refine bodyPost_ret (results_tmp4 rfl _ _ _) rfl ?_
     exact ⟨rfl,hw2.trans (hw3.mono hw2.size)⟩
   · have hB1:=lhi (hBg.out k hkn w hR.out (⟨#[44]⟩ ++ se) false (by rw [cat_toList];exact hb1))
     rw [if_neg hck] at hB1
     cases hb2 : bg [44] (l.drop k) with
     | false =>
      have hB2:=lhi (fun w1 hb => hBg.out k hkn w1 hb ⟨#[44]⟩ false hb2)
      rw [if_neg hck] at hB2
      rw [hb2,if_neg (by simp)] at hz1
      cases hb3 : bg se.data.toList (l.drop k) with
      | false =>
       have hB3:=lhi (fun w1 hb => hBg.out k hkn w1 hb se false hb3)
       rw [if_neg hck] at hB3
       rw [hb3,if_neg (by simp)] at hz1
       subst hz1
       clear hb1 hb2 hb3 hNum hBg hnl h2
       go_enter Tryz.func96,Tryz.ntmps96
       go_wp2_with (first
        | (go_at_call 118;refine (hN1.out).mono ?_;rintro e w1 ⟨rfl,rfl⟩)
        | (go_at_call 69;with_reducible show Calls _ _ #[_,Value.string (ByteArray.mk #[44] ++ se)] _ _;refine (hB1.out).mono ?_;rintro e w1 ⟨rfl,hw1⟩)
        | (go_at_call 69;with_reducible show Calls _ _ #[_,Value.string {data:=#[44]}] _ _;refine (hB2.out _ hw1).mono ?_;rintro e w2 ⟨rfl,hw2⟩;replace hw2:=hw1.trans (hw2.mono hw1.size))
        | (go_at_call 69;with_reducible show Calls _ _ #[_,Value.string se] _ _;refine (hB3.out _ hw2).mono ?_;rintro e w3 ⟨rfl,hw3⟩))
       (try simp only [Exit.inBlock,Exit.then])
       refine bodyPost_ret (results_tmp4 rfl _ _ _) rfl ?_
       exact ⟨rfl,hw2.trans (hw3.mono hw2.size)⟩
      | true =>
       have hB3:=lhi (fun w1 hb => hBg.out k hkn w1 hb se true hb3)
       rw [if_neg hck] at hB3
       rw [hb3,if_pos rfl] at hz1
       subst hz1
       clear hb1 hb2 hb3 hNum hBg hnl h2
       go_enter Tryz.func96,Tryz.ntmps96
       go_wp2_with (first
        | (go_at_call 118;refine (hN1.out).mono ?_;rintro e w1 ⟨rfl,rfl⟩)
        | (go_at_call 69;with_reducible show Calls _ _ #[_,Value.string (ByteArray.mk #[44] ++ se)] _ _;refine (hB1.out).mono ?_;rintro e w1 ⟨rfl,hw1⟩)
        | (go_at_call 69;with_reducible show Calls _ _ #[_,Value.string {data:=#[44]}] _ _;refine (hB2.out _ hw1).mono ?_;rintro e w2 ⟨rfl,hw2⟩;replace hw2:=hw1.trans (hw2.mono hw1.size))
        | (go_at_call 69;with_reducible show Calls _ _ #[_,Value.string se] _ _;refine (hB3.out _ hw2).mono ?_;rintro e w3 ⟨rfl,hw3⟩))
       (try simp only [Exit.inBlock,Exit.then])
       refine bodyPost_ret (results_tmp4 rfl _ _ _) rfl ?_
       exact ⟨by unfold ivR;go_num,hw2.trans (hw3.mono hw2.size)⟩
     | true =>
      have hB2:=lhi (fun w1 hb => hBg.out k hkn w1 hb ⟨#[44]⟩ true hb2)
      rw [if_neg hck] at hB2
      rw [hb2,if_pos rfl] at hz1
      rcases hq2 : numS l ((k : Int) + 1) 255 with ⟨x2,y2,e2⟩
      have hN2:=lhi (fun w1 hb => hNum.out ((k : Int) + 1) w1 hb)
      rw [hq2] at hz1 hN2
      simp only at hz1
      unfold three at hN2
      simp only at hN2
      by_cases he2 : e2 = 0
      case neg =>
       obtain ⟨rfl,rfl⟩:=numS_bad hq2 he2
       rw [if_pos (.inl he2)] at hz1
       subst hz1
       have heb : (e2 != 0) = true:=by rw [bne_iff_ne];exact he2
       clear hb1 hb2 hNum hBg hnl h2 hq2 he2
       go_enter Tryz.func96,Tryz.ntmps96
       go_wp2_with (first
        | (go_at_call 118;with_reducible refine (hN1.out).mono ?_;rintro e w1 ⟨rfl,rfl⟩)
        | (go_at_call 118;refine (hN2.out _ hw2).mono ?_;rintro e w1 ⟨rfl,rfl⟩)
        | (go_at_call 69;with_reducible show Calls _ _ #[_,Value.string (ByteArray.mk #[44] ++ se)] _ _;refine (hB1.out).mono ?_;rintro e w1 ⟨rfl,hw1⟩)
        | (go_at_call 69;with_reducible show Calls _ _ #[_,Value.string {data:=#[44]}] _ _;refine (hB2.out _ hw1).mono ?_;rintro e w2 ⟨rfl,hw2⟩;replace hw2:=hw1.trans (hw2.mono hw1.size)))
       (try simp only [Exit.inBlock,Exit.then])
       refine bodyPost_ret (results_tmp4 rfl _ _ _) rfl ?_
       exact ⟨rfl,hw2⟩
      case pos =>
       subst he2
       obtain ⟨k2,rfl,g1,g2,g3,g4⟩:=numS_ok (a:=k + 1) (by rw [← hq2];rfl)
       replace hq2:=lhi hq2
       by_cases hlt : x2 < x
       · rw [if_pos (.inr hlt)] at hz1
         subst hz1
         have hdl : decide (x2 < x) = true:=decide_eq_true hlt
         clear hb1 hb2 hNum hBg hnl h2 g2
         go_enter Tryz.func96,Tryz.ntmps96
         go_wp2_with (first
          | (go_at_call 118;with_reducible refine (hN1.out).mono ?_;rintro e w1 ⟨rfl,rfl⟩)
          | (go_at_call 118;refine (hN2.out _ hw2).mono ?_;rintro e w1 ⟨rfl,rfl⟩)
          | (go_at_call 69;with_reducible show Calls _ _ #[_,Value.string (ByteArray.mk #[44] ++ se)] _ _;refine (hB1.out).mono ?_;rintro e w1 ⟨rfl,hw1⟩)
          | (go_at_call 69;with_reducible show Calls _ _ #[_,Value.string {data:=#[44]}] _ _;refine (hB2.out _ hw1).mono ?_;rintro e w2 ⟨rfl,hw2⟩;replace hw2:=hw1.trans (hw2.mono hw1.size)))
         (try simp only [Exit.inBlock,Exit.then])
         refine bodyPost_ret (results_tmp4 rfl _ _ _) rfl ?_
         exact ⟨rfl,hw2⟩
       · rw [if_neg (by simp;omega),Int.toNat_natCast] at hz1
         have hdl : decide (x2 < x) = false:=decide_eq_false hlt
         have hk2n : k2 ≤ n:=by omega
         cases hb3 : bg se.data.toList (l.drop k2) with
         | false =>
          rw [hb3,if_neg (by simp)] at hz1
          subst hz1
          have hB3:=lhi (fun w1 hb => hBg.out k2 hk2n w1 hb se false hb3)
          by_cases hck2 : c = k2
          · obtain rfl : n = k2:=by omega
            obtain rfl : c = n:=hck2
            rw [if_pos rfl,Nat.sub_self] at hB3
            clear hb1 hb2 hb3 hNum hBg hnl h2 g2
            go_enter Tryz.func96,Tryz.ntmps96
            go_wp2_with (first
             | (go_at_call 118;with_reducible refine (hN1.out).mono ?_;rintro e w1 ⟨rfl,rfl⟩)
             | (go_at_call 118;refine (hN2.out _ hw2).mono ?_;rintro e w1 ⟨rfl,rfl⟩)
             | (go_at_call 69;with_reducible show Calls _ _ #[_,Value.string (ByteArray.mk #[44] ++ se)] _ _;refine (hB1.out).mono ?_;rintro e w1 ⟨rfl,hw1⟩)
             | (go_at_call 69;with_reducible show Calls _ _ #[_,Value.string {data:=#[44]}] _ _;refine (hB2.out _ hw1).mono ?_;rintro e w2 ⟨rfl,hw2⟩;replace hw2:=hw1.trans (hw2.mono hw1.size))
             | (go_at_call 69;with_reducible show Calls _ _ #[_,Value.string se] _ _;refine (hB3.out _ hw2).mono ?_;rintro e w3 ⟨rfl,hw3⟩))
            (try simp only [Exit.inBlock,Exit.then])
            refine bodyPost_ret (results_tmp4 rfl _ _ _) rfl ?_
            exact ⟨rfl,hw2.trans (hw3.mono hw2.size)⟩
          · rw [if_neg hck2] at hB3
            clear hb1 hb2 hb3 hNum hBg hnl h2 g2
            go_enter Tryz.func96,Tryz.ntmps96
            go_wp2_with (first
             | (go_at_call 118;with_reducible refine (hN1.out).mono ?_;rintro e w1 ⟨rfl,rfl⟩)
             | (go_at_call 118;refine (hN2.out _ hw2).mono ?_;rintro e w1 ⟨rfl,rfl⟩)
             | (go_at_call 69;with_reducible show Calls _ _ #[_,Value.string (ByteArray.mk #[44] ++ se)] _ _;refine (hB1.out).mono ?_;rintro e w1 ⟨rfl,hw1⟩)
             | (go_at_call 69;with_reducible show Calls _ _ #[_,Value.string {data:=#[44]}] _ _;refine (hB2.out _ hw1).mono ?_;rintro e w2 ⟨rfl,hw2⟩;replace hw2:=hw1.trans (hw2.mono hw1.size))
             | (go_at_call 69;with_reducible show Calls _ _ #[_,Value.string se] _ _;refine (hB3.out _ hw2).mono ?_;rintro e w3 ⟨rfl,hw3⟩))
            (try simp only [Exit.inBlock,Exit.then])
            refine bodyPost_ret (results_tmp4 rfl _ _ _) rfl ?_
            exact ⟨rfl,hw2.trans (hw3.mono hw2.size)⟩
         | true =>
          have hrm : k2 + se.size ≤ l.length:=by
           rcases bg_room hb3 with e | e
           · rw [e] at hEl;simp at hEl;omega
           · rw [hEl] at e;exact e
          rw [hb3,if_pos rfl] at hz1
          subst hz1
          have hB3:=lhi (fun w1 hb => hBg.out k2 hk2n w1 hb se true hb3)
          have hck2 : ¬ c = k2:=by omega
          rw [if_neg hck2] at hB3
          clear hb1 hb2 hb3 hNum hBg hnl h2 g2 hrm
          go_enter Tryz.func96,Tryz.ntmps96
          go_wp2_with (first
           | (go_at_call 118;with_reducible refine (hN1.out).mono ?_;rintro e w1 ⟨rfl,rfl⟩)
           | (go_at_call 118;refine (hN2.out _ hw2).mono ?_;rintro e w1 ⟨rfl,rfl⟩)
           | (go_at_call 69;with_reducible show Calls _ _ #[_,Value.string (ByteArray.mk #[44] ++ se)] _ _;refine (hB1.out).mono ?_;rintro e w1 ⟨rfl,hw1⟩)
           | (go_at_call 69;with_reducible show Calls _ _ #[_,Value.string {data:=#[44]}] _ _;refine (hB2.out _ hw1).mono ?_;rintro e w2 ⟨rfl,hw2⟩;replace hw2:=hw1.trans (hw2.mono hw1.size))
           | (go_at_call 69;with_reducible show Calls _ _ #[_,Value.string se] _ _;refine (hB3.out _ hw2).mono ?_;rintro e w3 ⟨rfl,hw3⟩))
          (try simp only [Exit.inBlock,Exit.then])
          refine bodyPost_ret (results_tmp4 rfl _ _ _) rfl ?_
          exact ⟨by unfold ivR;go_num,hw2.trans (hw3.mono hw2.size)⟩
theorem isAlnum_atm (c : UInt8) (w : World) : Calls Tryz.prog 131 #[.int .u8 (c.toNat : Int)] w fun e w' => e = .returned (.bool (isAl c)) ∧ w = w':=by
 have h:=lhi (is_any ⟨#[97,108,110,117,109]⟩ (c.toNat : Int) w)
 rw [show clsOf (ByteArray.mk #[97,108,110,117,109]).toList (c.toNat : Int) = some (isAl c) from by
  rw [ByteArray.toList_eq];rfl] at h
 generalize isAl c = r at *
 go_enter Tryz.func131,Tryz.ntmps131
 go_wp2_with (go_at_call 150;refine (h.out).mono ?_;rintro e w' ⟨rfl,rfl⟩)
 go_ret
 exact ⟨rfl,rfl⟩
section
variable {w : World} {B T : Nat} {A : Option Addr} {n c : Nat} {l : List UInt8} {v : Value} {ns : List Nod} {g i : Nat} {cl : Nat → Bool} (h : Psr w B T A n c l v ns g i cl 0)
include h
theorem wrong_at (q : Nat) (qq : Int) (hq : qq = (q : Int)) : Calls Tryz.prog 66 #[.pointer (some ⟨T,0,none⟩),.int .i64 qq] w (YBad w B T A n c l v i q) :=
 (wrong_any h q qq hq).mono fun e w' ⟨h1,h2,h3⟩ => ⟨v,ns,g,cl,h1,h2,h3⟩
theorem back_no (q : Nat) (hq : q ≤ 9) (hc : cl q = false) : Calls Tryz.prog 130 #[.pointer (some ⟨T,0,none⟩),.int .i64 (q : Int)] w (YBad w B T A n c l v i 16):=by
 have c3:=h.c3
 have cq:=h.cQ q hq
 rw [hc] at cq
 have hW:=lhi (wrong_at h 16 16 rfl)
 have hq0 : (0 : Int) ≤ (q : Int):=by omega
 have hq1 : (q : Int) < 10:=by omega
 clear h hc
 go_enter Tryz.func130,Tryz.ntmps130
 go_wp2_with (go_at_call 66;refine (hW.out).mono ?_;rintro e w' ⟨v',ns',g',cl',rfl,h2,h3⟩;replace h2:=lhi h2;replace h3:=lhi h3)
 go_ret
 exact ⟨v',ns',g',cl',rfl,h2.out,h3.out⟩
theorem back_yes (q : Nat) (hq : q ≤ 9) (hc : cl q = true) (hi : i + 2 ≤ n) : Calls Tryz.prog 130 #[.pointer (some ⟨T,0,none⟩),.int .i64 (q : Int)] w (YPut w B T A n c l v ns g cl (i + 2) (backN (q : Int))):=by
 have hns : n ≤ 1000000:=h.txt.2.2.2.1
 have c3:=h.c3
 have t3:=h.thawed 3
 have cq:=h.cQ q hq
 rw [hc] at cq
 have hq0 : (0 : Int) ≤ (q : Int):=by omega
 have hq1 : (q : Int) < 10:=by omega
 have hqg:=h.clg q hc
 have hf:=lhi (fits_back (q:=(q : Int)) (t:=(ns.length : Int)) (g:=(g : Int)) (by omega) (by omega))
 have h1:=lhi (h.goto' (j:=i + 2) hi (z:=(i : Int) + 2) (by omega))
 have hx:=lhi (ChP.store w T 3 (.int .i64 ((i : Int) + 2)) v)
 have hP:=lhi (back_any B T 0 v ns g _ h1.out.bldr (q : Int))
 have hi0 : (i : Int) ≤ 1000000:=by omega
 clear h hc hqg
 by_cases hl : ns.length < 1000
 · have hl':=lhi hl
   go_enter Tryz.func130,Tryz.ntmps130
   go_wp2_with (first
    | (go_at_call 149;refine (hP.out).mono ?_;intro x w2 hx2;obtain ⟨v2,rfl,h2,k2⟩:=h1.out.room hl'.out hf.out hx2;clear hx2;replace h2:=lhi h2;replace k2:=lhi (hx.out.trans k2))
    | (go_at_call 44;refine (put_yes T ns.length _).mono ?_;rintro x w3 ⟨rfl,rfl⟩))
   go_ret
   exact YPut.yes hl'.out h2.out k2.out
 · have hl':=lhi hl
   go_enter Tryz.func130,Tryz.ntmps130
   go_wp2_with (first
    | (go_at_call 149;refine (hP.out).mono ?_;intro x w2 hx2;obtain ⟨v2,rfl,h2,k2⟩:=h1.out.full hl'.out hx2;clear hx2;replace h2:=lhi h2;replace k2:=lhi (hx.out.trans k2))
    | (go_at_call 44;refine (put_no h2.out).mono ?_;rintro x w3 ⟨rfl,h3,k3⟩;replace h3:=lhi h3;replace k3:=lhi (k2.out.trans k3)))
   go_ret
   exact YPut.no hl'.out h3.out k3.out
theorem times_no (sb se : ByteArray) (hse : 0 < se.size) (hsz : se.size ≤ 1000000) (hsb : sb.size ≤ 1000000) (x : Int) (hv : ivlG sb.size se.data.toList l i = none) : Calls Tryz.prog 72 #[.pointer (some ⟨T,0,none⟩),.int .i64 x,.string sb,.string se] w (YBad w B T A n c l v i 13):=by
 have c2:=h.c2
 have c3:=h.c3
 have hle:=h.le
 have hnc:=h.inp.2.1
 have hcm:=h.inp.2.2.1
 unfold maxLen at hcm
 have hv' : ivG sb.size se.data.toList (l.drop i) = none:=by unfold ivlG at hv;simpa using hv
 have hI:=lhi (fun w1 (hb : Below w.heap.size w w1) => interval_any sb se hse hsz hsb ((h.keep hb).inp.drop hle))
 rw [hv'] at hI
 unfold ivR at hI
 have hx:=lhi (show Below w.heap.size w w from Below.refl _ _)
 have hW:=lhi (fun w1 (hb : Below w.heap.size w w1) => wrong_at (h.keep hb) 13 13 rfl)
 have hK:=lhi (fun w1 (hb : Below w.heap.size w w1) => (h.keep hb).c3)
 clear h hv hv'
 by_cases hck : c = i
 · obtain rfl : n = i:=by omega
   obtain rfl : c = n:=hck
   rw [if_pos rfl,Nat.sub_self] at hI
   go_enter Tryz.func72,Tryz.ntmps72
   go_wp2_with (first
    | (go_region_with ((go_at_call 96;refine (hI.out _ hx.out.drew).mono ?_;rintro e w1 ⟨rfl,hb1⟩;replace hb1:=hx.out.drew.trans hb1;have c3:=hK.out _ hb1;replace hb1:=lhi hb1)))
    | (go_at_call 66;refine (hW.out _ hb1.out).mono ?_;rintro e w' ⟨v',ns',g',cl',rfl,h2,h3⟩;replace h2:=lhi h2;replace h3:=lhi ((ChP.of_below hb1.out).trans h3)))
   all_goals
    go_ret
    exact ⟨v',ns',g',cl',rfl,h2.out,h3.out⟩
 · rw [if_neg hck] at hI
   go_enter Tryz.func72,Tryz.ntmps72
   go_wp2_with (first
    | (go_region_with ((go_at_call 96;refine (hI.out _ hx.out.drew).mono ?_;rintro e w1 ⟨rfl,hb1⟩;replace hb1:=hx.out.drew.trans hb1;have c3:=hK.out _ hb1;replace hb1:=lhi hb1)))
    | (go_at_call 66;refine (hW.out _ hb1.out).mono ?_;rintro e w' ⟨v',ns',g',cl',rfl,h2,h3⟩;replace h2:=lhi h2;replace h3:=lhi ((ChP.of_below hb1.out).trans h3)))
   all_goals
    go_ret
    exact ⟨v',ns',g',cl',rfl,h2.out,h3.out⟩
theorem times_yes (sb se : ByteArray) (hse : 0 < se.size) (hsz : se.size ≤ 1000000) (hsb : sb.size ≤ 1000000) (x : Int) (hok : okP (ns.length : Int) x = true) {lo hi : Int} {j : Nat} (hv : ivlG sb.size se.data.toList l i = some (lo,hi,j)) : Calls Tryz.prog 72 #[.pointer (some ⟨T,0,none⟩),.int .i64 x,.string sb,.string se] w (YPut w B T A n c l v ns g cl j (repN x lo hi)):=by
 have c2:=h.c2
 have c3:=h.c3
 have hle:=h.le
 have hnc:=h.inp.2.1
 have hcm:=h.inp.2.2.1
 have hns : n ≤ 1000000:=h.txt.2.2.2.1
 unfold maxLen at hcm
 obtain ⟨k,hv',hjk⟩ : ∃ k,ivG sb.size se.data.toList (l.drop i) = some (lo,hi,k) ∧ i + k = j:=by
  unfold ivlG at hv
  obtain ⟨⟨a,b,k⟩,h1,h2⟩:=Option.map_eq_some_iff.1 hv
  simp only [Prod.mk.injEq] at h2
  obtain ⟨rfl,rfl,rfl⟩:=h2
  exact ⟨k,h1,rfl⟩
 have hiv:=ivG_ok (fun e => by have:=len_toList se;rw [e] at this;simp at this;omega) hv'
 have hnl:=h.hn
 have hlen : (l.drop i).length = l.length - i:=List.length_drop
 have hck : ¬ c = i:=by omega
 have hI:=lhi (fun w1 (hb : Below w.heap.size w w1) => interval_any sb se hse hsz hsb ((h.keep hb).inp.drop hle))
 rw [hv',if_neg hck] at hI
 unfold ivR at hI
 have hjn : i + k ≤ n:=by omega
 have hx:=lhi (show Below w.heap.size w w from Below.refl _ _)
 have hP:=lhi (fun w1 (hb : Below w.heap.size w w1) => (h.keep hb))
 have hf:=lhi (fits_rep (g:=(g : Int)) hok hiv.2.1)
 have hj':=lhi hjk
 have hi0 : (i : Int) ≤ 1000000:=by omega
 have hk0 : (k : Int) ≤ 1000000:=by omega
 clear h hv hv' hok hiv hjk hlen hnl
 by_cases hl : ns.length < 1000
 · have hl':=lhi hl
   go_enter Tryz.func72,Tryz.ntmps72
   go_wp2_with (first
    | (go_region_with ((go_at_call 96;refine (hI.out _ hx.out.drew).mono ?_;rintro e w1 ⟨rfl,hb1⟩;replace hb1:=hx.out.drew.trans hb1;have h0:=lhi (hP.out _ hb1);have c3:=h0.out.c3;have t3:=h0.out.thawed 3;replace hb1:=lhi hb1;have h1:=lhi (h0.out.goto' hjn (z:=(i : Int) + (k : Int)) (by omega)))))
    | (go_at_call 71;refine (rep_any B T 0 v ns g _ h1.out.bldr x lo hi).mono ?_;intro x w2 hx2;obtain ⟨v2,rfl,h2,k2⟩:=h1.out.room hl'.out hf.out hx2;clear hx2;replace h2:=lhi h2;replace k2:=lhi (((ChP.of_below hb1.out).trans (ChP.store w1 T 3 (.int .i64 ((i : Int) + (k : Int))) v)).trans k2))
    | (go_at_call 44;refine (put_yes T ns.length _).mono ?_;rintro x w3 ⟨rfl,rfl⟩))
   all_goals
    go_ret
    exact YPut.yes hl'.out (by rw [← hj'.out];exact h2.out) k2.out
 · have hl':=lhi hl
   go_enter Tryz.func72,Tryz.ntmps72
   go_wp2_with (first
    | (go_region_with ((go_at_call 96;refine (hI.out _ hx.out.drew).mono ?_;rintro e w1 ⟨rfl,hb1⟩;replace hb1:=hx.out.drew.trans hb1;have h0:=lhi (hP.out _ hb1);have c3:=h0.out.c3;have t3:=h0.out.thawed 3;replace hb1:=lhi hb1;have h1:=lhi (h0.out.goto' hjn (z:=(i : Int) + (k : Int)) (by omega)))))
    | (go_at_call 71;refine (rep_any B T 0 v ns g _ h1.out.bldr x lo hi).mono ?_;intro x w2 hx2;obtain ⟨v2,rfl,h2,k2⟩:=h1.out.full hl'.out hx2;clear hx2;replace h2:=lhi h2;replace k2:=lhi (((ChP.of_below hb1.out).trans (ChP.store w1 T 3 (.int .i64 ((i : Int) + (k : Int))) v)).trans k2))
    | (go_at_call 44;refine (put_no h2.out).mono ?_;rintro x w3 ⟨rfl,h3,k3⟩;replace h3:=lhi h3;replace k3:=lhi (k2.out.trans k3)))
   all_goals
    go_ret
    exact YPut.no hl'.out (by rw [← hj'.out];exact h3.out) k3.out
end
theorem setC_lit (f : Nat → Bool) : setC f = #[.int .u64 (wd f 0 : Nat),.int .u64 (wd f 1 : Nat),.int .u64 (wd f 2 : Nat),.int .u64 (wd f 3 : Nat)]:=rfl
theorem cell_far4 {w : World} {a : Addr} {G : Nat} {u0 u1 u2 u3 v : Value} (h : w.cell? a = some v) (hne : a.block ≠ G) : ((((w.setCell ⟨G,0,none⟩ u0).setCell ⟨G,1,none⟩ u1).setCell ⟨G,2,none⟩ u2).setCell ⟨G,3,none⟩ u3).cell? a = some v:=by
 rw [World.cell?_of_block ((heap_setCell_other _ ⟨G,3,none⟩ a.block u3 hne).trans ((heap_setCell_other _ ⟨G,2,none⟩ a.block u2 hne).trans ((heap_setCell_other _ ⟨G,1,none⟩ a.block u1 hne).trans (heap_setCell_other w ⟨G,0,none⟩ a.block u0 hne))))]
 exact h
section
variable {w : World} {B T : Nat} {A : Option Addr} {n c : Nat} {l : List UInt8} {v : Value} {ns : List Nod} {g i : Nat} {cl : Nat → Bool} (h : Psr w B T A n c l v ns g i cl 0)
include h
theorem Psr.two : w.cell? ⟨T,2,none⟩ = some (.slice A n c) ∧ w.cell? ⟨T,3,none⟩ = some (.int .i64 (i : Int)):=⟨h.c2,h.c3⟩
theorem bracket_no (hi : i < n) {e : Nat} (hv : readB l (i + 1) = .error e) : Calls Tryz.prog 116 #[.pointer (some ⟨T,0,none⟩)] w (YBad w B T A n c l v i e):=by
 have c2:=h.c2
 have c3:=h.c3
 have hns : n ≤ 1000000:=h.txt.2.2.2.1
 have hTl:=h.lt
 have hTG : T ≠ w.heap.size:=by omega
 have he : ((e : Int) != 0) = true:=by have:=readB_wrong hv;rw [bne_iff_ne];omega
 have hP:=lhi (fun w1 (hb : Below w.heap.size w w1) => parse_any (h.keep hb).inp (i + 1) (by omega))
 rw [hv] at hP
 rw [show told (.error e) = (noneF,0,e) from rfl] at hP
 simp only at hP
 rw [show setC noneF = #[.int .u64 0,.int .u64 0,.int .u64 0,.int .u64 0] from setC_noneF,show (((i + 1 : Nat)) : Int) = (i : Int) + 1 by omega] at hP
 have hx:=lhi (show Below w.heap.size w w from Below.refl _ _)
 have hx2:=lhi (show Below w.heap.size w (w.alloc (.cells #[.int .u64 0,.int .u64 0,.int .u64 0,.int .u64 0] 41)) from (Below.refl _ _).alloc (nlr _) _)
 have hW:=lhi (fun w1 (hb : Below w.heap.size w w1) => wrong_at (h.keep hb) e (e : Int) rfl)
 have hK:=lhi (fun w1 (hb : Below w.heap.size w w1) => (h.keep hb).two)
 have hZ:=lhi (held_new w 41 #[.int .u64 0,.int .u64 0,.int .u64 0,.int .u64 0])
 have hi1 : i + 1 ≤ n:=hi
 have hw1 : IntKind.i64.wrap ((i : Int) + 1) = (i : Int) + 1:=IntWalk.i64_in _ (by omega)
 have hKa:=lhi (hK.out _ hx.out.drew)
 have hKb:=lhi (hK.out _ hx2.out.drew)
 have hPa:=lhi (hP.out _ hx.out.drew)
 have hPb:=lhi (hP.out _ hx2.out.drew)
 clear h hv hP
 go_enter Tryz.func116,Tryz.ntmps116
 go_wp2
 go_region_held3 (fun w' => w'.cell? ⟨T,2,none⟩ = some (.slice A n c) ∧ w'.cell? ⟨T,3,none⟩ = some (.int .i64 (i : Int)))
  (first | with_reducible exact hKa.out | with_reducible exact hKb.out | with_reducible exact hK1.out | with_reducible exact ⟨cell_far4 hK1.out.1 hTG,cell_far4 hK1.out.2 hTG⟩ | go_keep)
  (first
  | (go_at_call 129;(with_reducible refine (hPa.out).mono ?_);rintro y w1 ⟨rfl,hb1⟩;replace hb1:=hx.out.drew.trans hb1;have hK1:=lhi (hK.out _ hb1);replace hb1:=lhi hb1)
  | (go_at_call 129;(with_reducible refine (hPb.out).mono ?_);rintro y w1 ⟨rfl,hb1⟩;have hZ1:=hZ.out.drew.keep hb1;have z:=hZ1.cells4;have y0:=hZ1.thawed 0;have y1:=hZ1.thawed 1;have y2:=hZ1.thawed 2;have y3:=hZ1.thawed 3;replace hZ1:=lhi hZ1;replace hb1:=hx2.out.drew.trans (hb1.mono hx2.out.drew.size);have hK1:=lhi (hK.out _ hb1);replace hb1:=lhi hb1))
 · have hB4:=hb1.out.alloc hb1.out.size (.cells #[.int .u64 0,.int .u64 0,.int .u64 0,.int .u64 0] 41)
   generalize w1.alloc (.cells #[.int .u64 0,.int .u64 0,.int .u64 0,.int .u64 0] 41) = w4 at *
   have k3:=(hK.out _ hB4).2
   replace hB4:=lhi hB4
   clear hKa hKb hPa hPb hK1 hZ hx hx2 hb1
   go_wp2_with (go_at_call 66;(with_reducible refine (hW.out _ hB4.out).mono ?_);rintro y w' ⟨v',ns',g',cl',rfl,h2,h3⟩;replace h2:=lhi h2;replace h3:=lhi ((ChP.of_below hB4.out).trans h3))
   go_ret
   exact ⟨v',ns',g',cl',rfl,h2.out,h3.out⟩
 · have hB4:=(((hb1.out.setCell (p:=⟨w.heap.size,0,none⟩) (nlr _) (.int .u64 0)).setCell (p:=⟨w.heap.size,1,none⟩) (nlr _) (.int .u64 0)).setCell (p:=⟨w.heap.size,2,none⟩) (nlr _) (.int .u64 0)).setCell (p:=⟨w.heap.size,3,none⟩) (nlr _) (.int .u64 0)
   generalize (((w1.setCell ⟨w.heap.size,0,none⟩ (.int .u64 0)).setCell ⟨w.heap.size,1,none⟩ (.int .u64 0)).setCell ⟨w.heap.size,2,none⟩ (.int .u64 0)).setCell ⟨w.heap.size,3,none⟩ (.int .u64 0) = w4 at *
   have k3:=(hK.out _ hB4).2
   replace hB4:=lhi hB4
   clear hKa hKb hPa hPb hK1 hZ hx hx2 hb1
   go_wp2_with (go_at_call 66;(with_reducible refine (hW.out _ hB4.out).mono ?_);rintro y w' ⟨v',ns',g',cl',rfl,h2,h3⟩;replace h2:=lhi h2;replace h3:=lhi ((ChP.of_below hB4.out).trans h3))
   go_ret
   exact ⟨v',ns',g',cl',rfl,h2.out,h3.out⟩
omit h in
theorem YPut.ret {w' : World} {j : Nat} {nd : Nod} {e : Ending} (h : YPut w B T A n c l v ns g cl j nd e w') : ∃ z,e = .returned (.int .i64 z) ∧ YPut w B T A n c l v ns g cl j nd (.returned (.int .i64 z)) w':=by
 rcases h with ⟨a,v',rfl,k,m⟩ | ⟨a,v',rfl,k,m⟩
 · exact ⟨_,rfl,.inl ⟨a,v',rfl,k,m⟩⟩
 · exact ⟨_,rfl,.inr ⟨a,v',rfl,k,m⟩⟩
structure StS (w0 w : World) (G : Nat) (cs : Array Value) : Prop where
 low : Below w0.heap.size w0 w
 s : Held w G 41 cs
 new : w0.heap.size ≤ G
theorem bracket_yes (hi : i < n) {f : Nat → Bool} {j : Nat} (hv : readB l (i + 1) = .ok (f,j)) : Calls Tryz.prog 116 #[.pointer (some ⟨T,0,none⟩)] w (YPut w B T A n c l v ns g cl j (setN f)):=by
 have c2:=h.c2
 have c3:=h.c3
 have hns : n ≤ 1000000:=h.txt.2.2.2.1
 have hTl:=h.lt
 have hTG : T ≠ w.heap.size:=by omega
 have hnl:=h.hn
 have hj:=readB_size (by omega) hv
 have hP:=lhi (fun w1 (hb : Below w.heap.size w w1) => parse_any (h.keep hb).inp (i + 1) (by omega))
 rw [hv] at hP
 rw [show told (.ok (f,j)) = (f,j,0) from rfl] at hP
 simp only at hP
 rw [show (((i + 1 : Nat)) : Int) = (i : Int) + 1 by omega] at hP
 have hS:=lhi (fun w1 (hb : Below w.heap.size w w1) => bset_any (h.keep hb) (j - i) ((j : Int) - (i : Int)) (by omega) (by omega) f)
 rw [show i + (j - i) = j by omega] at hS
 rw [setC_lit f] at hP hS
 generalize wd f 0 = s0 at *
 generalize wd f 1 = s1 at *
 generalize wd f 2 = s2 at *
 generalize wd f 3 = s3 at *
 have hx:=lhi (show Below w.heap.size w w from Below.refl _ _)
 have hx2:=lhi (show Below w.heap.size w (w.alloc (.cells #[.int .u64 0,.int .u64 0,.int .u64 0,.int .u64 0] 41)) from (Below.refl _ _).alloc (nlr _) _)
 have hK:=lhi (fun w1 (hb : Below w.heap.size w w1) => (h.keep hb).two)
 have hZ:=lhi (held_new w 41 #[.int .u64 0,.int .u64 0,.int .u64 0,.int .u64 0])
 have hi1 : i + 1 ≤ n:=hi
 have hw1 : IntKind.i64.wrap ((i : Int) + 1) = (i : Int) + 1:=IntWalk.i64_in _ (by omega)
 have hw2 : IntKind.i64.wrap ((j : Int) - (i : Int)) = (j : Int) - (i : Int):=IntWalk.i64_in _ (by omega)
 have hKa:=lhi (hK.out _ hx.out.drew)
 have hKb:=lhi (hK.out _ hx2.out.drew)
 have hPa:=lhi (hP.out _ hx.out.drew)
 have hPb:=lhi (hP.out _ hx2.out.drew)
 clear h hv hP hj hnl
 go_enter Tryz.func116,Tryz.ntmps116
 go_wp2
 go_region_held3 (fun w' => w'.cell? ⟨T,2,none⟩ = some (.slice A n c) ∧ w'.cell? ⟨T,3,none⟩ = some (.int .i64 (i : Int)))
  (first | with_reducible exact hKa.out | with_reducible exact hKb.out | with_reducible exact hK1.out | with_reducible exact hKc.out | with_reducible exact ⟨cell_far4 hK1.out.1 hTG,cell_far4 hK1.out.2 hTG⟩ | go_keep)
  (first
  | (go_at_call 129;(with_reducible refine (hPa.out).mono ?_);rintro y w1 ⟨rfl,hb1⟩;replace hb1:=hx.out.drew.trans hb1;have hK1:=lhi (hK.out _ hb1);have hKc:=lhi (hK.out _ (hb1.alloc hb1.size (.cells #[.int .u64 (s0 : Int),.int .u64 (s1 : Int),.int .u64 (s2 : Int),.int .u64 (s3 : Int)] 41)));replace hb1:=lhi hb1)
  | (go_at_call 129;(with_reducible refine (hPb.out).mono ?_);rintro y w1 ⟨rfl,hb1⟩;have hZ1:=hZ.out.drew.keep hb1;have z:=hZ1.cells4;have y0:=hZ1.thawed 0;have y1:=hZ1.thawed 1;have y2:=hZ1.thawed 2;have y3:=hZ1.thawed 3;replace hZ1:=lhi hZ1;replace hb1:=hx2.out.drew.trans (hb1.mono hx2.out.drew.size);have hK1:=lhi (hK.out _ hb1);replace hb1:=lhi hb1))
 · have hQ:=lhi (show StS w (w1.alloc (.cells #[.int .u64 (s0 : Int),.int .u64 (s1 : Int),.int .u64 (s2 : Int),.int .u64 (s3 : Int)] 41)) w1.heap.size #[.int .u64 (s0 : Int),.int .u64 (s1 : Int),.int .u64 (s2 : Int),.int .u64 (s3 : Int)] from
     ⟨hb1.out.alloc hb1.out.size _,held_new _ _ _,hb1.out.size⟩)
   generalize w1.alloc (.cells #[.int .u64 (s0 : Int),.int .u64 (s1 : Int),.int .u64 (s2 : Int),.int .u64 (s3 : Int)] 41) = w4 at *
   generalize w1.heap.size = G at *
   have hK4:=lhi (hK.out _ hQ.out.low.drew)
   have k2:=(hK.out _ hQ.out.low).1
   have k3:=(hK.out _ hQ.out.low).2
   have hS4:=lhi (hS.out _ hQ.out.low.drew)
   have hSc:=lhi (hQ.out.s.drew.cells4)
   clear hKa hKb hPa hPb hK1 hKc hZ hx hx2 hb1
   obtain ⟨q0,q1,q2,q3⟩:=hQ.out.s.cells4
   go_wp2_with (first
    | (go_region_with ((go_at_call 115;(with_reducible refine (hS4.out).mono ?_);intro y w5 hy;obtain ⟨z,rfl,hy⟩:=hy.ret;replace hy:=lhi (hy.from (ChP.of_below (T:=T) (v:=v) hQ.out.low.drew)))))
    | fail)
   all_goals
    go_ret
    exact hy.out
 · have hQ:=lhi (show StS w ((((w1.setCell ⟨w.heap.size,0,none⟩ (.int .u64 (s0 : Int))).setCell ⟨w.heap.size,1,none⟩ (.int .u64 (s1 : Int))).setCell ⟨w.heap.size,2,none⟩ (.int .u64 (s2 : Int))).setCell ⟨w.heap.size,3,none⟩ (.int .u64 (s3 : Int))) w.heap.size #[.int .u64 (s0 : Int),.int .u64 (s1 : Int),.int .u64 (s2 : Int),.int .u64 (s3 : Int)] from
     ⟨(((hb1.out.setCell (p:=⟨w.heap.size,0,none⟩) (nlr _) _).setCell (p:=⟨w.heap.size,1,none⟩) (nlr _) _).setCell (p:=⟨w.heap.size,2,none⟩) (nlr _) _).setCell (p:=⟨w.heap.size,3,none⟩) (nlr _) _,(((hZ1.out.put 0 _).put 1 _).put 2 _).put 3 _,nlr _⟩)
   generalize (((w1.setCell ⟨w.heap.size,0,none⟩ (.int .u64 (s0 : Int))).setCell ⟨w.heap.size,1,none⟩ (.int .u64 (s1 : Int))).setCell ⟨w.heap.size,2,none⟩ (.int .u64 (s2 : Int))).setCell ⟨w.heap.size,3,none⟩ (.int .u64 (s3 : Int)) = w4 at *
   have hK4:=lhi (hK.out _ hQ.out.low.drew)
   have k2:=(hK.out _ hQ.out.low).1
   have k3:=(hK.out _ hQ.out.low).2
   have hS4:=lhi (hS.out _ hQ.out.low.drew)
   have hSc:=lhi (hQ.out.s.drew.cells4)
   clear hKa hKb hPa hPb hK1 hZ hZ1 z y0 y1 y2 y3 hx hx2 hb1
   obtain ⟨q0,q1,q2,q3⟩:=hQ.out.s.cells4
   go_wp2_with (first
    | (go_region_with ((go_at_call 115;(with_reducible refine (hS4.out).mono ?_);intro y w5 hy;obtain ⟨z,rfl,hy⟩:=hy.ret;replace hy:=lhi (hy.from (ChP.of_below (T:=T) (v:=v) hQ.out.low.drew)))))
    | fail)
   all_goals
    go_ret
    exact hy.out
end
end Go.Proofs.YtonjnagcdnmcpaaGreatDoor
