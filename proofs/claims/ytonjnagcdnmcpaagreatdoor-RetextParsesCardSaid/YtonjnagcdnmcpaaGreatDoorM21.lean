/- Contracts and plain facts: M21. -/
import Derived.Test.YtonjnagcdnmcpaaGreatDoorM20
set_option linter.unusedVariables false
set_option linter.unusedSimpArgs false
set_option maxRecDepth 100000
set_option maxHeartbeats 32000000
namespace Go.Proofs.YtonjnagcdnmcpaaGreatDoor
open Go.RowKit
section
variable {V : Nat → Nat} {w : World} {B T : Nat} {A : Option Addr} {n c : Nat} {l : List UInt8} {v : Value} {ns : List Nod} {g i : Nat} {cl : Nat → Bool} (h : Psr w B T A n c l v ns g i cl 0) {inG : Bool}
include h
theorem catom_opn (hx : nx l i = 40) (hV : Pot l V) (hrm : ns.length + V i < 1000) (hB : ∀ k,k < n - i → CAltOK k) :
    Calls Tryz.prog 90 #[.pointer (some ⟨T,0,none⟩)] w (CNode V false w B T A n c l v ns g i cl inG):=by
 have hnl:=h.hn
 have hG0:=lhi (held_new w 82 #[.pointer (some ⟨T,0,none⟩)])
 have hb0:=lhi ((Below.refl w.heap.size w).alloc (nlr _) (.cells #[.pointer (some ⟨T,0,none⟩)] 82))
 have h0:=h.keep hb0.out
 have hB0:=lhi (Below.refl (w.alloc (.cells #[.pointer (some ⟨T,0,none⟩)] 82)).heap.size (w.alloc (.cells #[.pointer (some ⟨T,0,none⟩)] 82)))
 have hC1:=lhi (fun w3 (hb : Below (w.alloc (.cells #[.pointer (some ⟨T,0,none⟩)] 82)).heap.size (w.alloc (.cells #[.pointer (some ⟨T,0,none⟩)] 82)) w3) => comes_is (h0.keep hb) ⟨#[40]⟩ true (bg_nx 40 true (decide_eq_true (by rw [hx];rfl))))
 have hP:=lhi (fun (w3 : World) (hb : Below (w.alloc (.cells #[.pointer (some ⟨T,0,none⟩)] 82)).heap.size (w.alloc (.cells #[.pointer (some ⟨T,0,none⟩)] 82)) w3) => cparen_any (inG:=inG) (h0.keep hb) hx (hG0.out.keep hb) (show w.heap.size ≠ T by have:=h.lt;omega) (h.own_lt (nlr w.heap.size)) hV hrm hB)
 clear h h0 hx hB hnl hV
 go_enter Tryz.func90,Tryz.ntmps90
 go_wp2_with (first
  | (go_at_call 47;with_reducible show Calls _ _ #[_,Value.string {data:=#[40]}] _ _;refine (hC1.out _ hB0.out).mono ?_;rintro y w1 ⟨rfl,hb⟩;have hB1:=lhi (hB0.out.trans (hb.mono hB0.out.size));have z1:=(hG0.out.keep hB1.out).at_ (i:=0) rfl;clear hb)
  | (go_at_call 92;refine (hP.out _ hB1.out).mono ?_;intro x w5 hy;obtain ⟨z,rfl,hy⟩:=hy.ret;replace hy:=lhi (hy.from (ChP.of_below (hb0.out.trans (hB1.out.mono hb0.out.size))))))
 go_ret
 exact hy.out
theorem catom_par (hx : nx l i = 41) (hp : PieAt l i inG) :
    Calls Tryz.prog 90 #[.pointer (some ⟨T,0,none⟩)] w (CNode V false w B T A n c l v ns g i cl inG):=by
 have hnl:=h.hn
 have hG0:=lhi (held_new w 82 #[.pointer (some ⟨T,0,none⟩)])
 have hb0:=lhi ((Below.refl w.heap.size w).alloc (nlr _) (.cells #[.pointer (some ⟨T,0,none⟩)] 82))
 have h0:=h.keep hb0.out
 have hB0:=lhi (Below.refl (w.alloc (.cells #[.pointer (some ⟨T,0,none⟩)] 82)).heap.size (w.alloc (.cells #[.pointer (some ⟨T,0,none⟩)] 82)))
 have hC1:=lhi (fun w3 (hb : Below (w.alloc (.cells #[.pointer (some ⟨T,0,none⟩)] 82)).heap.size (w.alloc (.cells #[.pointer (some ⟨T,0,none⟩)] 82)) w3) => comes_is (h0.keep hb) ⟨#[40]⟩ false (bg_nx 40 false (decide_eq_false (by rw [hx];decide))))
 have hC2:=lhi (fun w3 (hb : Below (w.alloc (.cells #[.pointer (some ⟨T,0,none⟩)] 82)).heap.size (w.alloc (.cells #[.pointer (some ⟨T,0,none⟩)] 82)) w3) => comes_is (h0.keep hb) ⟨#[41]⟩ true (bg_nx 41 true (decide_eq_true (by rw [hx];rfl))))
 have hW:=lhi (fun (w3 : World) (hb : Below (w.alloc (.cells #[.pointer (some ⟨T,0,none⟩)] 82)).heap.size (w.alloc (.cells #[.pointer (some ⟨T,0,none⟩)] 82)) w3) => wrong_at (h0.keep hb) 14 14 rfl)
 have hfin:=lhi (fun (w' : World) (z : Ending) (y : YBad w B T A n c l v i 14 z w') => y.cnode (V:=V) (pc:=false) (inG:=inG) (ns:=ns) (g:=g) (cl:=cl) hp (fun ct ps bs lv => by rw [show pieE l i = .bad 14 from by obtain ⟨r,hr⟩:=pie_of (k:=41) hx;exact pie_par hr];rfl) (by decide))
 clear h h0 hnl hp hx
 go_enter Tryz.func90,Tryz.ntmps90
 go_wp2_with (first
  | (go_at_call 47;with_reducible show Calls _ _ #[_,Value.string {data:=#[40]}] _ _;refine (hC1.out _ hB0.out).mono ?_;rintro y w1 ⟨rfl,hb⟩;have hB1:=lhi (hB0.out.trans (hb.mono hB0.out.size));have z1:=(hG0.out.keep hB1.out).at_ (i:=0) rfl;clear hb)
  | (go_at_call 47;with_reducible show Calls _ _ #[_,Value.string {data:=#[41]}] _ _;refine (hC2.out _ hB1.out).mono ?_;rintro y w2 ⟨rfl,hb⟩;have hB2:=lhi (hB1.out.trans (hb.mono hB1.out.size));have z2:=(hG0.out.keep hB2.out).at_ (i:=0) rfl;clear hb)
  | (go_at_call 66;refine (hW.out _ hB2.out).mono ?_;intro x w5 hy;obtain ⟨rfl,hy⟩:=hy.ret;replace hy:=lhi (hfin.out _ _ (hy.from (ChP.of_below (hb0.out.trans (hB2.out.mono hb0.out.size)))))))
 go_ret
 exact hy.out
theorem catom_star (hx : nx l i = 42) (hp : PieAt l i inG) :
    Calls Tryz.prog 90 #[.pointer (some ⟨T,0,none⟩)] w (CNode V false w B T A n c l v ns g i cl inG):=by
 have hnl:=h.hn
 have hG0:=lhi (held_new w 82 #[.pointer (some ⟨T,0,none⟩)])
 have hb0:=lhi ((Below.refl w.heap.size w).alloc (nlr _) (.cells #[.pointer (some ⟨T,0,none⟩)] 82))
 have h0:=h.keep hb0.out
 have hB0:=lhi (Below.refl (w.alloc (.cells #[.pointer (some ⟨T,0,none⟩)] 82)).heap.size (w.alloc (.cells #[.pointer (some ⟨T,0,none⟩)] 82)))
 have hC1:=lhi (fun w3 (hb : Below (w.alloc (.cells #[.pointer (some ⟨T,0,none⟩)] 82)).heap.size (w.alloc (.cells #[.pointer (some ⟨T,0,none⟩)] 82)) w3) => comes_is (h0.keep hb) ⟨#[40]⟩ false (bg_nx 40 false (decide_eq_false (by rw [hx];decide))))
 have hC2:=lhi (fun w3 (hb : Below (w.alloc (.cells #[.pointer (some ⟨T,0,none⟩)] 82)).heap.size (w.alloc (.cells #[.pointer (some ⟨T,0,none⟩)] 82)) w3) => comes_is (h0.keep hb) ⟨#[41]⟩ false (bg_nx 41 false (decide_eq_false (by rw [hx];decide))))
 have hC3:=lhi (fun w3 (hb : Below (w.alloc (.cells #[.pointer (some ⟨T,0,none⟩)] 82)).heap.size (w.alloc (.cells #[.pointer (some ⟨T,0,none⟩)] 82)) w3) => comes_is (h0.keep hb) ⟨#[42]⟩ true (bg_nx 42 true (decide_eq_true (by rw [hx];rfl))))
 have hW:=lhi (fun (w3 : World) (hb : Below (w.alloc (.cells #[.pointer (some ⟨T,0,none⟩)] 82)).heap.size (w.alloc (.cells #[.pointer (some ⟨T,0,none⟩)] 82)) w3) => wrong_at (h0.keep hb) 13 13 rfl)
 have hfin:=lhi (fun (w' : World) (z : Ending) (y : YBad w B T A n c l v i 13 z w') => y.cnode (V:=V) (pc:=false) (inG:=inG) (ns:=ns) (g:=g) (cl:=cl) hp (fun ct ps bs lv => by rw [pie_rep_of (.inl hx)];rfl) (by decide))
 clear h h0 hnl hp hx
 go_enter Tryz.func90,Tryz.ntmps90
 go_wp2_with (first
  | (go_at_call 47;with_reducible show Calls _ _ #[_,Value.string {data:=#[40]}] _ _;refine (hC1.out _ hB0.out).mono ?_;rintro y w1 ⟨rfl,hb⟩;have hB1:=lhi (hB0.out.trans (hb.mono hB0.out.size));have z1:=(hG0.out.keep hB1.out).at_ (i:=0) rfl;clear hb)
  | (go_at_call 47;with_reducible show Calls _ _ #[_,Value.string {data:=#[41]}] _ _;refine (hC2.out _ hB1.out).mono ?_;rintro y w2 ⟨rfl,hb⟩;have hB2:=lhi (hB1.out.trans (hb.mono hB1.out.size));have z2:=(hG0.out.keep hB2.out).at_ (i:=0) rfl;clear hb)
  | (go_at_call 47;with_reducible show Calls _ _ #[_,Value.string {data:=#[42]}] _ _;refine (hC3.out _ hB2.out).mono ?_;rintro y w3 ⟨rfl,hb⟩;have hB3:=lhi (hB2.out.trans (hb.mono hB2.out.size));have z3:=(hG0.out.keep hB3.out).at_ (i:=0) rfl;clear hb)
  | (go_at_call 66;refine (hW.out _ hB3.out).mono ?_;intro x w5 hy;obtain ⟨rfl,hy⟩:=hy.ret;replace hy:=lhi (hfin.out _ _ (hy.from (ChP.of_below (hb0.out.trans (hB3.out.mono hb0.out.size)))))))
 go_ret
 exact hy.out
theorem catom_plus (hx : nx l i = 43) (hp : PieAt l i inG) :
    Calls Tryz.prog 90 #[.pointer (some ⟨T,0,none⟩)] w (CNode V false w B T A n c l v ns g i cl inG):=by
 have hnl:=h.hn
 have hG0:=lhi (held_new w 82 #[.pointer (some ⟨T,0,none⟩)])
 have hb0:=lhi ((Below.refl w.heap.size w).alloc (nlr _) (.cells #[.pointer (some ⟨T,0,none⟩)] 82))
 have h0:=h.keep hb0.out
 have hB0:=lhi (Below.refl (w.alloc (.cells #[.pointer (some ⟨T,0,none⟩)] 82)).heap.size (w.alloc (.cells #[.pointer (some ⟨T,0,none⟩)] 82)))
 have hC1:=lhi (fun w3 (hb : Below (w.alloc (.cells #[.pointer (some ⟨T,0,none⟩)] 82)).heap.size (w.alloc (.cells #[.pointer (some ⟨T,0,none⟩)] 82)) w3) => comes_is (h0.keep hb) ⟨#[40]⟩ false (bg_nx 40 false (decide_eq_false (by rw [hx];decide))))
 have hC2:=lhi (fun w3 (hb : Below (w.alloc (.cells #[.pointer (some ⟨T,0,none⟩)] 82)).heap.size (w.alloc (.cells #[.pointer (some ⟨T,0,none⟩)] 82)) w3) => comes_is (h0.keep hb) ⟨#[41]⟩ false (bg_nx 41 false (decide_eq_false (by rw [hx];decide))))
 have hC3:=lhi (fun w3 (hb : Below (w.alloc (.cells #[.pointer (some ⟨T,0,none⟩)] 82)).heap.size (w.alloc (.cells #[.pointer (some ⟨T,0,none⟩)] 82)) w3) => comes_is (h0.keep hb) ⟨#[42]⟩ false (bg_nx 42 false (decide_eq_false (by rw [hx];decide))))
 have hC4:=lhi (fun w3 (hb : Below (w.alloc (.cells #[.pointer (some ⟨T,0,none⟩)] 82)).heap.size (w.alloc (.cells #[.pointer (some ⟨T,0,none⟩)] 82)) w3) => comes_is (h0.keep hb) ⟨#[43]⟩ true (bg_nx 43 true (decide_eq_true (by rw [hx];rfl))))
 have hW:=lhi (fun (w3 : World) (hb : Below (w.alloc (.cells #[.pointer (some ⟨T,0,none⟩)] 82)).heap.size (w.alloc (.cells #[.pointer (some ⟨T,0,none⟩)] 82)) w3) => wrong_at (h0.keep hb) 13 13 rfl)
 have hfin:=lhi (fun (w' : World) (z : Ending) (y : YBad w B T A n c l v i 13 z w') => y.cnode (V:=V) (pc:=false) (inG:=inG) (ns:=ns) (g:=g) (cl:=cl) hp (fun ct ps bs lv => by rw [pie_rep_of (.inr (.inl hx))];rfl) (by decide))
 clear h h0 hnl hp hx
 go_enter Tryz.func90,Tryz.ntmps90
 go_wp2_with (first
  | (go_at_call 47;with_reducible show Calls _ _ #[_,Value.string {data:=#[40]}] _ _;refine (hC1.out _ hB0.out).mono ?_;rintro y w1 ⟨rfl,hb⟩;have hB1:=lhi (hB0.out.trans (hb.mono hB0.out.size));have z1:=(hG0.out.keep hB1.out).at_ (i:=0) rfl;clear hb)
  | (go_at_call 47;with_reducible show Calls _ _ #[_,Value.string {data:=#[41]}] _ _;refine (hC2.out _ hB1.out).mono ?_;rintro y w2 ⟨rfl,hb⟩;have hB2:=lhi (hB1.out.trans (hb.mono hB1.out.size));have z2:=(hG0.out.keep hB2.out).at_ (i:=0) rfl;clear hb)
  | (go_at_call 47;with_reducible show Calls _ _ #[_,Value.string {data:=#[42]}] _ _;refine (hC3.out _ hB2.out).mono ?_;rintro y w3 ⟨rfl,hb⟩;have hB3:=lhi (hB2.out.trans (hb.mono hB2.out.size));have z3:=(hG0.out.keep hB3.out).at_ (i:=0) rfl;clear hb)
  | (go_at_call 47;with_reducible show Calls _ _ #[_,Value.string {data:=#[43]}] _ _;refine (hC4.out _ hB3.out).mono ?_;rintro y w4 ⟨rfl,hb⟩;have hB4:=lhi (hB3.out.trans (hb.mono hB3.out.size));have z4:=(hG0.out.keep hB4.out).at_ (i:=0) rfl;clear hb)
  | (go_at_call 66;refine (hW.out _ hB4.out).mono ?_;intro x w5 hy;obtain ⟨rfl,hy⟩:=hy.ret;replace hy:=lhi (hfin.out _ _ (hy.from (ChP.of_below (hb0.out.trans (hB4.out.mono hb0.out.size)))))))
 go_ret
 exact hy.out
theorem catom_qm (hx : nx l i = 63) (hp : PieAt l i inG) :
    Calls Tryz.prog 90 #[.pointer (some ⟨T,0,none⟩)] w (CNode V false w B T A n c l v ns g i cl inG):=by
 have hnl:=h.hn
 have hG0:=lhi (held_new w 82 #[.pointer (some ⟨T,0,none⟩)])
 have hb0:=lhi ((Below.refl w.heap.size w).alloc (nlr _) (.cells #[.pointer (some ⟨T,0,none⟩)] 82))
 have h0:=h.keep hb0.out
 have hB0:=lhi (Below.refl (w.alloc (.cells #[.pointer (some ⟨T,0,none⟩)] 82)).heap.size (w.alloc (.cells #[.pointer (some ⟨T,0,none⟩)] 82)))
 have hC1:=lhi (fun w3 (hb : Below (w.alloc (.cells #[.pointer (some ⟨T,0,none⟩)] 82)).heap.size (w.alloc (.cells #[.pointer (some ⟨T,0,none⟩)] 82)) w3) => comes_is (h0.keep hb) ⟨#[40]⟩ false (bg_nx 40 false (decide_eq_false (by rw [hx];decide))))
 have hC2:=lhi (fun w3 (hb : Below (w.alloc (.cells #[.pointer (some ⟨T,0,none⟩)] 82)).heap.size (w.alloc (.cells #[.pointer (some ⟨T,0,none⟩)] 82)) w3) => comes_is (h0.keep hb) ⟨#[41]⟩ false (bg_nx 41 false (decide_eq_false (by rw [hx];decide))))
 have hC3:=lhi (fun w3 (hb : Below (w.alloc (.cells #[.pointer (some ⟨T,0,none⟩)] 82)).heap.size (w.alloc (.cells #[.pointer (some ⟨T,0,none⟩)] 82)) w3) => comes_is (h0.keep hb) ⟨#[42]⟩ false (bg_nx 42 false (decide_eq_false (by rw [hx];decide))))
 have hC4:=lhi (fun w3 (hb : Below (w.alloc (.cells #[.pointer (some ⟨T,0,none⟩)] 82)).heap.size (w.alloc (.cells #[.pointer (some ⟨T,0,none⟩)] 82)) w3) => comes_is (h0.keep hb) ⟨#[43]⟩ false (bg_nx 43 false (decide_eq_false (by rw [hx];decide))))
 have hC5:=lhi (fun w3 (hb : Below (w.alloc (.cells #[.pointer (some ⟨T,0,none⟩)] 82)).heap.size (w.alloc (.cells #[.pointer (some ⟨T,0,none⟩)] 82)) w3) => comes_is (h0.keep hb) ⟨#[63]⟩ true (bg_nx 63 true (decide_eq_true (by rw [hx];rfl))))
 have hW:=lhi (fun (w3 : World) (hb : Below (w.alloc (.cells #[.pointer (some ⟨T,0,none⟩)] 82)).heap.size (w.alloc (.cells #[.pointer (some ⟨T,0,none⟩)] 82)) w3) => wrong_at (h0.keep hb) 13 13 rfl)
 have hfin:=lhi (fun (w' : World) (z : Ending) (y : YBad w B T A n c l v i 13 z w') => y.cnode (V:=V) (pc:=false) (inG:=inG) (ns:=ns) (g:=g) (cl:=cl) hp (fun ct ps bs lv => by rw [pie_rep_of (.inr (.inr (.inl hx)))];rfl) (by decide))
 clear h h0 hnl hp hx
 go_enter Tryz.func90,Tryz.ntmps90
 go_wp2_with (first
  | (go_at_call 47;with_reducible show Calls _ _ #[_,Value.string {data:=#[40]}] _ _;refine (hC1.out _ hB0.out).mono ?_;rintro y w1 ⟨rfl,hb⟩;have hB1:=lhi (hB0.out.trans (hb.mono hB0.out.size));have z1:=(hG0.out.keep hB1.out).at_ (i:=0) rfl;clear hb)
  | (go_at_call 47;with_reducible show Calls _ _ #[_,Value.string {data:=#[41]}] _ _;refine (hC2.out _ hB1.out).mono ?_;rintro y w2 ⟨rfl,hb⟩;have hB2:=lhi (hB1.out.trans (hb.mono hB1.out.size));have z2:=(hG0.out.keep hB2.out).at_ (i:=0) rfl;clear hb)
  | (go_at_call 47;with_reducible show Calls _ _ #[_,Value.string {data:=#[42]}] _ _;refine (hC3.out _ hB2.out).mono ?_;rintro y w3 ⟨rfl,hb⟩;have hB3:=lhi (hB2.out.trans (hb.mono hB2.out.size));have z3:=(hG0.out.keep hB3.out).at_ (i:=0) rfl;clear hb)
  | (go_at_call 47;with_reducible show Calls _ _ #[_,Value.string {data:=#[43]}] _ _;refine (hC4.out _ hB3.out).mono ?_;rintro y w4 ⟨rfl,hb⟩;have hB4:=lhi (hB3.out.trans (hb.mono hB3.out.size));have z4:=(hG0.out.keep hB4.out).at_ (i:=0) rfl;clear hb)
  | (go_at_call 47;with_reducible show Calls _ _ #[_,Value.string {data:=#[63]}] _ _;refine (hC5.out _ hB4.out).mono ?_;rintro y w5 ⟨rfl,hb⟩;have hB5:=lhi (hB4.out.trans (hb.mono hB4.out.size));have z5:=(hG0.out.keep hB5.out).at_ (i:=0) rfl;clear hb)
  | (go_at_call 66;refine (hW.out _ hB5.out).mono ?_;intro x w5 hy;obtain ⟨rfl,hy⟩:=hy.ret;replace hy:=lhi (hfin.out _ _ (hy.from (ChP.of_below (hb0.out.trans (hB5.out.mono hb0.out.size)))))))
 go_ret
 exact hy.out
theorem catom_brc (hx : nx l i = 123) (hp : PieAt l i inG) :
    Calls Tryz.prog 90 #[.pointer (some ⟨T,0,none⟩)] w (CNode V false w B T A n c l v ns g i cl inG):=by
 have hnl:=h.hn
 have hG0:=lhi (held_new w 82 #[.pointer (some ⟨T,0,none⟩)])
 have hb0:=lhi ((Below.refl w.heap.size w).alloc (nlr _) (.cells #[.pointer (some ⟨T,0,none⟩)] 82))
 have h0:=h.keep hb0.out
 have hB0:=lhi (Below.refl (w.alloc (.cells #[.pointer (some ⟨T,0,none⟩)] 82)).heap.size (w.alloc (.cells #[.pointer (some ⟨T,0,none⟩)] 82)))
 have hC1:=lhi (fun w3 (hb : Below (w.alloc (.cells #[.pointer (some ⟨T,0,none⟩)] 82)).heap.size (w.alloc (.cells #[.pointer (some ⟨T,0,none⟩)] 82)) w3) => comes_is (h0.keep hb) ⟨#[40]⟩ false (bg_nx 40 false (decide_eq_false (by rw [hx];decide))))
 have hC2:=lhi (fun w3 (hb : Below (w.alloc (.cells #[.pointer (some ⟨T,0,none⟩)] 82)).heap.size (w.alloc (.cells #[.pointer (some ⟨T,0,none⟩)] 82)) w3) => comes_is (h0.keep hb) ⟨#[41]⟩ false (bg_nx 41 false (decide_eq_false (by rw [hx];decide))))
 have hC3:=lhi (fun w3 (hb : Below (w.alloc (.cells #[.pointer (some ⟨T,0,none⟩)] 82)).heap.size (w.alloc (.cells #[.pointer (some ⟨T,0,none⟩)] 82)) w3) => comes_is (h0.keep hb) ⟨#[42]⟩ false (bg_nx 42 false (decide_eq_false (by rw [hx];decide))))
 have hC4:=lhi (fun w3 (hb : Below (w.alloc (.cells #[.pointer (some ⟨T,0,none⟩)] 82)).heap.size (w.alloc (.cells #[.pointer (some ⟨T,0,none⟩)] 82)) w3) => comes_is (h0.keep hb) ⟨#[43]⟩ false (bg_nx 43 false (decide_eq_false (by rw [hx];decide))))
 have hC5:=lhi (fun w3 (hb : Below (w.alloc (.cells #[.pointer (some ⟨T,0,none⟩)] 82)).heap.size (w.alloc (.cells #[.pointer (some ⟨T,0,none⟩)] 82)) w3) => comes_is (h0.keep hb) ⟨#[63]⟩ false (bg_nx 63 false (decide_eq_false (by rw [hx];decide))))
 have hC6:=lhi (fun w3 (hb : Below (w.alloc (.cells #[.pointer (some ⟨T,0,none⟩)] 82)).heap.size (w.alloc (.cells #[.pointer (some ⟨T,0,none⟩)] 82)) w3) => comes_is (h0.keep hb) ⟨#[123]⟩ true (bg_nx 123 true (decide_eq_true (by rw [hx];rfl))))
 have hW:=lhi (fun (w3 : World) (hb : Below (w.alloc (.cells #[.pointer (some ⟨T,0,none⟩)] 82)).heap.size (w.alloc (.cells #[.pointer (some ⟨T,0,none⟩)] 82)) w3) => wrong_at (h0.keep hb) 13 13 rfl)
 have hfin:=lhi (fun (w' : World) (z : Ending) (y : YBad w B T A n c l v i 13 z w') => y.cnode (V:=V) (pc:=false) (inG:=inG) (ns:=ns) (g:=g) (cl:=cl) hp (fun ct ps bs lv => by rw [pie_rep_of (.inr (.inr (.inr hx)))];rfl) (by decide))
 clear h h0 hnl hp hx
 go_enter Tryz.func90,Tryz.ntmps90
 go_wp2_with (first
  | (go_at_call 47;with_reducible show Calls _ _ #[_,Value.string {data:=#[40]}] _ _;refine (hC1.out _ hB0.out).mono ?_;rintro y w1 ⟨rfl,hb⟩;have hB1:=lhi (hB0.out.trans (hb.mono hB0.out.size));have z1:=(hG0.out.keep hB1.out).at_ (i:=0) rfl;clear hb)
  | (go_at_call 47;with_reducible show Calls _ _ #[_,Value.string {data:=#[41]}] _ _;refine (hC2.out _ hB1.out).mono ?_;rintro y w2 ⟨rfl,hb⟩;have hB2:=lhi (hB1.out.trans (hb.mono hB1.out.size));have z2:=(hG0.out.keep hB2.out).at_ (i:=0) rfl;clear hb)
  | (go_at_call 47;with_reducible show Calls _ _ #[_,Value.string {data:=#[42]}] _ _;refine (hC3.out _ hB2.out).mono ?_;rintro y w3 ⟨rfl,hb⟩;have hB3:=lhi (hB2.out.trans (hb.mono hB2.out.size));have z3:=(hG0.out.keep hB3.out).at_ (i:=0) rfl;clear hb)
  | (go_at_call 47;with_reducible show Calls _ _ #[_,Value.string {data:=#[43]}] _ _;refine (hC4.out _ hB3.out).mono ?_;rintro y w4 ⟨rfl,hb⟩;have hB4:=lhi (hB3.out.trans (hb.mono hB3.out.size));have z4:=(hG0.out.keep hB4.out).at_ (i:=0) rfl;clear hb)
  | (go_at_call 47;with_reducible show Calls _ _ #[_,Value.string {data:=#[63]}] _ _;refine (hC5.out _ hB4.out).mono ?_;rintro y w5 ⟨rfl,hb⟩;have hB5:=lhi (hB4.out.trans (hb.mono hB4.out.size));have z5:=(hG0.out.keep hB5.out).at_ (i:=0) rfl;clear hb)
  | (go_at_call 47;with_reducible show Calls _ _ #[_,Value.string {data:=#[123]}] _ _;refine (hC6.out _ hB5.out).mono ?_;rintro y w6 ⟨rfl,hb⟩;have hB6:=lhi (hB5.out.trans (hb.mono hB5.out.size));have z6:=(hG0.out.keep hB6.out).at_ (i:=0) rfl;clear hb)
  | (go_at_call 66;refine (hW.out _ hB6.out).mono ?_;intro x w5 hy;obtain ⟨rfl,hy⟩:=hy.ret;replace hy:=lhi (hfin.out _ _ (hy.from (ChP.of_below (hb0.out.trans (hB6.out.mono hb0.out.size)))))))
 go_ret
 exact hy.out
theorem catom_one (x0 : nx l i ≠ 42) (x1 : nx l i ≠ 43) (x2 : nx l i ≠ 63) (x3 : nx l i ≠ 123) (x4 : nx l i ≠ 41) (x5 : nx l i ≠ 94) (x6 : nx l i ≠ 36) (x7 : nx l i ≠ 40) (hp : PieAt l i inG) (hl : ns.length < 1000) (hV : Pot l V) :
    Calls Tryz.prog 90 #[.pointer (some ⟨T,0,none⟩)] w (CNode V false w B T A n c l v ns g i cl inG):=by
 have hnl:=h.hn
 have hG0:=lhi (held_new w 82 #[.pointer (some ⟨T,0,none⟩)])
 have hb0:=lhi ((Below.refl w.heap.size w).alloc (nlr _) (.cells #[.pointer (some ⟨T,0,none⟩)] 82))
 have h0:=h.keep hb0.out
 have hB0:=lhi (Below.refl (w.alloc (.cells #[.pointer (some ⟨T,0,none⟩)] 82)).heap.size (w.alloc (.cells #[.pointer (some ⟨T,0,none⟩)] 82)))
 have hC1:=lhi (fun w3 (hb : Below (w.alloc (.cells #[.pointer (some ⟨T,0,none⟩)] 82)).heap.size (w.alloc (.cells #[.pointer (some ⟨T,0,none⟩)] 82)) w3) => comes_is (h0.keep hb) ⟨#[40]⟩ false (bg_nx 40 false (decide_eq_false x7)))
 have hC2:=lhi (fun w3 (hb : Below (w.alloc (.cells #[.pointer (some ⟨T,0,none⟩)] 82)).heap.size (w.alloc (.cells #[.pointer (some ⟨T,0,none⟩)] 82)) w3) => comes_is (h0.keep hb) ⟨#[41]⟩ false (bg_nx 41 false (decide_eq_false x4)))
 have hC3:=lhi (fun w3 (hb : Below (w.alloc (.cells #[.pointer (some ⟨T,0,none⟩)] 82)).heap.size (w.alloc (.cells #[.pointer (some ⟨T,0,none⟩)] 82)) w3) => comes_is (h0.keep hb) ⟨#[42]⟩ false (bg_nx 42 false (decide_eq_false x0)))
 have hC4:=lhi (fun w3 (hb : Below (w.alloc (.cells #[.pointer (some ⟨T,0,none⟩)] 82)).heap.size (w.alloc (.cells #[.pointer (some ⟨T,0,none⟩)] 82)) w3) => comes_is (h0.keep hb) ⟨#[43]⟩ false (bg_nx 43 false (decide_eq_false x1)))
 have hC5:=lhi (fun w3 (hb : Below (w.alloc (.cells #[.pointer (some ⟨T,0,none⟩)] 82)).heap.size (w.alloc (.cells #[.pointer (some ⟨T,0,none⟩)] 82)) w3) => comes_is (h0.keep hb) ⟨#[63]⟩ false (bg_nx 63 false (decide_eq_false x2)))
 have hC6:=lhi (fun w3 (hb : Below (w.alloc (.cells #[.pointer (some ⟨T,0,none⟩)] 82)).heap.size (w.alloc (.cells #[.pointer (some ⟨T,0,none⟩)] 82)) w3) => comes_is (h0.keep hb) ⟨#[123]⟩ false (bg_nx 123 false (decide_eq_false x3)))
 have hO:=lhi (fun (w3 : World) (hb : Below (w.alloc (.cells #[.pointer (some ⟨T,0,none⟩)] 82)).heap.size (w.alloc (.cells #[.pointer (some ⟨T,0,none⟩)] 82)) w3) => one_any (h0.keep hb) (by have:=hp.lt;omega))
 have hfin:=lhi (fun (w' : World) (z : Ending) (y : YAm w B T A n c l v ns g i cl (oneA l i) z w') => y.cnode (V:=V) (inG:=inG) hl hp (pie_one_of hp.lt x0 x1 x2 x3 x4 x5 x6 x7) (fun q => one_bad hp.lt) (fun j nd => one_nod hp.lt) hV)
 generalize oneA l i = a at *
 clear h h0 hnl hp hl hV x0 x1 x2 x3 x4 x5 x6 x7
 go_enter Tryz.func90,Tryz.ntmps90
 go_wp2_with (first
  | (go_at_call 47;with_reducible show Calls _ _ #[_,Value.string {data:=#[40]}] _ _;refine (hC1.out _ hB0.out).mono ?_;rintro y w1 ⟨rfl,hb⟩;have hB1:=lhi (hB0.out.trans (hb.mono hB0.out.size));have z1:=(hG0.out.keep hB1.out).at_ (i:=0) rfl;clear hb)
  | (go_at_call 47;with_reducible show Calls _ _ #[_,Value.string {data:=#[41]}] _ _;refine (hC2.out _ hB1.out).mono ?_;rintro y w2 ⟨rfl,hb⟩;have hB2:=lhi (hB1.out.trans (hb.mono hB1.out.size));have z2:=(hG0.out.keep hB2.out).at_ (i:=0) rfl;clear hb)
  | (go_at_call 47;with_reducible show Calls _ _ #[_,Value.string {data:=#[42]}] _ _;refine (hC3.out _ hB2.out).mono ?_;rintro y w3 ⟨rfl,hb⟩;have hB3:=lhi (hB2.out.trans (hb.mono hB2.out.size));have z3:=(hG0.out.keep hB3.out).at_ (i:=0) rfl;clear hb)
  | (go_at_call 47;with_reducible show Calls _ _ #[_,Value.string {data:=#[43]}] _ _;refine (hC4.out _ hB3.out).mono ?_;rintro y w4 ⟨rfl,hb⟩;have hB4:=lhi (hB3.out.trans (hb.mono hB3.out.size));have z4:=(hG0.out.keep hB4.out).at_ (i:=0) rfl;clear hb)
  | (go_at_call 47;with_reducible show Calls _ _ #[_,Value.string {data:=#[63]}] _ _;refine (hC5.out _ hB4.out).mono ?_;rintro y w5 ⟨rfl,hb⟩;have hB5:=lhi (hB4.out.trans (hb.mono hB4.out.size));have z5:=(hG0.out.keep hB5.out).at_ (i:=0) rfl;clear hb)
  | (go_at_call 47;with_reducible show Calls _ _ #[_,Value.string {data:=#[123]}] _ _;refine (hC6.out _ hB5.out).mono ?_;rintro y w6 ⟨rfl,hb⟩;have hB6:=lhi (hB5.out.trans (hb.mono hB5.out.size));have z6:=(hG0.out.keep hB6.out).at_ (i:=0) rfl;clear hb)
  | (go_at_call 95;refine (hO.out _ hB6.out).mono ?_;intro x w5 hy;obtain ⟨z,rfl,hy⟩:=hy.ret;replace hy:=lhi (hfin.out _ _ (hy.from (ChP.of_below (hb0.out.trans (hB6.out.mono hb0.out.size)))))))
 go_ret
 exact hy.out
theorem catom_any (hp : PieAt l i inG) (x5 : nx l i ≠ 94) (x6 : nx l i ≠ 36) (hV : Pot l V) (hrm : ns.length + V i < 1000) (hB : ∀ k,k < n - i → CAltOK k) :
    Calls Tryz.prog 90 #[.pointer (some ⟨T,0,none⟩)] w (CNode V false w B T A n c l v ns g i cl inG):=by
 by_cases x7 : nx l i = 40
 · exact catom_opn h x7 hV hrm hB
 by_cases x4 : nx l i = 41
 · exact catom_par h x4 hp
 by_cases x0 : nx l i = 42
 · exact catom_star h x0 hp
 by_cases x1 : nx l i = 43
 · exact catom_plus h x1 hp
 by_cases x2 : nx l i = 63
 · exact catom_qm h x2 hp
 by_cases x3 : nx l i = 123
 · exact catom_brc h x3 hp
 exact catom_one h x0 x1 x2 x3 x4 x5 x6 x7 hp (by omega) hV
end
section
variable {V : Nat → Nat} {w : World} {B T : Nat} {A : Option Addr} {n c : Nat} {l : List UInt8} {v : Value} {ns : List Nod} {g i : Nat} {cl : Nat → Bool} {inG : Bool}
theorem crepeated {w1 : World} {z0 : Int} (hy : CNode V false w B T A n c l v ns g i cl inG (.returned (.int .i64 z0)) w1) (hV : Pot l V) (hrm : ns.length + V i < 1000) :
    Calls Tryz.prog 89 #[.pointer (some ⟨T,0,none⟩),.int .i64 z0] w1 (CNode V true w B T A n c l v ns g i cl inG):=by
 replace hy:=lhi hy
 replace hV:=lhi hV
 go_enter Tryz.func89,Tryz.ntmps89
 go_wp2
 go_loopw [1] (fun a wr => CNode V false w B T A n c l v ns g i cl inG (.returned a) wr) (fun _ wr => leftP n T wr)
 case atStart => exact hy.out
 case round =>
  clear hy
  rcases hrel with ⟨x,v2,ns2,g2,i2,cl2,ea,ok2,h2,k2,q1,q0,q2,q3,q4⟩ | ⟨x,v2,ns2,g2,i2,cl2,e2,he2,ea,h2,k2,q4⟩
  · obtain rfl:=(Ending.returned.inj ea)
    clear ea
    have hF:=lhi (fine_any h2)
    rw [decide_eq_true rfl] at hF
    have hP:=lhi (fun w3 (hb : Below wr.heap.size wr w3) => h2.keep hb)
    have hb0:=lhi (Below.refl wr.heap.size wr)
    have hnl:=h2.hn
    have hle:=h2.le
    have hl : ns2.length < 1000:=by omega
    by_cases hx : nx l i2 = 42
    · have hY:=lhi (fun w3 (hb : Below wr.heap.size wr w3) => take_yes (hP.out _ hb) ⟨#[42]⟩ (bg_nx 42 true (decide_eq_true (by rw [hx];rfl))) 1 rfl (by decide))
      have hR:=lhi (fun (w4 : World) (h4 : Psr w4 B T A n c l v2 ns2 g2 (i2 + 1) cl2 0) => rep_any B T 0 v2 ns2 g2 w4 h4.bldr x 0 (-1))
      have hf:=lhi (fits_rep (g:=(g2 : Int)) ok2 (show timesN 0 (-1) = true by decide))
      have hpo:=lhi (fun (w4 : World) (h4 : Psr w4 B T A n c l v2 ns2 g2 (i2 + 1) cl2 0) (y : Ending) (w5 : World) => put_of h4 hf.out (x:=y) (w2:=w5))
      have hdone:=lhi (fun (w5 : World) (z : Int) (y : YPut wr B T A n c l v2 ns2 g2 cl2 (i2 + 1) (repN x 0 (-1)) (.returned (.int .i64 z)) w5) => crep_next (V:=V) (inG:=inG) h2 (fun _ => trivial) k2 q1 q0 q2 q3 hl q4 (Nat.lt_succ_self i2) (hV.out.one i2 (.inl hx)) (fun ps bs lv => stepE_star hx) y)
      clear h2 k2 q1 q0 q2 q3 q4 ok2 hx hnl hle hl
      go_wp2_with (first
       | (go_at_call 39;refine (hF.out).mono ?_;rintro y w9 ⟨rfl,rfl⟩)
       | (go_at_call 43;with_reducible show Calls _ _ #[_,Value.string {data:=#[42]}] _ _;refine (hY.out _ hb0.out).mono ?_;rintro y w3 ⟨rfl,-,h3,k3⟩;have h3d:=lhi (h3.keep (Below.refl _ _).drew);have k3d:=lhi (((ChP.of_below hb0.out).trans k3).trans (ChP.of_below (Below.refl _ _).drew));clear h3 k3)
       | (go_region_with (first
           | (go_at_call 71;refine (hR.out _ h3d.out).mono ?_;intro y w7 hx0;obtain ⟨z,rfl,hx⟩:=hpo.out _ h3d.out _ _ hx0;clear hx0;replace hx:=lhi hx)
           | (go_at_call 44;refine (hx.out).mono ?_;intro y w8 hy;obtain ⟨z,rfl,hy⟩:=hy.ret;replace hy:=lhi (hdone.out _ _ (hy.from k3d.out))))))
      all_goals
       refine ⟨?_,hy.out.2⟩
       (repeat apply Exists.intro)
       exact ⟨hy.out.1,rfl⟩
    by_cases hx1 : nx l i2 = 43
    · have hN42:=lhi (fun w3 (hb : Below wr.heap.size wr w3) => take_no (hP.out _ hb) ⟨#[42]⟩ (bg_nx 42 false (decide_eq_false (by rw [hx1];decide))))
      have hY:=lhi (fun w3 (hb : Below wr.heap.size wr w3) => take_yes (hP.out _ hb) ⟨#[43]⟩ (bg_nx 43 true (decide_eq_true (by rw [hx1];rfl))) 1 rfl (by decide))
      have hR:=lhi (fun (w4 : World) (h4 : Psr w4 B T A n c l v2 ns2 g2 (i2 + 1) cl2 0) => rep_any B T 0 v2 ns2 g2 w4 h4.bldr x 1 (-1))
      have hf:=lhi (fits_rep (g:=(g2 : Int)) ok2 (show timesN 1 (-1) = true by decide))
      have hpo:=lhi (fun (w4 : World) (h4 : Psr w4 B T A n c l v2 ns2 g2 (i2 + 1) cl2 0) (y : Ending) (w5 : World) => put_of h4 hf.out (x:=y) (w2:=w5))
      have hdone:=lhi (fun (w5 : World) (z : Int) (y : YPut wr B T A n c l v2 ns2 g2 cl2 (i2 + 1) (repN x 1 (-1)) (.returned (.int .i64 z)) w5) => crep_next (V:=V) (inG:=inG) h2 (fun _ => trivial) k2 q1 q0 q2 q3 hl q4 (Nat.lt_succ_self i2) (hV.out.one i2 (.inr (.inl hx1))) (fun ps bs lv => stepE_plus hx1) y)
      clear h2 k2 q1 q0 q2 q3 q4 ok2 hx hx1 hnl hle hl
      go_wp2_with (first
       | (go_at_call 39;refine (hF.out).mono ?_;rintro y w9 ⟨rfl,rfl⟩)
       | (go_at_call 43;with_reducible show Calls _ _ #[_,Value.string {data:=#[42]}] _ _;refine (hN42.out _ hb0.out).mono ?_;rintro y wn1 ⟨rfl,hb⟩;have hb1:=lhi (hb0.out.trans (hb.mono hb0.out.size));clear hb)
       | (go_at_call 43;with_reducible show Calls _ _ #[_,Value.string {data:=#[43]}] _ _;refine (hY.out _ hb1.out).mono ?_;rintro y w3 ⟨rfl,-,h3,k3⟩;have h3d:=lhi (h3.keep (Below.refl _ _).drew);have k3d:=lhi (((ChP.of_below hb1.out).trans k3).trans (ChP.of_below (Below.refl _ _).drew));clear h3 k3)
       | (go_region_with (first
           | (go_at_call 71;refine (hR.out _ h3d.out).mono ?_;intro y w7 hx0;obtain ⟨z,rfl,hx⟩:=hpo.out _ h3d.out _ _ hx0;clear hx0;replace hx:=lhi hx)
           | (go_at_call 44;refine (hx.out).mono ?_;intro y w8 hy;obtain ⟨z,rfl,hy⟩:=hy.ret;replace hy:=lhi (hdone.out _ _ (hy.from k3d.out))))))
      all_goals
       refine ⟨?_,hy.out.2⟩
       (repeat apply Exists.intro)
       exact ⟨hy.out.1,rfl⟩
    by_cases hx2 : nx l i2 = 63
    · have hN42:=lhi (fun w3 (hb : Below wr.heap.size wr w3) => take_no (hP.out _ hb) ⟨#[42]⟩ (bg_nx 42 false (decide_eq_false (by rw [hx2];decide))))
      have hN43:=lhi (fun w3 (hb : Below wr.heap.size wr w3) => take_no (hP.out _ hb) ⟨#[43]⟩ (bg_nx 43 false (decide_eq_false (by rw [hx2];decide))))
      have hY:=lhi (fun w3 (hb : Below wr.heap.size wr w3) => take_yes (hP.out _ hb) ⟨#[63]⟩ (bg_nx 63 true (decide_eq_true (by rw [hx2];rfl))) 1 rfl (by decide))
      have hR:=lhi (fun (w4 : World) (h4 : Psr w4 B T A n c l v2 ns2 g2 (i2 + 1) cl2 0) => rep_any B T 0 v2 ns2 g2 w4 h4.bldr x 0 1)
      have hf:=lhi (fits_rep (g:=(g2 : Int)) ok2 (show timesN 0 1 = true by decide))
      have hpo:=lhi (fun (w4 : World) (h4 : Psr w4 B T A n c l v2 ns2 g2 (i2 + 1) cl2 0) (y : Ending) (w5 : World) => put_of h4 hf.out (x:=y) (w2:=w5))
      have hdone:=lhi (fun (w5 : World) (z : Int) (y : YPut wr B T A n c l v2 ns2 g2 cl2 (i2 + 1) (repN x 0 1) (.returned (.int .i64 z)) w5) => crep_next (V:=V) (inG:=inG) h2 (fun _ => trivial) k2 q1 q0 q2 q3 hl q4 (Nat.lt_succ_self i2) (hV.out.one i2 (.inr (.inr (.inl hx2)))) (fun ps bs lv => stepE_qm hx2) y)
      clear h2 k2 q1 q0 q2 q3 q4 ok2 hx hx1 hx2 hnl hle hl
      go_wp2_with (first
       | (go_at_call 39;refine (hF.out).mono ?_;rintro y w9 ⟨rfl,rfl⟩)
       | (go_at_call 43;with_reducible show Calls _ _ #[_,Value.string {data:=#[42]}] _ _;refine (hN42.out _ hb0.out).mono ?_;rintro y wn1 ⟨rfl,hb⟩;have hb1:=lhi (hb0.out.trans (hb.mono hb0.out.size));clear hb)
       | (go_at_call 43;with_reducible show Calls _ _ #[_,Value.string {data:=#[43]}] _ _;refine (hN43.out _ hb1.out).mono ?_;rintro y wn2 ⟨rfl,hb⟩;have hb2:=lhi (hb1.out.trans (hb.mono hb1.out.size));clear hb)
       | (go_at_call 43;with_reducible show Calls _ _ #[_,Value.string {data:=#[63]}] _ _;refine (hY.out _ hb2.out).mono ?_;rintro y w3 ⟨rfl,-,h3,k3⟩;have h3d:=lhi (h3.keep (Below.refl _ _).drew);have k3d:=lhi (((ChP.of_below hb2.out).trans k3).trans (ChP.of_below (Below.refl _ _).drew));clear h3 k3)
       | (go_region_with (first
           | (go_at_call 71;refine (hR.out _ h3d.out).mono ?_;intro y w7 hx0;obtain ⟨z,rfl,hx⟩:=hpo.out _ h3d.out _ _ hx0;clear hx0;replace hx:=lhi hx)
           | (go_at_call 44;refine (hx.out).mono ?_;intro y w8 hy;obtain ⟨z,rfl,hy⟩:=hy.ret;replace hy:=lhi (hdone.out _ _ (hy.from k3d.out))))))
      all_goals
       refine ⟨?_,hy.out.2⟩
       (repeat apply Exists.intro)
       exact ⟨hy.out.1,rfl⟩
    have hN42:=lhi (fun w3 (hb : Below wr.heap.size wr w3) => take_no (hP.out _ hb) ⟨#[42]⟩ (bg_nx 42 false (decide_eq_false hx)))
    have hN43:=lhi (fun w3 (hb : Below wr.heap.size wr w3) => take_no (hP.out _ hb) ⟨#[43]⟩ (bg_nx 43 false (decide_eq_false hx1)))
    have hN63:=lhi (fun w3 (hb : Below wr.heap.size wr w3) => take_no (hP.out _ hb) ⟨#[63]⟩ (bg_nx 63 false (decide_eq_false hx2)))
    by_cases hx3 : nx l i2 = 123
    · have hil:=nx_lt (l:=l) (i:=i2) (by omega)
      have hC:=lhi (fun w3 (hb : Below wr.heap.size wr w3) => comes_is (hP.out _ hb) ⟨#[123]⟩ true (bg_nx 123 true (decide_eq_true (by rw [hx3];rfl))))
      cases hv : ivE l i2 with
      | none =>
       have hT:=lhi (fun w3 (hb : Below wr.heap.size wr w3) => times_no (hP.out _ hb) ⟨#[123]⟩ ⟨#[125]⟩ (by decide) (by decide) (by decide) x ((ivE_ivl hil).trans hv))
       have hst:=lhi (fun ps bs lv => stepE_ivl_bad (ns:=ns2) (g:=g2) (cl:=cl2) (ps:=ps) (bs:=bs) (lv:=lv) (x:=x) hx3 hv)
       have h2':=lhi h2
       have k2':=lhi k2
       have q4':=lhi q4
       clear hv hnl h2 k2 q4 q1 q0 q2 q3 ok2 hx hx1 hx2 hx3 hil hl
       go_wp2_with (first
        | (go_at_call 39;refine (hF.out).mono ?_;rintro y w9 ⟨rfl,rfl⟩)
        | (go_at_call 43;with_reducible show Calls _ _ #[_,Value.string {data:=#[42]}] _ _;refine (hN42.out _ hb0.out).mono ?_;rintro y wn1 ⟨rfl,hb⟩;have hb1:=lhi (hb0.out.trans (hb.mono hb0.out.size));clear hb)
        | (go_at_call 43;with_reducible show Calls _ _ #[_,Value.string {data:=#[43]}] _ _;refine (hN43.out _ hb1.out).mono ?_;rintro y wn2 ⟨rfl,hb⟩;have hb2:=lhi (hb1.out.trans (hb.mono hb1.out.size));clear hb)
        | (go_at_call 43;with_reducible show Calls _ _ #[_,Value.string {data:=#[63]}] _ _;refine (hN63.out _ hb2.out).mono ?_;rintro y wn3 ⟨rfl,hb⟩;have hb3:=lhi (hb2.out.trans (hb.mono hb2.out.size));clear hb)
        | (go_at_call 47;refine (hC.out _ hb3.out).mono ?_;rintro y w4 ⟨rfl,hb4⟩;replace hb4:=lhi (hb3.out.trans (hb4.mono hb3.out.size)))
        | (go_at_call 72;refine (hT.out _ hb4.out).mono ?_;intro y w5 hy;obtain ⟨v5,ns5,g5,cl5,rfl,h5,k5⟩:=hy;replace h5:=lhi h5;replace k5:=lhi ((ChP.of_below hb4.out).trans k5)))
       have hfin:=lhi (show CNode V false w B T A n c l v ns g i cl inG (.returned (.int .i64 (-1))) w5 ∧ leftP n T w5 < leftP n T wr from
        ⟨.inr ⟨-1,v5,ns5,g5,i2,cl5,13,by decide,rfl,h5.out,k2'.out.trans k5.out,fun ct ps bs lv hct hlv => (q4'.out ct ps bs lv hct hlv).ends (.bad (hst.out _ bs lv))⟩,by rw [h5.out.left0 (by decide),h2'.out.left];omega⟩)
       go_roundw
       case rel => exact hfin.out.1
       case measure => exact hfin.out.2
      | some p =>
       obtain ⟨lo,hi',j⟩:=p
       have hsz:=ivE_size hil hv
       have hT:=lhi (fun w3 (hb : Below wr.heap.size wr w3) => times_yes (hP.out _ hb) ⟨#[123]⟩ ⟨#[125]⟩ (by decide) (by decide) (by decide) x ok2 ((ivE_ivl hil).trans hv))
       have hdone:=lhi (fun (w5 : World) (z : Int) (y : YPut wr B T A n c l v2 ns2 g2 cl2 j (repN x lo hi') (.returned (.int .i64 z)) w5) => crep_next (V:=V) (inG:=inG) h2 (fun _ => trivial) k2 q1 q0 q2 q3 hl q4 hsz (hV.out.iv i2 lo hi' j hx3 hv) (fun ps bs lv => stepE_ivl hx3 hv) y)
       clear hv hnl h2 k2 q4 q1 q0 q2 q3 ok2 hx hx1 hx2 hx3 hil hl hsz
       go_wp2_with (first
        | (go_at_call 39;refine (hF.out).mono ?_;rintro y w9 ⟨rfl,rfl⟩)
        | (go_at_call 43;with_reducible show Calls _ _ #[_,Value.string {data:=#[42]}] _ _;refine (hN42.out _ hb0.out).mono ?_;rintro y wn1 ⟨rfl,hb⟩;have hb1:=lhi (hb0.out.trans (hb.mono hb0.out.size));clear hb)
        | (go_at_call 43;with_reducible show Calls _ _ #[_,Value.string {data:=#[43]}] _ _;refine (hN43.out _ hb1.out).mono ?_;rintro y wn2 ⟨rfl,hb⟩;have hb2:=lhi (hb1.out.trans (hb.mono hb1.out.size));clear hb)
        | (go_at_call 43;with_reducible show Calls _ _ #[_,Value.string {data:=#[63]}] _ _;refine (hN63.out _ hb2.out).mono ?_;rintro y wn3 ⟨rfl,hb⟩;have hb3:=lhi (hb2.out.trans (hb.mono hb2.out.size));clear hb)
        | (go_at_call 47;refine (hC.out _ hb3.out).mono ?_;rintro y w4 ⟨rfl,hb4⟩;replace hb4:=lhi (hb3.out.trans (hb4.mono hb3.out.size)))
        | (go_at_call 72;refine (hT.out _ hb4.out).mono ?_;intro y w5 hy;obtain ⟨z,rfl,hy⟩:=hy.ret;replace hy:=lhi (hdone.out _ _ (hy.from (ChP.of_below hb4.out)))))
       go_roundw
       case rel => exact hy.out.1
       case measure => exact hy.out.2
    · have hC:=lhi (fun w3 (hb : Below wr.heap.size wr w3) => comes_is (hP.out _ hb) ⟨#[123]⟩ false (bg_nx 123 false (decide_eq_false hx3)))
      have hfin:=lhi (fun (w4 : World) (hb : Below wr.heap.size wr w4) => show CNode V true w B T A n c l v ns g i cl inG (.returned (.int .i64 x)) w4 from
       .inl ⟨x,v2,ns2,g2,i2,cl2,rfl,ok2,hP.out _ hb,k2.trans (ChP.of_below hb),q1,q0,q2,q3,fun ct ps bs lv hct hlv => (q4 ct ps bs lv hct hlv).snoc (stepE_off hx hx1 hx2 hx3)⟩)
      clear hnl h2 k2 q4 q1 q0 q2 q3 ok2 hx hx1 hx2 hx3 hl
      go_wp2_with (first
       | (go_at_call 39;refine (hF.out).mono ?_;rintro y w9 ⟨rfl,rfl⟩)
       | (go_at_call 43;with_reducible show Calls _ _ #[_,Value.string {data:=#[42]}] _ _;refine (hN42.out _ hb0.out).mono ?_;rintro y wn1 ⟨rfl,hb⟩;have hb1:=lhi (hb0.out.trans (hb.mono hb0.out.size));clear hb)
        | (go_at_call 43;with_reducible show Calls _ _ #[_,Value.string {data:=#[43]}] _ _;refine (hN43.out _ hb1.out).mono ?_;rintro y wn2 ⟨rfl,hb⟩;have hb2:=lhi (hb1.out.trans (hb.mono hb1.out.size));clear hb)
        | (go_at_call 43;with_reducible show Calls _ _ #[_,Value.string {data:=#[63]}] _ _;refine (hN63.out _ hb2.out).mono ?_;rintro y wn3 ⟨rfl,hb⟩;have hb3:=lhi (hb2.out.trans (hb.mono hb2.out.size));clear hb)
       | (go_at_call 47;refine (hC.out _ hb3.out).mono ?_;rintro y w4 ⟨rfl,hb4⟩;replace hb4:=lhi (hb3.out.trans (hb4.mono hb3.out.size))))
      go_ret
      exact hfin.out _ hb4.out
  · obtain rfl:=(Ending.returned.inj ea)
    clear ea
    have hF:=lhi (fine_any h2)
    rw [decide_eq_false he2] at hF
    have hfin:=lhi (show CNode V true w B T A n c l v ns g i cl inG (.returned (.int .i64 (-1))) wr from .inr ⟨-1,v2,ns2,g2,i2,cl2,e2,he2,rfl,h2,k2,q4⟩)
    clear h2 k2 q4 he2
    go_wp2_with (go_at_call 39;refine (hF.out).mono ?_;rintro y w9 ⟨rfl,rfl⟩)
    go_ret
    exact hfin.out
variable {V : Nat → Nat} (h : Psr w B T A n c l v ns g i cl 0)
include h
theorem cpiece_bol (hx : nx l i = 94) (hp : PieAt l i inG) (hl : ns.length < 1000) (hV : Pot l V) :
    Calls Tryz.prog 67 #[.pointer (some ⟨T,0,none⟩)] w (CNode V true w B T A n c l v ns g i cl inG):=by
 have hb0:=lhi (Below.refl w.heap.size w)
 have hY:=lhi (fun w3 (hb : Below w.heap.size w w3) => take_yes (h.keep hb) ⟨#[94]⟩ (bg_nx 94 true (decide_eq_true (by rw [hx];rfl))) 1 rfl (by decide))
 have hR:=lhi (fun (w4 : World) (h4 : Psr w4 B T A n c l v ns g (i + 1) cl 0) => bol_any B T 0 v ns g w4 h4.bldr)
 have hpo:=lhi (fun (w4 : World) (h4 : Psr w4 B T A n c l v ns g (i + 1) cl 0) (y : Ending) (w5 : World) => put_of h4 (fits_plain 7 (.inr (.inl rfl)) _ _) (x:=y) (w2:=w5))
 have hdone:=lhi (fun (w5 : World) (z : Int) (y : YPut w B T A n c l v ns g cl (i + 1) bolN (.returned (.int .i64 z)) w5) => YPut.canc (V:=V) (inG:=inG) y hl hp (by obtain ⟨r,hr⟩:=pie_of (k:=94) hx;exact pie_bol hr) hV)
 clear h hx hp hl hV
 go_enter Tryz.func67,Tryz.ntmps67
 go_wp2_with (first
  | (go_at_call 43;with_reducible show Calls _ _ #[_,Value.string {data:=#[94]}] _ _;refine (hY.out _ hb0.out).mono ?_;rintro y w3 ⟨rfl,-,h3,k3⟩;have h3d:=lhi (h3.keep (Below.refl _ _).drew);have k3d:=lhi (((ChP.of_below hb0.out).trans k3).trans (ChP.of_below (Below.refl _ _).drew));clear h3 k3)
  | (go_region_with (first
      | (go_at_call 46;refine (hR.out _ h3d.out).mono ?_;intro y w7 hx0;obtain ⟨z,rfl,hx⟩:=hpo.out _ h3d.out _ _ hx0;clear hx0;replace hx:=lhi hx)
      | (go_at_call 44;refine (hx.out).mono ?_;intro y w8 hy;obtain ⟨z,rfl,hy⟩:=hy.ret;replace hy:=lhi (hdone.out _ _ (hy.from k3d.out))))))
 all_goals
  go_ret
  exact hy.out
theorem cpiece_eol (hx : nx l i = 36) (hp : PieAt l i inG) (hl : ns.length < 1000) (hV : Pot l V) :
    Calls Tryz.prog 67 #[.pointer (some ⟨T,0,none⟩)] w (CNode V true w B T A n c l v ns g i cl inG):=by
 have hb0:=lhi (Below.refl w.heap.size w)
 have hN94:=lhi (fun w3 (hb : Below w.heap.size w w3) => take_no (h.keep hb) ⟨#[94]⟩ (bg_nx 94 false (decide_eq_false (by rw [hx];decide))))
 have hY:=lhi (fun w3 (hb : Below w.heap.size w w3) => take_yes (h.keep hb) ⟨#[36]⟩ (bg_nx 36 true (decide_eq_true (by rw [hx];rfl))) 1 rfl (by decide))
 have hR:=lhi (fun (w4 : World) (h4 : Psr w4 B T A n c l v ns g (i + 1) cl 0) => eol_any B T 0 v ns g w4 h4.bldr)
 have hpo:=lhi (fun (w4 : World) (h4 : Psr w4 B T A n c l v ns g (i + 1) cl 0) (y : Ending) (w5 : World) => put_of h4 (fits_plain 8 (.inr (.inr rfl)) _ _) (x:=y) (w2:=w5))
 have hdone:=lhi (fun (w5 : World) (z : Int) (y : YPut w B T A n c l v ns g cl (i + 1) eolN (.returned (.int .i64 z)) w5) => YPut.canc (V:=V) (inG:=inG) y hl hp (by obtain ⟨r,hr⟩:=pie_of (k:=36) hx;exact pie_eol hr) hV)
 clear h hx hp hl hV
 go_enter Tryz.func67,Tryz.ntmps67
 go_wp2_with (first
  | (go_at_call 43;with_reducible show Calls _ _ #[_,Value.string {data:=#[94]}] _ _;refine (hN94.out _ hb0.out).mono ?_;rintro y wn1 ⟨rfl,hb⟩;have hb1:=lhi (hb0.out.trans (hb.mono hb0.out.size));clear hb)
  | (go_at_call 43;with_reducible show Calls _ _ #[_,Value.string {data:=#[36]}] _ _;refine (hY.out _ hb1.out).mono ?_;rintro y w3 ⟨rfl,-,h3,k3⟩;have h3d:=lhi (h3.keep (Below.refl _ _).drew);have k3d:=lhi (((ChP.of_below hb1.out).trans k3).trans (ChP.of_below (Below.refl _ _).drew));clear h3 k3)
  | (go_region_with (first
      | (go_at_call 88;refine (hR.out _ h3d.out).mono ?_;intro y w7 hx0;obtain ⟨z,rfl,hx⟩:=hpo.out _ h3d.out _ _ hx0;clear hx0;replace hx:=lhi hx)
      | (go_at_call 44;refine (hx.out).mono ?_;intro y w8 hy;obtain ⟨z,rfl,hy⟩:=hy.ret;replace hy:=lhi (hdone.out _ _ (hy.from k3d.out))))))
 all_goals
  go_ret
  exact hy.out
theorem cpiece_any (hp : PieAt l i inG) (hV : Pot l V) (hrm : ns.length + V i < 1000) (hB : ∀ k,k < n - i → CAltOK k) :
    Calls Tryz.prog 67 #[.pointer (some ⟨T,0,none⟩)] w (CNode V true w B T A n c l v ns g i cl inG):=by
 have hl : ns.length < 1000:=by omega
 by_cases x5 : nx l i = 94
 · exact cpiece_bol h x5 hp hl hV
 by_cases x6 : nx l i = 36
 · exact cpiece_eol h x6 hp hl hV
 have hb0:=lhi (Below.refl w.heap.size w)
 have hN94:=lhi (fun w3 (hb : Below w.heap.size w w3) => take_no (h.keep hb) ⟨#[94]⟩ (bg_nx 94 false (decide_eq_false x5)))
 have hN36:=lhi (fun w3 (hb : Below w.heap.size w w3) => take_no (h.keep hb) ⟨#[36]⟩ (bg_nx 36 false (decide_eq_false x6)))
 have hA:=lhi (fun w3 (hb : Below w.heap.size w w3) => catom_any (inG:=inG) (h.keep hb) hp x5 x6 hV hrm hB)
 have hR:=lhi (fun (w3 : World) (z : Int) (y : CNode V false w B T A n c l v ns g i cl inG (.returned (.int .i64 z)) w3) => crepeated y hV hrm)
 clear h hp hB hl x5 x6 hV
 go_enter Tryz.func67,Tryz.ntmps67
 go_wp2_with (first
  | (go_at_call 43;with_reducible show Calls _ _ #[_,Value.string {data:=#[94]}] _ _;refine (hN94.out _ hb0.out).mono ?_;rintro y wn1 ⟨rfl,hb⟩;have hb1:=lhi (hb0.out.trans (hb.mono hb0.out.size));clear hb)
  | (go_at_call 43;with_reducible show Calls _ _ #[_,Value.string {data:=#[36]}] _ _;refine (hN36.out _ hb1.out).mono ?_;rintro y wn2 ⟨rfl,hb⟩;have hb2:=lhi (hb1.out.trans (hb.mono hb1.out.size));clear hb)
  | (go_at_call 90;refine (hA.out _ hb2.out).mono ?_;intro y w5 hy;obtain ⟨z,rfl,hy⟩:=hy.ret;replace hy:=lhi (hy.from (ChP.of_below hb2.out)))
  | (go_at_call 89;refine (hR.out _ _ hy.out).mono ?_;intro y w6 hz;obtain ⟨z2,rfl,hz⟩:=hz.ret;replace hz:=lhi hz))
 go_ret
 exact hz.out
end
end Go.Proofs.YtonjnagcdnmcpaaGreatDoor
