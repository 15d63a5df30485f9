/- Contracts and plain facts: M41. -/
import Derived.Test.YtonjnagcdnmcpaaGreatDoorM16
import Derived.Test.YtonjnagcdnmcpaaGreatDoorM22
import Derived.Test.YtonjnagcdnmcpaaGreatDoorM23
import Derived.Deep.Slices
import Derived.Deep.Fields
import Derived.ChangeSame
import Derived.Laws.IdiomArrays
set_option linter.unusedVariables false
set_option linter.unusedSimpArgs false
set_option maxRecDepth 100000
set_option maxHeartbeats 32000000
namespace Go.Proofs.YtonjnagcdnmcpaaGreatDoor
open Go.RowKit
def EndX (l : List UInt8) (r : Rx) : Prop:=(l = [] ∧ r = .fin [emptyN] 0) ∨ (l ≠ [] ∧ EndsE l ce0 r)
theorem EndX.det {l : List UInt8} {r s : Rx} (h : EndX l r) (k : EndX l s) : r = s:=by
 rcases h with ⟨h1,h2⟩ | ⟨h1,h2⟩
 · rcases k with ⟨k1,k2⟩ | ⟨k1,k2⟩
   · rw [h2,k2]
   · exact absurd h1 k1
 · rcases k with ⟨k1,k2⟩ | ⟨k1,k2⟩
   · exact absurd k1 h1
   · exact h2.det k2
def PResE (w : World) (l : List UInt8) (e : Ending) (w' : World) : Prop :=
 (∃ v ns g,e = .returned (.tuple #[.agg #[v,.int .i64 ((g : Nat) : Int)],.int .i64 0,.int .i64 0]) ∧ EndX l (.fin ns g) ∧ rightN ns (g : Int) = true ∧ w'.ownsRow w.heap.size 43 10 v ns.length (nodsL ns) ∧ Below w.heap.size w w') ∨
 (∃ p q : Nat,q ≠ 0 ∧ e = .returned (.tuple #[.agg #[.slice none 0 0,.int .i64 0],.int .i64 (p : Int),.int .i64 (q : Int)]) ∧ EndX l (.bad p q) ∧ Below w.heap.size w w')
theorem right_empty : rightN [emptyN] (0 : Int) = true:=by
 have h:=Fo.node (nd:=emptyN) (P:=[]) (R:=[]) (Fo.nil_ 0) rfl (fits_plain 0 (.inl rfl) _ _)
 have h2:=rightN_end (ns:=[emptyN]) (g:=(0 : Int)) ⟨by simp,by simp,by omega,by omega⟩ h.fit
 rw [h2,onceL_yes,onceL_yes]
 · rfl
 · intro k hk
   simp at hk
 · intro k hk
   rw [List.length_map,List.length_range] at hk
   simp at hk
theorem eparse_nil {A : Option Addr} {n c : Nat} {l : List UInt8} {w : World} (h : Inp w A n c l) (h0 : n = 0) :
    Calls Tryz.prog 15 #[.slice A n c] w (PResE w l):=by
 have hb1 : Below w.heap.size w (w.alloc (.cells #[.slice none 0 0,.int .i64 0] 26)):=(Below.refl _ _).alloc (nlr _) _
 have hR:=lhi (held_new w 26 #[.slice none 0 0,.int .i64 0])
 have hN:=lhi (new_any A n c (w.alloc (.cells #[.slice none 0 0,.int .i64 0] 26)))
 have hsz : w.heap.size < (w.alloc (.cells #[.slice none 0 0,.int .i64 0] 26)).heap.size:=by simp
 have hPn:=lhi (fun (w1 : World) (hb : Below w.heap.size w w1) => psr_new h hb 61 (by decide) (by decide))
 have hEn:=lhi (fun (w2 : World) (B T : Nat) (hP : Psr w2 B T A n c l (.slice none 0 0) [] 0 0 noCl 0) => ends_any hP)
 have hl0 : l = []:=List.length_eq_zero_iff.1 (by have:=h.1;omega)
 have hEm:=lhi (fun (w2 : World) (B T : Nat) (hP : Psr w2 B T A n c l (.slice none 0 0) [] 0 0 noCl 0) => empty_any B T 0 _ [] 0 w2 hP.bldr)
 have hfin:=lhi (show EndX l (.fin [emptyN] 0) from .inl ⟨hl0,rfl⟩)
 rw [decide_eq_true (show 0 = n from h0.symm)] at hEn
 replace hb1:=lhi hb1
 clear h hl0 h0
 unfold psrC noCl at hN hPn
 go_enter Tryz.func15,Tryz.ntmps15
 go_wp2_with (first
  | (go_at_call 24;refine (hN.out).mono ?_;rintro e w1 ⟨rfl,hb⟩;have hbw:=hb1.out.trans (hb.mono hb1.out.size);have hP1:=lhi (hPn.out w1 hbw);have hTR : w.heap.size < w1.heap.size:=nll hsz hb.size;have hRk:=lhi ((hR.out.keep hb).alloc (.cells #[.slice none 0 0,.int .i64 0,.slice A n c,.int .i64 0,.bool false,.bool false,.bool false,.bool false,.bool false,.bool false,.bool false,.bool false,.bool false,.bool false,.int .i64 0] 61));replace hbw:=lhi (hbw.alloc hbw.size (.cells #[.slice none 0 0,.int .i64 0,.slice A n c,.int .i64 0,.bool false,.bool false,.bool false,.bool false,.bool false,.bool false,.bool false,.bool false,.bool false,.bool false,.int .i64 0] 61));clear hb)
  | (go_at_call 25;refine (hEn.out _ _ _ hP1.out).mono ?_;rintro e w2 ⟨rfl,hb⟩;replace hP1:=lhi (hP1.out.keep hb);replace hRk:=lhi (hRk.out.keep hb);replace hbw:=lhi (hbw.out.trans (hb.mono hbw.out.size));clear hb)
  | (go_at_call 27;refine (hEm.out _ _ _ hP1.out).mono ?_;intro x w3 hx2;obtain ⟨v2,rfl,h2,k2⟩:=hP1.out.room (by decide) (fits_plain 0 (.inl rfl) _ _) hx2;clear hx2;have hTo:=lhi (told_ok h2 right_empty (by decide) 0 rfl);have hR3:=lhi (hRk.out.chp k2 (by omega) (by intro e;cases e));have hb3:=lhi (hbw.out.trans (k2.below (by have:=hbw.out.size;omega) (by omega) (fun k e => by cases e)));clear h2 k2)
  | (go_at_call 26;refine (hTo.out).mono ?_;intro y w4 hy;first
     | (obtain ⟨v4,rfl,ho4,hb4⟩:=hy;obtain ⟨A4,c4,rfl,-,-,-,-⟩:=own_nods ho4;replace ho4:=lhi ho4;have hR4:=lhi (hR3.out.keep hb4);have z:=hR4.out.at_ (i:=0) rfl;have z1:=hR4.out.at_ (i:=1) rfl;have y0:=hR4.out.thawed 0;have y1:=hR4.out.thawed 1;replace hb4:=lhi (hb3.out.trans (hb4.mono hb3.out.size)))
     | (obtain ⟨rfl,hb4⟩:=hy;have hR4:=lhi (hR3.out.keep hb4);have z:=hR4.out.at_ (i:=0) rfl;have z1:=hR4.out.at_ (i:=1) rfl;have y0:=hR4.out.thawed 0;have y1:=hR4.out.thawed 1;replace hb4:=lhi (hb3.out.trans (hb4.mono hb3.out.size)))))
 have hown : (w4.setCell ⟨w.heap.size,0,none⟩ (.slice A4 1 c4)).setCell ⟨w.heap.size,1,none⟩ (.int .i64 0) |>.ownsRow w.heap.size 43 10 (.slice A4 1 c4) 1 (nodsL [emptyN]) :=
  own_low (own_far (hR4.out.put 0 (.slice A4 1 c4)) (by decide) (own_far hR4.out (by decide) ho4.out 0 _) 1 _) hb3.out.size
 exact bodyPost_ret (v:=.tuple #[.agg #[.slice A4 1 c4,.int .i64 0],.int .i64 0,.int .i64 0]) (results_cell_three Tryz.results15 _ _ w.heap.size 26 #[.slice A4 1 c4,.int .i64 0] (0,0) _ rfl rfl rfl ((hR4.out.put 0 _).put 1 _) Tryz.underlying26 rfl (by kernel_rfl)) rfl
  (.inl ⟨_,[emptyN],0,rfl,hfin.out,right_empty,hown,(hb4.out.setCell (p:=⟨w.heap.size,0,none⟩) (nlr _) _).setCell (p:=⟨w.heap.size,1,none⟩) (nlr _) _⟩)
theorem eparse_pot {A : Option Addr} {n c : Nat} {l : List UInt8} {w : World} (h : Inp w A n c l) {V : Nat → Nat} (hV : Pot l V) (hV0 : V 0 < 1000) :
    Calls Tryz.prog 15 #[.slice A n c] w (PResE w l):=by
 by_cases h0 : n = 0
 · exact eparse_nil h h0
 have hb1 : Below w.heap.size w (w.alloc (.cells #[.slice none 0 0,.int .i64 0] 26)):=(Below.refl _ _).alloc (nlr _) _
 have hR:=lhi (held_new w 26 #[.slice none 0 0,.int .i64 0])
 have hN:=lhi (new_any A n c (w.alloc (.cells #[.slice none 0 0,.int .i64 0] 26)))
 have hsz : w.heap.size < (w.alloc (.cells #[.slice none 0 0,.int .i64 0] 26)).heap.size:=by simp
 have hPn:=lhi (fun (w1 : World) (hb : Below w.heap.size w w1) => psr_new h hb 61 (by decide) (by decide))
 have hEn:=lhi (fun (w2 : World) (B T : Nat) (hP : Psr w2 B T A n c l (.slice none 0 0) [] 0 0 noCl 0) => ends_any hP)
 have hl0 : l ≠ []:=fun e => h0 (by have:=h.1;rw [e] at this;simpa using this)
 have hBr:=lhi (fun (w2 : World) (B T : Nat) (hP : Psr w2 B T A n c l (.slice none 0 0) [] 0 0 noCl 0) => calt_all n V false w2 B T A n c l _ [] 0 0 noCl hP hV (by simpa using hV0) (by omega))
 have hn:=lhi h.1
 rw [decide_eq_false (show ¬ 0 = n from fun e => h0 e.symm)] at hEn
 replace hb1:=lhi hb1
 replace hl0:=lhi hl0
 clear h h0 hV hV0
 unfold psrC noCl at hN hPn
 go_enter Tryz.func15,Tryz.ntmps15
 go_wp2_with (first
  | (go_at_call 24;refine (hN.out).mono ?_;rintro e w1 ⟨rfl,hb⟩;have hbw:=hb1.out.trans (hb.mono hb1.out.size);have hP1:=lhi (hPn.out w1 hbw);have hTR : w.heap.size < w1.heap.size:=nll hsz hb.size;have hRk:=lhi ((hR.out.keep hb).alloc (.cells #[.slice none 0 0,.int .i64 0,.slice A n c,.int .i64 0,.bool false,.bool false,.bool false,.bool false,.bool false,.bool false,.bool false,.bool false,.bool false,.bool false,.int .i64 0] 61));replace hbw:=lhi (hbw.alloc hbw.size (.cells #[.slice none 0 0,.int .i64 0,.slice A n c,.int .i64 0,.bool false,.bool false,.bool false,.bool false,.bool false,.bool false,.bool false,.bool false,.bool false,.bool false,.int .i64 0] 61));clear hb)
  | (go_at_call 25;refine (hEn.out _ _ _ hP1.out).mono ?_;rintro e w2 ⟨rfl,hb⟩;replace hP1:=lhi (hP1.out.keep hb);replace hRk:=lhi (hRk.out.keep hb);replace hbw:=lhi (hbw.out.trans (hb.mono hbw.out.size));clear hb)
  | (go_at_call 28;refine (hBr.out _ _ _ hP1.out).mono ?_;intro y w3 hy;rcases hy with ⟨x,v2,ns2,g2,i2,cl2,ns1,ps1,bs1,rfl,ok2,h2,k2,q1,q2,q3,q4,q5,q6⟩ | ⟨x,v2,ns2,g2,i2,cl2,e2,he2,rfl,h2,k2,q6⟩
     all_goals first
      | (obtain ⟨hal,hst⟩:=q6 [] rfl
         have hir:=(hst.inv invE0).right hal h2.len
         have hen:=lhi (show EndX l (.fin ns2 g2) from .inr ⟨hl0.out,hst.ends (.fin (by
          show stepEL l _ = _
          have hq5 : i2 = n:=by simpa using q5
          simp only [stepEL]
          rw [if_pos (by rw [hq5,hn.out];exact nlr _),hal]))⟩)
         have hr:=lhi hir.1
         have hTo:=lhi (told_ok h2 hir.1 hir.2.2.1 x hir.2.1)
         have hR3:=lhi (hRk.out.chp k2 (by omega) (by intro e;cases e))
         have hb3:=lhi (hbw.out.trans (k2.below (by have:=hbw.out.size;omega) (by omega) (fun k e => by cases e)))
         clear h2 k2 q1 q2 q3 q4 q5 q6 hst hir ok2 hal)
      | (have hTo:=lhi (told_bad h2 he2 x)
         have hR3:=lhi (hRk.out.chp k2 (by omega) (by intro e;cases e))
         have hb3:=lhi (hbw.out.trans (k2.below (by have:=hbw.out.size;omega) (by omega) (fun k e => by cases e)))
         have hen:=lhi (show EndX l (.bad i2 e2) from .inr ⟨hl0.out,q6 [] rfl⟩)
         replace he2:=lhi he2
         clear h2 k2 q6))
  | (go_at_call 26;refine (hTo.out).mono ?_;intro y w4 hy;first
     | (obtain ⟨v4,rfl,ho4,hb4⟩:=hy;obtain ⟨A4,c4,rfl,-,-,-,-⟩:=own_nods ho4;replace ho4:=lhi ho4;have hR4:=lhi (hR3.out.keep hb4);have z:=hR4.out.at_ (i:=0) rfl;have z1:=hR4.out.at_ (i:=1) rfl;have y0:=hR4.out.thawed 0;have y1:=hR4.out.thawed 1;replace hb4:=lhi (hb3.out.trans (hb4.mono hb3.out.size)))
     | (obtain ⟨rfl,hb4⟩:=hy;have hR4:=lhi (hR3.out.keep hb4);have z:=hR4.out.at_ (i:=0) rfl;have z1:=hR4.out.at_ (i:=1) rfl;have y0:=hR4.out.thawed 0;have y1:=hR4.out.thawed 1;replace hb4:=lhi (hb3.out.trans (hb4.mono hb3.out.size)))))
 · have hown : (w4.setCell ⟨w.heap.size,0,none⟩ (.slice A4 ns2.length c4)).setCell ⟨w.heap.size,1,none⟩ (.int .i64 (g2 : Int)) |>.ownsRow w.heap.size 43 10 (.slice A4 ns2.length c4) ns2.length (nodsL ns2) :=
     own_low (own_far (hR4.out.put 0 (.slice A4 ns2.length c4)) (by decide) (own_far hR4.out (by decide) ho4.out 0 _) 1 _) hb3.out.size
   exact bodyPost_ret (v:=.tuple #[.agg #[.slice A4 ns2.length c4,.int .i64 (g2 : Int)],.int .i64 0,.int .i64 0]) (results_cell_three Tryz.results15 _ _ w.heap.size 26 #[.slice A4 ns2.length c4,.int .i64 (g2 : Int)] (0,0) _ rfl rfl rfl ((hR4.out.put 0 _).put 1 _) Tryz.underlying26 rfl (by kernel_rfl)) rfl
    (.inl ⟨_,ns2,g2,rfl,hen.out,hr.out,hown,(hb4.out.setCell (p:=⟨w.heap.size,0,none⟩) (nlr _) _).setCell (p:=⟨w.heap.size,1,none⟩) (nlr _) _⟩)
 · exact bodyPost_ret (v:=.tuple #[.agg #[.slice none 0 0,.int .i64 0],.int .i64 (i2 : Int),.int .i64 (e2 : Int)]) (results_cell_three Tryz.results15 _ _ w.heap.size 26 #[.slice none 0 0,.int .i64 0] (0,0) _ rfl rfl rfl ((hR4.out.put 0 _).put 1 _) Tryz.underlying26 rfl (by kernel_rfl)) rfl
     (.inr ⟨i2,e2,he2.out,rfl,hen.out,(hb4.out.setCell (p:=⟨w.heap.size,0,none⟩) (nlr _) _).setCell (p:=⟨w.heap.size,1,none⟩) (nlr _) _⟩)
def goE : Nat → List UInt8 → Ce → Rx
 | 0,_,c => .go c
 | k + 1,t,c => match stepE t c with
  | .go c' => goE k t c'
  | .bad i e => .bad i e
  | .fin ns g => .fin ns g
theorem goE_ends : ∀ (k : Nat) (t : List UInt8) (c : Ce) (r : Rx),goE k t c = r → (∀ c2,r ≠ .go c2) → EndsE t c r
 | 0,t,c,r,h,hr => absurd h.symm (hr c)
 | k + 1,t,c,r,h,hr => by
  unfold goE at h
  cases hs : stepE t c with
  | go c' =>
   rw [hs] at h
   obtain ⟨c2,h1,h2,h3⟩:=goE_ends k t c' r h hr
   exact ⟨c2,.head hs h1,h2,h3⟩
  | bad i e => rw [hs] at h;exact ⟨c,.refl c,by rw [hs];exact h,hr⟩
  | fin ns g => rw [hs] at h;exact ⟨c,.refl c,by rw [hs];exact h,hr⟩
theorem endX_fin {k : Nat} {t : List UInt8} {ns : List Nod} {g : Nat} (ht : t ≠ []) (h : goE k t ce0 = .fin ns g) : EndX t (.fin ns g):=.inr ⟨ht,goE_ends k t ce0 _ h fun _ => by simp⟩
structure OwnK (w : World) (q k : Nat) (v : Value) : Prop where
 lt : q < w.heap.size
 cell : w.cell? ⟨q,k,none⟩ = some v
theorem OwnK.keep {w w' : World} {q k : Nat} {v : Value} (h : OwnK w q k v) (hb : Below w.heap.size w w') : OwnK w' q k v:=⟨nll h.lt hb.size,(hb.cell (p:=⟨q,k,none⟩) h.lt).trans h.cell⟩
theorem OwnK.alloc {w : World} {q k : Nat} {v : Value} (h : OwnK w q k v) (o : Obj) : OwnK (w.alloc o) q k v:=h.keep ((Below.refl _ _).alloc (nlr _) o)
theorem ew1 : EndX [97,124,98] (.fin [setN (ofL [97]),setN (ofL [98]),twoN 3 0 1] 0):=endX_fin (k:=12) (by simp) (by rfl)
end Go.Proofs.YtonjnagcdnmcpaaGreatDoor
namespace Go.Proofs.YtonjnagcdnmcpaaGreatDoor
open Go.ChangeShapes Go.WideShapes Go.Deep Go.RowKit
theorem SetAt.cells4 {w : World} {g : Nat} {f : Nat → Bool} (h : SetAt w g f) : w.cell? ⟨g,0,none⟩ = some (.int .u64 ((wd f 0 : Nat) : Int)) ∧ w.cell? ⟨g,1,none⟩ = some (.int .u64 ((wd f 1 : Nat) : Int)) ∧
    w.cell? ⟨g,2,none⟩ = some (.int .u64 ((wd f 2 : Nat) : Int)) ∧ w.cell? ⟨g,3,none⟩ = some (.int .u64 ((wd f 3 : Nat) : Int)):=⟨h.cell 0 (by decide),h.cell 1 (by decide),h.cell 2 (by decide),h.cell 3 (by decide)⟩
section
variable {H : Type} {enc : TypeId × Value → H} {W : World} {held : Bool}
end
end Go.Proofs.YtonjnagcdnmcpaaGreatDoor
namespace Go.Proofs.YtonjnagcdnmcpaaGreatDoor
open Go.RowKit
namespace Alts
theorem bg_app {p u s : List UInt8} (h : p.length ≤ u.length) : bg p (u ++ s) = bg p u :=
 (bg_agree (n:=p.length) (by rw [List.take_append_of_le_length h]) (nlr _)).symm
section
variable {p t s : List UInt8} {i : Nat}
theorem in_drop (hi : i ≤ t.length) : (p ++ (t ++ s)).drop (i + p.length) = t.drop i ++ s:=by
 rw [List.drop_append,List.drop_eq_nil_of_le (by omega),List.nil_append,Nat.add_sub_cancel,List.drop_append_of_le_length hi]
theorem in_readB {f : Nat → Bool} {j : Nat} (hi : i ≤ t.length) (h : readB t i = .ok (f,j)) : readB (p ++ (t ++ s)) (i + p.length) = .ok (f,j + p.length):=by
 have hsz0:=readB_size hi h
 have hbg : bg [94] (t.drop i ++ s) = bg [94] (t.drop i):=bg_app (by rw [List.length_drop];simp;omega)
 have hit : ∀ (m : Nat) (acc g : Nat → Bool) (q : Nat),m ≤ t.length → items true (t.drop m) m acc = .ok (g,q) → items true (t.drop m ++ s) (m + p.length) acc = .ok (g,q + p.length):=fun m acc g q hm e => by
  have hsz:=items_size _ _ _ _ _ _ e
  rw [List.length_drop] at hsz
  have:=items_agree true (t.drop m) m acc g q (t.drop m ++ s) e (by rw [List.take_append_of_le_length (by rw [List.length_drop];omega)])
  rw [items_move,this]
 cases hx : bg [94] (t.drop i) with
 | true =>
  have hr:=bg_room hx
  simp at hr
  rw [readB_not hx] at h
  rw [readB_not (by rw [in_drop hi,hbg];exact hx)]
  cases he : items true (t.drop (i + 1)) (i + 1) noneF with
  | error e => rw [he] at h;cases h
  | ok pp =>
   obtain ⟨g,q⟩:=pp
   rw [he] at h
   simp only [Except.ok.injEq,Prod.mk.injEq] at h
   rw [show i + p.length + 1 = (i + 1) + p.length by omega,in_drop (by omega),hit (i + 1) noneF g q (by omega) he]
   simp only [Except.ok.injEq,Prod.mk.injEq]
   exact ⟨h.1,by omega⟩
 | false =>
  rw [readB_plain hx] at h
  rw [readB_plain (by rw [in_drop hi,hbg];exact hx),in_drop hi]
  exact hit i noneF f j hi h
theorem in_pie (hi : i < t.length) {j : Nat} {nd : Nod} (h : pieE t i = .nod j nd) : pieE (p ++ (t ++ s)) (i + p.length) = .nod (j + p.length) nd ∧ j ≤ t.length:=by
 obtain ⟨c,r,hd,-⟩:=nx_has hi
 have hd' : (p ++ (t ++ s)).drop (i + p.length) = c :: (r ++ s):=by rw [in_drop (by omega),hd];rfl
 have hlen:=congrArg List.length hd
 rw [List.length_drop,List.length_cons] at hlen
 rw [pie_at hd] at h
 rw [pie_at hd']
 simp only [pieR] at h ⊢
 split at h
 · cases h
 rename_i q0
 rw [if_neg q0]
 split at h
 · cases h
 rename_i q1
 rw [if_neg q1]
 split at h
 · cases h
 rename_i q2
 rw [if_neg q2]
 split at h
 · cases h
 rename_i q3
 rw [if_neg q3]
 split at h
 · cases h
 rename_i q4
 rw [if_neg q4]
 split at h
 · rename_i q5
   rw [if_pos q5]
   cases r with
   | nil => cases h
   | cons x r =>
    rw [List.length_cons] at hlen
    rw [List.cons_append]
    simp only [escE] at h ⊢
    by_cases h4 : x = 110
    · rw [if_pos h4] at h ⊢
      simp only [ofAm,Pm.nod.injEq] at h ⊢
      exact ⟨⟨by omega,h.2⟩,by omega⟩
    rw [if_neg h4] at h ⊢
    by_cases h5 : 49 ≤ x ∧ x ≤ 57
    · rw [if_pos h5] at h;cases h
    rw [if_neg h5] at h ⊢
    by_cases h6 : isAl x = true
    · rw [if_pos h6] at h;cases h
    rw [if_neg h6] at h ⊢
    simp only [ofAm,Pm.nod.injEq] at h ⊢
    exact ⟨⟨by omega,h.2⟩,by omega⟩
 rename_i q5
 rw [if_neg q5]
 split at h
 · rename_i q6
   rw [if_pos q6]
   unfold brkA at h ⊢
   cases hr : readB t (i + 1) with
   | error e => rw [hr] at h;cases h
   | ok pp =>
    obtain ⟨f,q⟩:=pp
    have hsz:=readB_size (by omega) hr
    rw [hr] at h
    simp only [ofAm,Pm.nod.injEq] at h
    rw [show i + p.length + 1 = i + 1 + p.length by omega,in_readB (by omega) hr]
    simp only [ofAm,Pm.nod.injEq]
    exact ⟨⟨by omega,h.2⟩,by omega⟩
 rename_i q6
 rw [if_neg q6]
 split at h
 · rename_i q7
   rw [if_pos q7]
   simp only [Pm.nod.injEq] at h ⊢
   exact ⟨⟨by omega,h.2⟩,by omega⟩
 · rename_i q7
   rw [if_neg q7]
   simp only [Pm.nod.injEq] at h ⊢
   exact ⟨⟨by omega,h.2⟩,by omega⟩
end
end Alts
end Go.Proofs.YtonjnagcdnmcpaaGreatDoor
namespace Go.Proofs.YtonjnagcdnmcpaaGreatDoor
open Go.RowKit
theorem esc_kinds {i : Nat} {r : List UInt8} : (∀ j nd,escE i r = .nod j nd → ∃ f,nd = setN f) ∧ (∀ q,escE i r = .bak q → 1 ≤ q ∧ q ≤ 9) ∧ escE i r ≠ .opn:=by
 cases r with
 | nil => exact ⟨fun j nd h => (by cases h),fun q h => (by cases h),fun h => (by cases h)⟩
 | cons c r =>
  simp only [escE]
  refine ⟨fun j nd h => ?_,fun q h => ?_,fun h => ?_⟩
  · repeat' split at h
    all_goals first
     | cases h;done
     | (injection h with h1 h2;exact ⟨_,h2.symm⟩)
  · repeat' split at h
    all_goals first
     | cases h;done
     | (rename_i hc
        injection h with h
        have h1 : (49 : UInt8).toNat ≤ c.toNat:=UInt8.le_iff_toNat_le.1 hc.1
        have h2 : c.toNat ≤ (57 : UInt8).toNat:=UInt8.le_iff_toNat_le.1 hc.2
        have e1 : (49 : UInt8).toNat = 49:=rfl
        have e2 : (57 : UInt8).toNat = 57:=rfl
        omega)
  · repeat' split at h
    all_goals cases h
theorem pie_kinds {t : List UInt8} {i : Nat} : (∀ j nd,pieE t i = .nod j nd → ∃ f,nd = setN f) ∧ (∀ nd,pieE t i = .anc nd → nd = bolN ∨ nd = eolN) ∧ (∀ q,pieE t i = .bak q → 1 ≤ q ∧ q ≤ 9):=by
 unfold pieE
 cases hd : t.drop i with
 | nil => exact ⟨fun j nd h => (by cases h),fun nd h => (by cases h),fun q h => (by cases h)⟩
 | cons c r =>
  simp only [pieR]
  split
  · exact ⟨fun j nd h => (by cases h),fun nd h => (by cases h),fun q h => (by cases h)⟩
  split
  · exact ⟨fun j nd h => (by cases h),fun nd h => (by cases h),fun q h => (by cases h)⟩
  split
  · exact ⟨fun j nd h => (by cases h),fun nd h => (by injection h with h;exact .inl h.symm),fun q h => (by cases h)⟩
  split
  · exact ⟨fun j nd h => (by cases h),fun nd h => (by injection h with h;exact .inr h.symm),fun q h => (by cases h)⟩
  split
  · exact ⟨fun j nd h => (by cases h),fun nd h => (by cases h),fun q h => (by cases h)⟩
  split
  · have hk:=esc_kinds (i:=i) (r:=r)
    cases he : escE i r with
    | bad e => exact ⟨fun j nd h => (by cases h),fun nd h => (by cases h),fun q h => (by cases h)⟩
    | opn => exact absurd he hk.2.2
    | bak q => exact ⟨fun j nd h => (by cases h),fun nd h => (by cases h),fun q' h => (by injection h with h;subst h;exact hk.2.1 q he)⟩
    | nod j n => exact ⟨fun j' nd h => (by injection h with h1 h2;subst h2;exact hk.1 j n he),fun nd h => (by cases h),fun q h => (by cases h)⟩
  split
  · unfold brkA
    cases readB t (i + 1) with
    | error e => exact ⟨fun j nd h => (by cases h),fun nd h => (by cases h),fun q h => (by cases h)⟩
    | ok p => exact ⟨fun j nd h => (by injection h with h1 h2;exact ⟨_,h2.symm⟩),fun nd h => (by cases h),fun q h => (by cases h)⟩
  split
  · exact ⟨fun j nd h => (by injection h with h1 h2;exact ⟨_,h2.symm⟩),fun nd h => (by cases h),fun q h => (by cases h)⟩
  · exact ⟨fun j nd h => (by injection h with h1 h2;exact ⟨_,h2.symm⟩),fun nd h => (by cases h),fun q h => (by cases h)⟩
structure FormE (F : Fms) : Prop where
 op : F.op = [40]
 cs : F.cs = [41]
 head : ∀ f,∃ c r,F.st f = c :: r ∧ ¬ repB c ∧ c ≠ 124 ∧ c ≠ 41
 set : ∀ f,∃ f',alike f' f ∧ pieE (F.st f) 0 = .nod (F.st f).length (setN f')
 rep : ∀ lo hi,timesN lo hi = true → ∀ (p s : List UInt8) (x : Int) (ns : List Nod) (g : Nat) (cl : Nat → Bool) (ps bs : List Int) (lv : List (Nat × List Int × List Int)),
  stepE (p ++ (F.rt lo hi ++ s)) ⟨.P x,p.length,ns,g,cl,ps,bs,lv⟩ = .go ⟨.P (ns.length : Int),p.length + (F.rt lo hi).length,ns ++ [repN x lo hi],g,cl,ps,bs,lv⟩
def canE (F : Fms) (c : Ce) : List UInt8:=lvT F c.ns c.lv ++ bodyT F c.ns c.bs c.ps c.ct
def FolE (c : Ce) (s : List UInt8) : Prop:=c.ct = .L → nx s 0 ≠ 42 ∧ nx s 0 ≠ 43 ∧ nx s 0 ≠ 63 ∧ nx s 0 ≠ 123
def SimE (F : Fms) (c : Ce) : Prop:=∃ ns',Lk c.ns ns' ∧ ∀ s,FolE c s → StepsE (canE F c ++ s) ce0 ⟨c.ct,(canE F c).length,ns',c.g,c.cl,c.ps,c.bs,c.lv⟩
theorem nx_here (p : List UInt8) (k : UInt8) (r : List UInt8) : nx (p ++ k :: r) p.length = (k.toNat : Int):=nx_at (r:=r) (by rw [List.drop_left])
theorem nx_fst (k : UInt8) (r : List UInt8) : nx (k :: r) 0 = (k.toNat : Int):=nx_here [] k r
theorem nx_skip (p s : List UInt8) : nx (p ++ s) p.length = nx s 0:=by
 have:=nx_drop (p ++ s) p.length 0
 rw [Nat.add_zero,List.drop_left] at this
 exact this
theorem fol_of {c : Ce} {k : UInt8} {s : List UInt8} (h : ¬ repB k) : FolE c (k :: s):=fun _ => by
 rw [nx_fst]
 unfold repB at h
 refine ⟨fun e => h (.inl ?_),fun e => h (.inr (.inl ?_)),fun e => h (.inr (.inr (.inl ?_))),fun e => h (.inr (.inr (.inr ?_)))⟩ <;> exact UInt8.toNat_inj.1 (Int.ofNat.inj e)
theorem SimE.adv {F : Fms} {c c1 : Ce} {ns' ns1' : List Nod} {a : List UInt8} (hr : ∀ s,FolE c s → StepsE (canE F c ++ s) ce0 ⟨c.ct,(canE F c).length,ns',c.g,c.cl,c.ps,c.bs,c.lv⟩) (hl : Lk c1.ns ns1') (hcan : canE F c1 = canE F c ++ a) (hfol : ∀ s,FolE c1 s → FolE c (a ++ s))
    (hst : ∀ s,FolE c1 s → stepE (canE F c ++ (a ++ s)) ⟨c.ct,(canE F c).length,ns',c.g,c.cl,c.ps,c.bs,c.lv⟩ = .go ⟨c1.ct,(canE F c).length + a.length,ns1',c1.g,c1.cl,c1.ps,c1.bs,c1.lv⟩) : SimE F c1:=by
 refine ⟨ns1',hl,fun s hs => ?_⟩
 rw [hcan,List.append_assoc,lla]
 exact (hr _ (hfol s hs)).snoc (hst s hs)
theorem step_here {p s : List UInt8} {k : UInt8} {r : List UInt8} (h1 : k ≠ 124) (h2 : k ≠ 41) {ct : Ct} (hct : ct = .B ∨ ct = .L) {ns : List Nod} {g : Nat} {cl : Nat → Bool} {ps bs : List Int} {lv : List (Nat × List Int × List Int)} :
    stepE (p ++ ((k :: r) ++ s)) ⟨ct,p.length,ns,g,cl,ps,bs,lv⟩ = stepPm ⟨ct,p.length,ns,g,cl,ps,bs,lv⟩ (pieE (p ++ ((k :: r) ++ s)) p.length):=by
 have hn : nx (p ++ ((k :: r) ++ s)) p.length = (k.toNat : Int):=nx_here p k (r ++ s)
 have ne : ∀ q : UInt8,k ≠ q → (k.toNat : Int) ≠ (q.toNat : Int):=fun q h e => h (UInt8.toNat_inj.1 (Int.ofNat.inj e))
 exact stepE_pie (inG:=!lv.isEmpty) ⟨by simp,by rw [hn];exact ne 124 h1,fun _ => by rw [hn];exact ne 41 h2⟩ hct (by simp)
theorem nodL_alike {f g : Nat → Bool} (h : alike f g) : nodL (setN f) = nodL (setN g):=by
 unfold nodL setN
 simp only
 rw [h.wd 0 (by decide),h.wd 1 (by decide),h.wd 2 (by decide),h.wd 3 (by decide)]
theorem simE_step {F : Fms} (hF : FormE F) {l : List UInt8} {c c1 : Ce} (hinv : InvE c) (h : SimE F c) (hs : stepE l c = .go c1) : SimE F c1:=by
 obtain ⟨ct,i,ns,g,cl,ps,bs,lv⟩:=c
 obtain ⟨ns',hl,hr⟩:=h
 simp only at hl hr
 have hok:=hinv.tree.ok
 have kps : ∀ p ∈ ps,okP (ns.length : Int) p = true:=fun p hp => hok p (by simp [rootsE,hp])
 have kbs : ∀ p ∈ bs,okP (ns.length : Int) p = true:=fun p hp => hok p (by simp [rootsE,hp])
 have klv : ∀ p ∈ lv.flatMap fun a => a.2.1 ++ a.2.2,okP (ns.length : Int) p = true:=fun p hp => hok p (by simp only [rootsE,List.mem_append];exact .inr (.inr (.inr hp)))
 have khd : ∀ p ∈ headE ct,okP (ns.length : Int) p = true:=fun p hp => hok p (by simp only [rootsE,List.mem_append];exact .inl hp)
 have hlv : ∀ m,lvT F (ns ++ m) lv = lvT F ns lv:=fun m => lv_old F lv klv
 have hpb : ∀ m ct',headE ct' = [] → bodyT F (ns ++ m) bs ps ct' = bodyT F ns bs ps .L:=fun m ct' e => by
  rw [body_old F (by rw [e];simp) kps kbs]
  cases ct' with
  | P x => cases e
  | B => rfl
  | L => rfl
 have hpm : (ct = .B ∨ ct = .L) → stepPm ⟨ct,i,ns,g,cl,ps,bs,lv⟩ (pieE l i) = .go c1 → SimE F c1:=by
  intro hct hs
  have hcan : canE F ⟨ct,i,ns,g,cl,ps,bs,lv⟩ = lvT F ns lv ++ bodyT F ns bs ps .L:=by
   rcases hct with rfl | rfl <;> rfl
  have hP : ∀ (nd : Nod) (a : List UInt8),tx F (ns ++ [nd]) (ns.length : Int) = a → ∀ j g' cl',canE F ⟨.P (ns.length : Int),j,ns ++ [nd],g',cl',ps,bs,lv⟩ = canE F ⟨ct,i,ns,g,cl,ps,bs,lv⟩ ++ a:=fun nd a ea j g' cl' => by
   rw [hcan]
   show lvT F (ns ++ [nd]) lv ++ bodyT F (ns ++ [nd]) bs ps (.P (ns.length : Int)) = _
   have e : bodyT F (ns ++ [nd]) bs ps (.P (ns.length : Int)) = bodyT F (ns ++ [nd]) bs ps .L ++ a:=by unfold bodyT;simp only [ea,List.append_nil,List.append_assoc]
   rw [e,hlv,hpb _ _ rfl,List.append_assoc]
  cases ha : pieE l i with
  | bad e => rw [ha] at hs;cases hs
  | opn =>
   rw [ha] at hs
   simp only [stepPm] at hs
   split at hs
   · rename_i hg
     injection hs with hs
     subst hs
     refine SimE.adv (a:=[40]) hr hl ?_ (fun s _ => fol_of (by decide)) (fun s _ => ?_)
     · rw [hcan]
       show (lvT F ns lv ++ (bodyT F ns bs ps .L ++ F.op)) ++ bodyT F ns [] [] .B = _
       rw [hF.op]
       simp [bodyT]
     · have e:=pie_opn (nx_here (canE F ⟨ct,i,ns,g,cl,ps,bs,lv⟩) 40 s)
       rw [step_here (k:=40) (r:=[]) (by decide) (by decide) hct,show ([40] ++ s : List UInt8) = 40 :: s from rfl,e]
       simp only [stepPm]
       rw [if_pos hg]
       rfl
   · cases hs
  | bak q =>
   have hq9:=pie_kinds.2.2 q ha
   rw [ha] at hs
   simp only [stepPm] at hs
   split at hs
   · rename_i hq
     injection hs with hs
     subst hs
     refine SimE.adv (a:=[92,UInt8.ofNat (48 + q)]) hr (hl.snoc rfl) (hP _ _ (tx_back q) _ _ _) (fun s _ => fol_of (by decide)) (fun s _ => ?_)
     rw [step_here (k:=92) (r:=[UInt8.ofNat (48 + q)]) (by decide) (by decide) hct,pie_esc (r:=UInt8.ofNat (48 + q) :: s) (by rw [List.drop_left];rfl)]
     have e0 : (UInt8.ofNat (48 + q)).toNat = 48 + q:=by simp;omega
     have e1 : UInt8.ofNat (48 + q) ≠ 110:=fun e => by have:=congrArg UInt8.toNat e;rw [e0] at this;have e2 : (110 : UInt8).toNat = 110:=rfl;omega
     have e2 : (49 : UInt8) ≤ UInt8.ofNat (48 + q) ∧ UInt8.ofNat (48 + q) ≤ 57:=by
      have a1 : (49 : UInt8).toNat = 49:=rfl
      have a2 : (57 : UInt8).toNat = 57:=rfl
      exact ⟨UInt8.le_iff_toNat_le.2 (by rw [e0];omega),UInt8.le_iff_toNat_le.2 (by rw [e0];omega)⟩
     simp only [escE]
     rw [if_neg e1,if_pos e2,e0,Nat.add_sub_cancel_left]
     simp only [ofAm,stepPm]
     rw [if_pos hq,hl.len]
     rfl
   · cases hs
  | nod j nd =>
   obtain ⟨f,rfl⟩:=pie_kinds.1 j nd ha
   rw [ha] at hs
   injection hs with hs
   subst hs
   obtain ⟨k,r,hk,k1,k2,k3⟩:=hF.head f
   obtain ⟨f',ef,hp⟩:=hF.set f
   have hin:=fun (p s : List UInt8) => (Alts.in_pie (p:=p) (t:=F.st f) (s:=s) (i:=0) (by rw [hk];simp) hp).1
   refine SimE.adv (a:=F.st f) hr (hl.snoc (nodL_alike ef).symm) (hP _ _ (tx_set f) _ _ _) (fun s _ => by rw [hk];exact fol_of k1) (fun s _ => ?_)
   have hin':=hin (canE F ⟨ct,i,ns,g,cl,ps,bs,lv⟩) s
   rw [Nat.zero_add] at hin'
   rw [hk] at hin' ⊢
   rw [step_here k2 k3 hct,hin']
   simp only [stepPm]
   rw [hl.len,Nat.add_comm]
  | anc nd =>
   have hnd:=pie_kinds.2.1 nd ha
   rw [ha] at hs
   injection hs with hs
   subst hs
   have hA : ∀ (a : List UInt8),tx F (ns ++ [nd]) (ns.length : Int) = a → canE F ⟨.L,i + 1,ns ++ [nd],g,cl,ps ++ [(ns.length : Int)],bs,lv⟩ = canE F ⟨ct,i,ns,g,cl,ps,bs,lv⟩ ++ a:=fun a ea => by
    rw [hcan]
    show lvT F (ns ++ [nd]) lv ++ bodyT F (ns ++ [nd]) bs (ps ++ [(ns.length : Int)]) .L = _
    have e : bodyT F (ns ++ [nd]) bs (ps ++ [(ns.length : Int)]) .L = bodyT F (ns ++ [nd]) bs ps .L ++ a:=by unfold bodyT;simp [ea]
    rw [e,hlv,hpb _ _ rfl,List.append_assoc]
   rcases hnd with rfl | rfl
   · refine SimE.adv (a:=[94]) hr (hl.snoc rfl) (hA _ tx_bol) (fun s _ => fol_of (by decide)) (fun s _ => ?_)
     rw [step_here (k:=94) (r:=[]) (by decide) (by decide) hct,pie_bol (r:=s) (by rw [List.drop_left];rfl)]
     simp only [stepPm]
     rw [hl.len]
     rfl
   · refine SimE.adv (a:=[36]) hr (hl.snoc rfl) (hA _ tx_eol) (fun s _ => fol_of (by decide)) (fun s _ => ?_)
     rw [step_here (k:=36) (r:=[]) (by decide) (by decide) hct,pie_eol (r:=s) (by rw [List.drop_left];rfl)]
     simp only [stepPm]
     rw [hl.len]
     rfl
 cases ct with
 | B =>
  change stepEB l _ = _ at hs
  simp only [stepEB] at hs
  split at hs
  · cases hs
  · exact hpm (.inl rfl) hs
 | P x =>
  have hx:=khd x (by simp [headE])
  have hR : ∀ lo hi j,timesN lo hi = true → SimE F ⟨.P (ns.length : Int),j,ns ++ [repN x lo hi],g,cl,ps,bs,lv⟩:=fun lo hi j ht => by
   refine SimE.adv (a:=F.rt lo hi) hr (hl.snoc rfl) ?_ (fun s _ e => by cases e) (fun s _ => ?_)
   · show lvT F (ns ++ [repN x lo hi]) lv ++ bodyT F (ns ++ [repN x lo hi]) bs ps (.P (ns.length : Int)) = (lvT F ns lv ++ bodyT F ns bs ps (.P x)) ++ F.rt lo hi
     have e : bodyT F (ns ++ [repN x lo hi]) bs ps (.P (ns.length : Int)) = bodyT F (ns ++ [repN x lo hi]) bs ps .L ++ (tx F ns x ++ F.rt lo hi):=by unfold bodyT;simp only [tx_rep,List.append_nil,List.append_assoc]
     have e2 : bodyT F ns bs ps (.P x) = bodyT F ns bs ps .L ++ tx F ns x:=by unfold bodyT;simp only [List.append_nil,List.append_assoc]
     rw [e,hlv,hpb _ _ rfl,e2,List.append_assoc,List.append_assoc]
   · rw [hF.rep lo hi ht,hl.len]
  change stepEP l _ x = _ at hs
  simp only [stepEP] at hs
  split at hs
  · injection hs with hs;subst hs;exact hR 0 (-1) _ (by decide)
  split at hs
  · injection hs with hs;subst hs;exact hR 1 (-1) _ (by decide)
  split at hs
  · injection hs with hs;subst hs;exact hR 0 1 _ (by decide)
  split at hs
  · rename_i hb
    split at hs
    · cases hs
    · rename_i lo hi j hv
      injection hs with hs;subst hs
      refine hR lo hi _ ?_
      unfold ivE at hv
      split at hv
      · rename_i lo' hi' k hk
        split at hv
        · simp only [Option.some.injEq,Prod.mk.injEq] at hv
          obtain ⟨rfl,rfl,-⟩:=hv
          exact riv_times (by have:=nx_lt (l:=l) (i:=i) (by omega);omega) hk
        · cases hv
      · cases hv
  · injection hs with hs
    subst hs
    refine SimE.adv (a:=[]) hr hl ?_ (fun s _ e => by cases e) (fun s hs => ?_)
    · show lvT F ns lv ++ bodyT F ns bs (ps ++ [x]) .L = (lvT F ns lv ++ bodyT F ns bs ps (.P x)) ++ []
      unfold bodyT
      simp
    · obtain ⟨f1,f2,f3,f4⟩:=hs rfl
      have hn:=nx_skip (canE F ⟨.P x,i,ns,g,cl,ps,bs,lv⟩) s
      exact stepE_off (by rw [List.nil_append,hn];exact f1) (by rw [List.nil_append,hn];exact f2) (by rw [List.nil_append,hn];exact f3) (by rw [List.nil_append,hn];exact f4)
 | L =>
  change stepEL l _ = _ at hs
  simp only [stepEL] at hs
  obtain ⟨hne,hlast⟩ : ∃ hne : ps ≠ [],ps.getLast hne = (ns.length : Int) - 1:=hinv.last
  have hcat:=chn_cat_txt F hne kps
  have hctr:=hl.chn 2 ps
  split at hs
  · split at hs <;> cases hs
  · split at hs
    · rename_i hb
      injection hs with hs
      subst hs
      obtain ⟨m,hm⟩:=chn_ext 2 ns ps
      refine SimE.adv (a:=[124]) hr hctr.2 ?_ (fun s _ => fol_of (by decide)) (fun s _ => ?_)
      · show lvT F (chn 2 ns ps).2 lv ++ bodyT F (chn 2 ns ps).2 (bs ++ [(chn 2 ns ps).1]) [] .B = (lvT F ns lv ++ bodyT F ns bs ps .L) ++ [124]
        have e1 : bodyT F (chn 2 ns ps).2 (bs ++ [(chn 2 ns ps).1]) [] .B = bodyT F (chn 2 ns ps).2 bs [] .L ++ (tx F (chn 2 ns ps).2 (chn 2 ns ps).1 ++ [124]):=by unfold bodyT;simp
        have e2 : bodyT F ns bs ps .L = bodyT F ns bs [] .L ++ (ps.map (tx F ns)).flatten:=by unfold bodyT;simp
        rw [e1,hcat,e2,hm,hlv,body_old F (by simp [headE]) (by simp) kbs]
        simp only [List.append_assoc]
      · show stepEL _ _ = _
        simp only [stepEL]
        rw [if_neg (by simp),if_pos (show nx (canE F ⟨.L,i,ns,g,cl,ps,bs,lv⟩ ++ ([124] ++ s)) _ = 124 from nx_here _ 124 s)]
        simp only [branE,hctr.1]
        rfl
    · cases lv with
      | nil => exact hpm (.inr rfl) hs
      | cons a lv =>
       obtain ⟨q,ps',bs'⟩:=a
       simp only at hs
       split at hs
       · injection hs with hs
         subst hs
         obtain ⟨m,hm⟩:=chn_ext 2 ns ps
         obtain ⟨m2,hm2⟩:=chn_ext 3 (chn 2 ns ps).2 (bs ++ [(chn 2 ns ps).1])
         have hlen : ns.length ≤ (chn 2 ns ps).2.length:=by rw [hm];simp
         have hbr : ∀ p ∈ bs ++ [(chn 2 ns ps).1],okP ((chn 2 ns ps).2.length : Int) p = true:=fun p hp => by
          rcases List.mem_append.1 hp with hp | hp
          · exact okP_more (kbs p hp) (by omega)
          · simp only [List.mem_singleton] at hp;subst hp;exact chn_ok 2 hne kps
         have hal:=chn_alt_txt F hbr
         have hatr:=hctr.2.chn 3 (bs ++ [(chn 2 ns ps).1])
         have hbody : tx F (chn 3 (chn 2 ns ps).2 (bs ++ [(chn 2 ns ps).1])).2 (chn 3 (chn 2 ns ps).2 (bs ++ [(chn 2 ns ps).1])).1 = bodyT F ns bs ps .L:=by
          rw [hal,hcat,hm,List.map_congr_left (g:=fun b => tx F ns b ++ [124]) fun b hb => by rw [tx_old (kbs b hb)]]
          unfold bodyT
          simp
         refine SimE.adv (a:=[41]) hr (hatr.2.snoc rfl) ?_ (fun s _ => fol_of (by decide)) (fun s _ => ?_)
         · have key : ∀ (A2 : List Nod) (A1 : Int),(∃ m,A2 = ns ++ m) → tx F A2 A1 = bodyT F ns bs ps .L → lvT F (A2 ++ [groupN (q : Int) A1]) lv ++ bodyT F (A2 ++ [groupN (q : Int) A1]) bs' ps' (.P (A2.length : Int)) = ((lvT F ns lv ++ (bodyT F ns bs' ps' .L ++ F.op)) ++ bodyT F ns bs ps .L) ++ [41]:=by
             rintro _ A1 ⟨m,rfl⟩ hb
             have k2 : ∀ p ∈ ps',okP (ns.length : Int) p = true:=fun p hp => klv p (by simp [hp])
             have k3 : ∀ p ∈ bs',okP (ns.length : Int) p = true:=fun p hp => klv p (by simp [hp])
             have k4 : ∀ p ∈ lv.flatMap fun a => a.2.1 ++ a.2.2,okP (ns.length : Int) p = true:=fun p hp => klv p (by simp only [List.flatMap_cons,List.mem_append];exact .inr hp)
             have e1 : ∀ (N : List Nod) (y : Int),bodyT F N bs' ps' (.P y) = bodyT F N bs' ps' .L ++ tx F N y:=fun N y => by unfold bodyT;simp
             rw [e1,tx_group,hb,hF.cs,List.append_assoc,lv_old F lv k4,body_old F (by simp [headE]) k2 k3]
             simp only [List.append_assoc]
           exact key _ _ ⟨m ++ m2,by rw [← List.append_assoc,← hm,← hm2];rfl⟩ hbody
         · show stepEL _ _ = _
           have hn : nx (canE F ⟨.L,i,ns,g,cl,ps,bs,(q,ps',bs') :: lv⟩ ++ ([41] ++ s)) (canE F ⟨.L,i,ns,g,cl,ps,bs,(q,ps',bs') :: lv⟩).length = 41:=nx_here _ 41 s
           simp only [stepEL]
           rw [if_neg (by simp),if_neg (by rw [hn];decide),if_pos hn]
           simp only [altsE,branE,hctr.1] at hatr ⊢
           rw [hatr.1,hatr.2.len]
           rfl
       · exact hpm (.inr rfl) hs
end Go.Proofs.YtonjnagcdnmcpaaGreatDoor
