/- Contracts and plain facts: M42. -/
import Derived.Test.YtonjnagcdnmcpaaGreatDoorM13
import Derived.Test.YtonjnagcdnmcpaaGreatDoorM14
set_option linter.unusedVariables false
set_option linter.unusedSimpArgs false
set_option maxRecDepth 100000
set_option maxHeartbeats 32000000
namespace Go.Proofs.YtonjnagcdnmcpaaGreatDoor
open Go.RowKit
theorem esc_at (e : Bool) (c : UInt8) : decide (0 ≤ Lib.indexByte (escS e) c) = decide (c ∈ escS e):=by
 have:=every_u8 (fun c => decide (0 ≤ Lib.indexByte (escS e) c) == decide (c ∈ escS e)) (by cases e <;> decide +kernel) c
 simpa using this
theorem contains_esc (e : Bool) (x : ByteArray) (hx : x.data.toList = escS e) (c : UInt8) (b : Bool) (hb : decide (c ∈ escS e) = b) (w : World) :
    Calls Tryz.prog 84 #[.string x,.string ⟨#[c]⟩] w fun e w' => e = .returned (.bool b) ∧ w = w':=by
 refine (Tryz.strings_Contains_one x c w).mono fun en w' ⟨he,hw⟩ => ⟨?_,hw.symm⟩
 rw [he,← hb,← esc_at,hx]
attribute [local go_sem] setV setC guard_set run_equalIn_lit
structure St0 (W w : World) (o c f u x : ByteArray) (s : Nat → Bool) : Prop where
 sg : Held w W.heap.size 49 #[.string o,.string c,.string f,.string u,.string x]
 st : SetAt w (W.heap.size + 1) s
 be : Below W.heap.size W w
theorem St0.keep {W w w' : World} {o c f u x : ByteArray} {s : Nat → Bool} (h : St0 W w o c f u x s) (hb : Below w.heap.size w w') : St0 W w' o c f u x s :=
 ⟨h.sg.keep hb,h.st.below hb h.st.lt,h.be.trans (hb.mono h.be.size)⟩
theorem St0.drew {W w : World} {o c f u x : ByteArray} {s : Nat → Bool} (h : St0 W w o c f u x s) : St0 W w.drew o c f u x s:=⟨h.sg.drew,h.st,h.be.drew⟩
theorem St0.new (w : World) (o c f u x : ByteArray) (s : Nat → Bool) : St0 w ((w.alloc (.cells #[.string o,.string c,.string f,.string u,.string x] 49)).alloc (.cells (setC s) 41)) o c f u x s:=by
 refine ⟨(held_new w _ _).alloc _,?_,((Below.refl _ _).alloc (nlr _) _).alloc (by simp) _⟩
 have:=set_new (w.alloc (.cells #[.string o,.string c,.string f,.string u,.string x] 49)) s
 rw [sizeA'] at this
 exact this
theorem St0.cells {W w : World} {o c f u x : ByteArray} {s : Nat → Bool} (h : St0 W w o c f u x s) :
    w.cell? ⟨W.heap.size + 1,0,none⟩ = some (.int .u64 ((wd s 0 : Nat) : Int)) ∧ w.cell? ⟨W.heap.size + 1,1,none⟩ = some (.int .u64 ((wd s 1 : Nat) : Int)) ∧ w.cell? ⟨W.heap.size + 1,2,none⟩ = some (.int .u64 ((wd s 2 : Nat) : Int)) ∧ w.cell? ⟨W.heap.size + 1,3,none⟩ = some (.int .u64 ((wd s 3 : Nat) : Int)) :=
 ⟨h.st.cell 0 (by decide),h.st.cell 1 (by decide),h.st.cell 2 (by decide),h.st.cell 3 (by decide)⟩
theorem set_any_all (o c f u x : ByteArray) (s : Nat → Bool) (w : World) (hs : sameS s (negF (ofL [])) = true) :
    Calls Tryz.prog 59 #[.agg #[.string o,.string c,.string f,.string u,.string x],setV s] w fun en w' => en = .returned (.string ⟨#[46]⟩) ∧ Below w.heap.size w w':=by
 have hI:=lhi (St0.new w o c f u x s)
 obtain ⟨i0,i1,i2,i3⟩:=hI.out.cells
 go_enter Tryz.func59,Tryz.ntmps59
 go_wp2_with (first
  | (refine wpList_load_row rfl 41 (.tmp 3) rfl (w.heap.size + 1) rfl 41 _ (0,0) _ hI.out.st Tryz.underlying41 rfl (set_size _) ?_)
  | (go_at_call 80;refine (bytes_any s _).mono ?_;rintro en w1 ⟨v,rfl,hown,hb1⟩;have h1:=lhi (hI.out.keep hb1);obtain ⟨c0,c1,c2,c3⟩:=h1.out.cells;clear hown hb1))
 go_region_with (first
  | (go_at_call 82;refine (of_any none 0 0 [] 0 _ rfl (nlr _) (by decide) (Nat.zero_le _) (Byt.none_ _ _ _)).mono ?_;rintro en w2 ⟨rfl,hb2⟩;have h2:=lhi (St0.keep (w:=_) (h1.out.drew) hb2);obtain ⟨d0,d1,d2,d3⟩:=h2.out.cells;clear hb2)
  | (go_at_call 81;refine (not_set (ofL []) _).mono ?_;rintro en w3 ⟨rfl,hb3⟩;have h3:=lhi (h2.out.keep hb3);obtain ⟨e0,e1,e2,e3⟩:=h3.out.cells;clear hb3))
 all_goals
  go_wp2
  go_ret
  exact ⟨rfl,h3.out.be⟩
theorem set_any_text (o c f u x : ByteArray) (s : Nat → Bool) (w : World) (hs : sameS s (negF (ofL [])) = false) (hl : (elems s 256).length ≠ 1) :
    Calls Tryz.prog 59 #[.agg #[.string o,.string c,.string f,.string u,.string x],setV s] w fun en w' => en = .returned (.string ⟨(textR (voidS s) s).toArray⟩) ∧ Below w.heap.size w w':=by
 have hI:=lhi (St0.new w o c f u x s)
 obtain ⟨i0,i1,i2,i3⟩:=hI.out.cells
 have hn : (((elems s 256).length : Int) != 1) = true:=by rw [bne_iff_ne];omega
 have hB:=lhi (fun w1 => bytes_any s w1)
 generalize elems s 256 = l at *
 clear hl
 go_enter Tryz.func59,Tryz.ntmps59
 go_wp2_with (first
  | (refine wpList_load_row rfl 41 (.tmp 3) rfl (w.heap.size + 1) rfl 41 _ (0,0) _ hI.out.st Tryz.underlying41 rfl (set_size _) ?_)
  | (go_at_call 80;refine (hB.out _).mono ?_;rintro en w1 ⟨v,rfl,hown,hb1⟩;have h1:=lhi (hI.out.keep hb1);obtain ⟨c0,c1,c2,c3⟩:=h1.out.cells;obtain ⟨A,cp,rfl,-,-,-,-⟩:=own_byt hown;clear hown hb1))
 go_region_with (first
  | (go_at_call 82;refine (of_any none 0 0 [] 0 _ rfl (nlr _) (by decide) (Nat.zero_le _) (Byt.none_ _ _ _)).mono ?_;rintro en w2 ⟨rfl,hb2⟩;have h2:=lhi (St0.keep (w:=_) (h1.out.drew) hb2);obtain ⟨d0,d1,d2,d3⟩:=h2.out.cells;clear hb2)
  | (go_at_call 81;refine (not_set (ofL []) _).mono ?_;rintro en w3 ⟨rfl,hb3⟩;have h3:=lhi (h2.out.keep hb3);obtain ⟨e0,e1,e2,e3⟩:=h3.out.cells;clear hb3))
 all_goals
  go_wp2_with (first
   | (refine wpList_load_row rfl 41 (.tmp 3) rfl (w.heap.size + 1) rfl 41 _ (0,0) _ h3.out.st Tryz.underlying41 rfl (set_size _) ?_)
   | (go_at_call 83;refine (text_any s _).mono ?_;rintro en w4 ⟨v,rfl,htx,hb4⟩;obtain ⟨A4,c4,rfl,-,-,hby⟩:=htx;have hcv:=convB hby rfl (c:=c4);have h4:=lhi (h3.out.be.trans (hb4.mono h3.out.be.size));clear hby hb4))
  go_ret
  exact ⟨rfl,h4.out⟩
structure St2b (W w : World) (o c f u x : ByteArray) (s : Nat → Bool) (ad : Addr) (b : UInt8) : Prop where
 st : St0 W w o c f u x s
 by1 : Byt w w.heap.size (some ad) [b]
theorem St2b.keep {W w w' : World} {o c f u x : ByteArray} {s : Nat → Bool} {ad : Addr} {b : UInt8} (h : St2b W w o c f u x s ad b) (hb : Below w.heap.size w w') : St2b W w' o c f u x s ad b :=
 ⟨h.st.keep hb,(h.by1.below hb).more hb.size⟩
theorem St2b.drew {W w : World} {o c f u x : ByteArray} {s : Nat → Bool} {ad : Addr} {b : UInt8} (h : St2b W w o c f u x s ad b) : St2b W w.drew o c f u x s ad b:=⟨h.st.drew,h.by1⟩
theorem St2b.cell {W w : World} {o c f u x : ByteArray} {s : Nat → Bool} {ad : Addr} {b : UInt8} (h : St2b W w o c f u x s ad b) : w.cell? ad = some (.int .u8 (b.toNat : Int)):=by
 obtain ⟨ad2,h1,-,h2⟩:=h.by1.at_ (k:=0) (by simp)
 obtain rfl:=Option.some.inj h1
 exact h2
theorem set_any_one (e : Bool) (o c f u x : ByteArray) (hx : x.data.toList = escS e) (s : Nat → Bool) (w : World) (hs : sameS s (negF (ofL [])) = false) (b : UInt8) (hl : elems s 256 = [b]) :
    Calls Tryz.prog 59 #[.agg #[.string o,.string c,.string f,.string u,.string x],setV s] w fun en w' => en = .returned (.string ⟨(oneT e b).toArray⟩) ∧ Below w.heap.size w w':=by
 have hI:=lhi (St0.new w o c f u x s)
 obtain ⟨i0,i1,i2,i3⟩:=hI.out.cells
 have hB:=fun w1 => bytes_any s w1
 rw [hl] at hB
 replace hB:=lhi hB
 have hC:=lhi (fun q hq w => contains_esc e x hx b q hq w)
 have hJ:=lhi (fun w => joined2 ⟨#[92]⟩ ⟨#[b]⟩ w (by show 1 + 1 ≤ _;omega))
 clear hx hl
 unfold oneT
 by_cases h10 : b = 10
 · have g : (((b.toNat : Nat) : Int) == 10) = true:=by rw [h10];rfl
   rw [if_pos h10]
   clear h10 hC hJ
   go_enter Tryz.func59,Tryz.ntmps59
   go_wp2_with (first
    | (refine wpList_load_row rfl 41 (.tmp 3) rfl (w.heap.size + 1) rfl 41 _ (0,0) _ hI.out.st Tryz.underlying41 rfl (set_size _) ?_)
    | (go_at_call 80;refine (hB.out _).mono ?_;rintro en w1 ⟨v,rfl,hown,hb1⟩;have h1a:=lhi (hI.out.keep hb1);obtain ⟨A,cp,rfl,-,hcp,-,hby⟩:=own_byt hown;obtain ⟨ad,rfl,-,-⟩:=hby.at_ (k:=0) (by simp);have h1 : Hid (St2b w w1 o c f u x s ad b):=lhi ⟨h1a.out,hby⟩;obtain ⟨c0,c1,c2,c3⟩:=h1a.out.cells;clear hown hb1 hby h1a))
   go_region_with (first
    | (go_at_call 82;refine (of_any none 0 0 [] 0 _ rfl (nlr _) (by decide) (Nat.zero_le _) (Byt.none_ _ _ _)).mono ?_;rintro en w2 ⟨rfl,hb2⟩;have h2:=lhi (St2b.keep (w:=_) (h1.out.drew) hb2);obtain ⟨d0,d1,d2,d3⟩:=h2.out.st.cells;clear hb2)
    | (go_at_call 81;refine (not_set (ofL []) _).mono ?_;rintro en w3 ⟨rfl,hb3⟩;have h3:=lhi (h2.out.keep hb3);obtain ⟨e0,e1,e2,e3⟩:=h3.out.st.cells;have k0:=h3.out.cell;clear hb3))
   all_goals
    go_wp2
    go_ret
    exact ⟨rfl,h3.out.st.be⟩
 have g : (((b.toNat : Nat) : Int) == 10) = false:=u8_ne (k:=10) h10
 rw [if_neg h10]
 clear h10
 by_cases hm : b ∈ escS e
 · rw [if_pos hm]
   have hC1:=lhi (hC.out true (decide_eq_true hm))
   clear hC hm
   go_enter Tryz.func59,Tryz.ntmps59
   go_wp2_with (first
    | (refine wpList_load_row rfl 41 (.tmp 3) rfl (w.heap.size + 1) rfl 41 _ (0,0) _ hI.out.st Tryz.underlying41 rfl (set_size _) ?_)
    | (go_at_call 80;refine (hB.out _).mono ?_;rintro en w1 ⟨v,rfl,hown,hb1⟩;have h1a:=lhi (hI.out.keep hb1);obtain ⟨A,cp,rfl,-,hcp,-,hby⟩:=own_byt hown;obtain ⟨ad,rfl,-,-⟩:=hby.at_ (k:=0) (by simp);have h1 : Hid (St2b w w1 o c f u x s ad b):=lhi ⟨h1a.out,hby⟩;obtain ⟨c0,c1,c2,c3⟩:=h1a.out.cells;clear hown hb1 hby h1a))
   go_region_with (first
    | (go_at_call 82;refine (of_any none 0 0 [] 0 _ rfl (nlr _) (by decide) (Nat.zero_le _) (Byt.none_ _ _ _)).mono ?_;rintro en w2 ⟨rfl,hb2⟩;have h2:=lhi (St2b.keep (w:=_) (h1.out.drew) hb2);obtain ⟨d0,d1,d2,d3⟩:=h2.out.st.cells;clear hb2)
    | (go_at_call 81;refine (not_set (ofL []) _).mono ?_;rintro en w3 ⟨rfl,hb3⟩;have h3:=lhi (h2.out.keep hb3);obtain ⟨e0,e1,e2,e3⟩:=h3.out.st.cells;have k0:=h3.out.cell;have k4:=h3.out.st.sg.at_ (i:=4) rfl;have hcv:=convB h3.out.by1 rfl (n:=1) (c:=cp);clear hb3))
   all_goals
    go_wp2_with (first
     | (go_at_call 84;refine (hC1.out _).mono ?_;rintro en w5 ⟨rfl,rfl⟩)
     | (go_at_call 60;refine (hJ.out _).mono ?_;rintro en w6 ⟨rfl,hb6⟩))
    go_ret
    exact ⟨rfl,h3.out.st.be.trans (hb6.mono h3.out.st.be.size)⟩
 · rw [if_neg hm]
   have hC1:=lhi (hC.out false (decide_eq_false hm))
   clear hC hm hJ
   go_enter Tryz.func59,Tryz.ntmps59
   go_wp2_with (first
    | (refine wpList_load_row rfl 41 (.tmp 3) rfl (w.heap.size + 1) rfl 41 _ (0,0) _ hI.out.st Tryz.underlying41 rfl (set_size _) ?_)
    | (go_at_call 80;refine (hB.out _).mono ?_;rintro en w1 ⟨v,rfl,hown,hb1⟩;have h1a:=lhi (hI.out.keep hb1);obtain ⟨A,cp,rfl,-,hcp,-,hby⟩:=own_byt hown;obtain ⟨ad,rfl,-,-⟩:=hby.at_ (k:=0) (by simp);have h1 : Hid (St2b w w1 o c f u x s ad b):=lhi ⟨h1a.out,hby⟩;obtain ⟨c0,c1,c2,c3⟩:=h1a.out.cells;clear hown hb1 hby h1a))
   go_region_with (first
    | (go_at_call 82;refine (of_any none 0 0 [] 0 _ rfl (nlr _) (by decide) (Nat.zero_le _) (Byt.none_ _ _ _)).mono ?_;rintro en w2 ⟨rfl,hb2⟩;have h2:=lhi (St2b.keep (w:=_) (h1.out.drew) hb2);obtain ⟨d0,d1,d2,d3⟩:=h2.out.st.cells;clear hb2)
    | (go_at_call 81;refine (not_set (ofL []) _).mono ?_;rintro en w3 ⟨rfl,hb3⟩;have h3:=lhi (h2.out.keep hb3);obtain ⟨e0,e1,e2,e3⟩:=h3.out.st.cells;have k0:=h3.out.cell;have k4:=h3.out.st.sg.at_ (i:=4) rfl;have hcv:=convB h3.out.by1 rfl (n:=1) (c:=cp);clear hb3))
   all_goals
    go_wp2_with (go_at_call 84;refine (hC1.out _).mono ?_;rintro en w5 ⟨rfl,rfl⟩)
    go_ret
    exact ⟨rfl,h3.out.st.be⟩
theorem rset_any (e : Bool) (o c f u x : ByteArray) (hx : x.data.toList = escS e) (s : Nat → Bool) (w : World) :
    Calls Tryz.prog 59 #[.agg #[.string o,.string c,.string f,.string u,.string x],setV s] w fun en w' => en = .returned (.string ⟨(setT e s).toArray⟩) ∧ Below w.heap.size w w':=by
 unfold setT
 cases hs : sameS s allS with
 | true => exact set_any_all o c f u x s w hs
 | false =>
  simp only [Bool.false_eq_true,if_false]
  split
  · rename_i b hb
    exact set_any_one e o c f u x hx s w hs b hb
  · rename_i hne
    refine set_any_text o c f u x s w hs fun h1 => ?_
    match hk : elems s 256,h1 with
    | [b],_ => exact hne b hk
end Go.Proofs.YtonjnagcdnmcpaaGreatDoor
