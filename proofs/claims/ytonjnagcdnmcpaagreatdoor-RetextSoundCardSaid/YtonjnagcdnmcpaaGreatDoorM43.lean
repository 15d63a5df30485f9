/- Contracts and plain facts: M43. -/
import Derived.Test.YtonjnagcdnmcpaaGreatDoorM13
set_option linter.unusedVariables false
set_option linter.unusedSimpArgs false
set_option maxRecDepth 100000
set_option maxHeartbeats 32000000
namespace Go.Proofs.YtonjnagcdnmcpaaGreatDoor
open Go.RowKit
structure StT (W w : World) (o c f u x : ByteArray) : Prop where
 sg : Held w W.heap.size 49 #[.string o,.string c,.string f,.string u,.string x]
 tab : Tab w
 lt : 1 < w.heap.size
 be : Below W.heap.size W w
theorem StT.keep {W w w' : World} {o c f u x : ByteArray} (h : StT W w o c f u x) (hb : Below w.heap.size w w') : StT W w' o c f u x :=
 ⟨h.sg.keep hb,h.tab.below hb h.lt,nll h.lt hb.size,h.be.trans (hb.mono h.be.size)⟩
theorem StT.drew {W w : World} {o c f u x : ByteArray} (h : StT W w o c f u x) : StT W w.drew o c f u x:=⟨h.sg.drew,h.tab,h.lt,h.be.drew⟩
theorem StT.new {w : World} (o c f u x : ByteArray) (hT : Tab w) (hg : 1 < w.heap.size) : StT w (w.alloc (.cells #[.string o,.string c,.string f,.string u,.string x] 49)) o c f u x :=
 have hb:=(Below.refl w.heap.size w).alloc (nlr _) (.cells #[.string o,.string c,.string f,.string u,.string x] 49)
 ⟨held_new _ _ _,hT.below hb hg,nll hg hb.size,hb⟩
section
variable (o c f u x : ByteArray) (w : World)
theorem times_star : Calls Tryz.prog 61 #[.agg #[.string o,.string c,.string f,.string u,.string x],.int .i64 0,.int .i64 (-1)] w fun e w' => e = .returned (.string ⟨#[42]⟩) ∧ Below w.heap.size w w':=by
 have hW:=lhi ((Below.refl w.heap.size w).alloc (nlr _) (.cells #[.string o,.string c,.string f,.string u,.string x] 49))
 go_enter Tryz.func61,Tryz.ntmps61
 go_wp2
 go_ret
 exact ⟨rfl,hW.out⟩
theorem times_from (lo : Int) (h0 : 0 ≤ lo) (h1 : lo ≤ 255) (e1 : (lo == 0) = false) (hf : f.size ≤ 2) (hu : u.size ≤ 2) (hT : Tab w) (hg : 1 < w.heap.size) : Calls Tryz.prog 61 #[.agg #[.string o,.string c,.string f,.string u,.string x],.int .i64 lo,.int .i64 (-1)] w fun e w' => e = .returned (.string ⟨(f.data.toList ++ (Lib.itoa lo ++ (44 :: u.data.toList))).toArray⟩) ∧ Below w.heap.size w w':=by
 have hI:=lhi (StT.new o c f u x hT hg)
 have hX:=lhi (fun w1 (h : StT w w1 o c f u x) => dtext_any lo w1 (by omega) (by omega) h.tab)
 obtain ⟨b,hb⟩ : ∃ b : ByteArray,b = ⟨(Lib.itoa lo).toArray⟩:=⟨_,rfl⟩
 have hbl : Hid (b.data.toList = Lib.itoa lo):=lhi (by rw [hb])
 rw [← hb] at hX
 have hJ:=lhi (fun w1 => joined4 f b ⟨#[44]⟩ u w1 (by
  have:=itoa_len h0 h1
  have h2 : b.size = (Lib.itoa lo).length:=by rw [hb];simp [ByteArray.size]
  show f.size + b.size + 1 + u.size ≤ _
  omega))
 rw [show f.data.toList ++ (Lib.itoa lo ++ (44 :: u.data.toList)) = f.data.toList ++ (b.data.toList ++ ([44] ++ u.data.toList)) by rw [hbl.out];rfl]
 clear hb hf hu hT hg h0 h1
 have z2:=hI.out.sg.at_ (i:=2) rfl
 have z3:=hI.out.sg.at_ (i:=3) rfl
 go_enter Tryz.func61,Tryz.ntmps61
 go_wp2
 go_region_with (first
  | (go_at_call 62;refine (hX.out _ hI.out.drew).mono ?_;rintro e w2 ⟨rfl,hb2⟩;have h2:=lhi (hI.out.drew.keep hb2);have y2:=h2.out.sg.at_ (i:=2) rfl;have y3:=h2.out.sg.at_ (i:=3) rfl;clear hb2)
  | (go_at_call 60;refine (hJ.out _).mono ?_;rintro e w3 ⟨rfl,hb3⟩))
 all_goals
  go_wp2
  go_ret
  exact ⟨rfl,h2.out.be.trans (hb3.mono h2.out.be.size)⟩
end
section
variable (o c f u x : ByteArray) (w : World)
theorem times_one (lo : Int) (h0 : 0 ≤ lo) (h1 : lo ≤ 255) (hf : f.size ≤ 2) (hu : u.size ≤ 2) (hT : Tab w) (hg : 1 < w.heap.size) : Calls Tryz.prog 61 #[.agg #[.string o,.string c,.string f,.string u,.string x],.int .i64 lo,.int .i64 lo] w fun e w' => e = .returned (.string ⟨(f.data.toList ++ (Lib.itoa lo ++ u.data.toList)).toArray⟩) ∧ Below w.heap.size w w':=by
 have hI:=lhi (StT.new o c f u x hT hg)
 have hX:=lhi (fun w1 (h : StT w w1 o c f u x) => dtext_any lo w1 (by omega) (by omega) h.tab)
 obtain ⟨b,hb⟩ : ∃ b : ByteArray,b = ⟨(Lib.itoa lo).toArray⟩:=⟨_,rfl⟩
 have hbl : Hid (b.data.toList = Lib.itoa lo):=lhi (by rw [hb])
 rw [← hb] at hX
 have hJ:=lhi (fun w1 => joined3 f b u w1 (by
  have:=itoa_len h0 h1
  have h2 : b.size = (Lib.itoa lo).length:=by rw [hb];simp [ByteArray.size]
  omega))
 rw [show f.data.toList ++ (Lib.itoa lo ++ u.data.toList) = f.data.toList ++ (b.data.toList ++ u.data.toList) by rw [hbl.out]]
 have e2 : (lo == -1) = false:=bef.2 (by omega)
 have z2:=hI.out.sg.at_ (i:=2) rfl
 have z3:=hI.out.sg.at_ (i:=3) rfl
 clear hb hf hu hT hg h0 h1
 cases e1 : (lo == 0) with
 | true =>
  go_enter Tryz.func61,Tryz.ntmps61
  go_wp2
  go_region_with (first
   | (go_at_call 62;refine (hX.out _ hI.out.drew).mono ?_;rintro e w2 ⟨rfl,hb2⟩;have h2:=lhi (hI.out.drew.keep hb2);have y2:=h2.out.sg.at_ (i:=2) rfl;have y3:=h2.out.sg.at_ (i:=3) rfl;clear hb2)
   | (go_at_call 60;refine (hJ.out _).mono ?_;rintro e w3 ⟨rfl,hb3⟩))
  all_goals
   go_wp2
   go_ret
   exact ⟨rfl,h2.out.be.trans (hb3.mono h2.out.be.size)⟩
 | false =>
  go_enter Tryz.func61,Tryz.ntmps61
  go_wp2
  go_region_with (first
   | (go_at_call 62;refine (hX.out _ hI.out.drew).mono ?_;rintro e w2 ⟨rfl,hb2⟩;have h2:=lhi (hI.out.drew.keep hb2);have y2:=h2.out.sg.at_ (i:=2) rfl;have y3:=h2.out.sg.at_ (i:=3) rfl;clear hb2)
   | (go_at_call 60;refine (hJ.out _).mono ?_;rintro e w3 ⟨rfl,hb3⟩))
  all_goals
   go_wp2
   go_ret
   exact ⟨rfl,h2.out.be.trans (hb3.mono h2.out.be.size)⟩
end
end Go.Proofs.YtonjnagcdnmcpaaGreatDoor
