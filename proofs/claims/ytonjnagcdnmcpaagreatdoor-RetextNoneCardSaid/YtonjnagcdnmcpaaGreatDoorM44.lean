/- Contracts and plain facts: M44. -/
import Derived.Test.YtonjnagcdnmcpaaGreatDoorM43
set_option linter.unusedVariables false
set_option linter.unusedSimpArgs false
set_option maxRecDepth 100000
set_option maxHeartbeats 32000000
namespace Go.Proofs.YtonjnagcdnmcpaaGreatDoor
open Go.RowKit
section
variable (o c f u x : ByteArray) (w : World)
theorem times_to (lo hi : Int) (h0 : 0 ≤ lo) (h1 : lo ≤ 255) (h2 : 0 ≤ hi) (h3 : hi ≤ 255) (hne : hi ≠ lo) (hf : f.size ≤ 2) (hu : u.size ≤ 2) (hT : Tab w) (hg : 1 < w.heap.size) : Calls Tryz.prog 61 #[.agg #[.string o,.string c,.string f,.string u,.string x],.int .i64 lo,.int .i64 hi] w fun e w' => e = .returned (.string ⟨(f.data.toList ++ (Lib.itoa lo ++ (44 :: (Lib.itoa hi ++ u.data.toList)))).toArray⟩) ∧ Below w.heap.size w w':=by
 have hI:=lhi (StT.new o c f u x hT hg)
 obtain ⟨b,hb⟩ : ∃ b : ByteArray,b = ⟨(Lib.itoa lo ++ 44 :: Lib.itoa hi).toArray⟩:=⟨_,rfl⟩
 have hbl : Hid (b.data.toList = Lib.itoa lo ++ 44 :: Lib.itoa hi):=lhi (by rw [hb])
 have hjo : Lib.join ([lo,hi].map Lib.itoa) (⟨#[44]⟩ : ByteArray).data.toList = Lib.itoa lo ++ 44 :: Lib.itoa hi:=by simp [Lib.join,List.intercalate]
 have hX : Hid (Calls Tryz.prog 86 #[.string ⟨#[44]⟩,.slice (some ⟨w.heap.size + 1,0,none⟩) 2 2] (((w.alloc (.cells #[.string o,.string c,.string f,.string u,.string x] 49)).alloc (.cells #[.int .i64 lo,.int .i64 hi] 3)).drew) fun e w' => e = .returned (.string b) ∧ StT w w' o c f u x):=lhi (by
  have hS:=((StT.new o c f u x hT hg).keep ((Below.refl _ _).alloc (nlr _) (.cells #[.int .i64 lo,.int .i64 hi] 3))).drew
  have hv:=vals_new (w.alloc (.cells #[.string o,.string c,.string f,.string u,.string x] 49)) [.int .i64 lo,.int .i64 hi] 3 (0,0)
  rw [sizeA'] at hv
  have:=djoin_any (some ⟨w.heap.size + 1,0,none⟩) 2 2 [lo,hi] ⟨#[44]⟩ (w.heap.size + 1 + 1) (((w.alloc (.cells #[.string o,.string c,.string f,.string u,.string x] 49)).alloc (.cells #[.int .i64 lo,.int .i64 hi] 3)).drew) rfl hv (by show _ ≤ ((w.alloc (.cells #[.string o,.string c,.string f,.string u,.string x] 49)).alloc (.cells #[.int .i64 lo,.int .i64 hi] 3)).heap.size;simp) (by intro z hz;simp at hz;rcases hz with rfl | rfl <;> omega) (by decide) (by decide) hS.tab hS.lt
  rw [hjo,← hb] at this
  exact this.mono fun e w' h => ⟨h.1,hS.keep h.2⟩)
 have hJ:=lhi (fun w1 => joined3 f b u w1 (by
  have:=itoa_len h0 h1
  have:=itoa_len h2 h3
  have h2 : b.size = (Lib.itoa lo ++ 44 :: Lib.itoa hi).length:=by rw [hb];simp [ByteArray.size]
  rw [lla,List.length_cons] at h2
  omega))
 rw [show f.data.toList ++ (Lib.itoa lo ++ (44 :: (Lib.itoa hi ++ u.data.toList))) = f.data.toList ++ (b.data.toList ++ u.data.toList) by rw [hbl.out];simp]
 have e2 : (hi == -1) = false:=bef.2 (by omega)
 have e3 : (hi == lo) = false:=bef.2 hne
 have z2:=hI.out.sg.at_ (i:=2) rfl
 have z3:=hI.out.sg.at_ (i:=3) rfl
 clear hb hf hu hT hg h0 h1 h2 h3 hne hjo
 cases e1 : (lo == 0) with
 | true =>
  go_enter Tryz.func61,Tryz.ntmps61
  go_wp2
  go_region_with (first
   | (go_at_call 86;refine (hX.out).mono ?_;rintro e w2 ⟨rfl,hb2⟩;have h2:=lhi hb2;have y2:=h2.out.sg.at_ (i:=2) rfl;have y3:=h2.out.sg.at_ (i:=3) rfl;clear hb2)
   | (go_at_call 60;refine (hJ.out _).mono ?_;rintro e w3 ⟨rfl,hb3⟩))
  all_goals
   go_wp2
   go_ret
   exact ⟨rfl,h2.out.be.trans (hb3.mono h2.out.be.size)⟩
 | false =>
  go_enter Tryz.func61,Tryz.ntmps61
  go_wp2
  go_region_with (first
   | (go_at_call 86;refine (hX.out).mono ?_;rintro e w2 ⟨rfl,hb2⟩;have h2:=lhi hb2;have y2:=h2.out.sg.at_ (i:=2) rfl;have y3:=h2.out.sg.at_ (i:=3) rfl;clear hb2)
   | (go_at_call 60;refine (hJ.out _).mono ?_;rintro e w3 ⟨rfl,hb3⟩))
  all_goals
   go_wp2
   go_ret
   exact ⟨rfl,h2.out.be.trans (hb3.mono h2.out.be.size)⟩
end
section
variable (o c f u x : ByteArray) (w : World)
theorem times_any (hf : f.size ≤ 2) (hu : u.size ≤ 2) (lo hi : Int) (ht : timesN lo hi = true) (hT : Tab w) (hg : 1 < w.heap.size) :
    Calls Tryz.prog 61 #[.agg #[.string o,.string c,.string f,.string u,.string x],.int .i64 lo,.int .i64 hi] w fun e w' => e = .returned (.string ⟨(timT f.data.toList u.data.toList lo hi).toArray⟩) ∧ Below w.heap.size w w':=by
 obtain ⟨b1,b2,b3⟩:=times_bd ht
 unfold timT
 by_cases c1 : lo = 0 ∧ hi = -1
 · obtain ⟨rfl,rfl⟩:=c1
   exact times_star o c f u x w
 rw [if_neg c1]
 by_cases c2 : hi = -1
 · subst c2
   rw [if_pos rfl]
   exact times_from o c f u x w lo b1 b2 (bef.2 fun e => c1 ⟨e,rfl⟩) hf hu hT hg
 rw [if_neg c2]
 by_cases c3 : hi = lo
 · subst c3
   rw [if_pos rfl]
   exact times_one o c f u x w hi b1 b2 hf hu hT hg
 · rw [if_neg c3]
   exact times_to o c f u x w lo hi b1 b2 (by omega) (by omega) c3 hf hu hT hg
end
end Go.Proofs.YtonjnagcdnmcpaaGreatDoor
