/- FilesNames. -/
import Derived.Test.YtkdhfjnfdcopdaaFrame
import Derived.Test.YtkdhfjnfdcopdaaFilX
set_option linter.unusedVariables false
namespace Go.Proofs.Ytkdhfjnfdcopdaa.Names
open Go.ChangeShapes Go.WideShapes Go.ChangeAt Go.RowKit
open Go.ChangeMaps (open_string shut_string)

theorem file_one (W w : World) (nm : ByteArray) (A : Option Addr) (n c : Nat) (l : List UInt8) (h1 : n = l.length) (h2 : n ≤ c) (h3 : c ≤ maxLen) (hb : Below W.heap.size W w) (h : Byt W W.heap.size A l) :
    Fils (w.alloc (.cells #[.string nm, .slice A n c] 52)) (fun k => k < (w.alloc (.cells #[.string nm, .slice A n c] 52)).heap.size) (some ⟨w.heap.size, 0, none⟩) [(nm, l)] := by
  intro k hk
  obtain rfl : k = 0 := by simpa using hk
  have hn := new_cells w [.string nm, .slice A n c] 52
  have hb1 : Below W.heap.size W (w.alloc (.cells #[.string nm, .slice A n c] 52)) := hb.alloc hb.size _
  have hs := hb.size
  refine ⟨_, _, rfl, by rw [sizeA]; show w.heap.size < _; omega, hn 0 _ rfl, hn 1 _ rfl, A, n, c, rfl, h1, h2, h3, ?_⟩
  exact Byt.q (h.below hb1) fun k hk => by rw [sizeA]; omega
/-- All blocks from B on but b. -/
def But (B b : Nat) (k : Nat) : Prop := B ≤ k ∧ k ≠ b
theorem bss_oneQ (w : World) (A : Option Addr) (n c : Nat) (l : List UInt8) (t : TypeId) (h1 : n = l.length) (h2 : n ≤ c) (h3 : c ≤ maxLen) (B : Nat) (h : BytQ w (fun k => ¬ B ≤ k) A l) :
    Bss (w.alloc (.cells #[.slice A n c] t)) (fun k => ¬ But B w.heap.size k) (some ⟨w.heap.size, 0, none⟩) [l] := by
  intro k hk
  obtain rfl : k = 0 := by simpa using hk
  refine ⟨_, _, rfl, fun h => h.2 rfl, new_one w (.slice A n c) t 0 _ rfl, A, n, c, rfl, h1, h2, h3, ?_⟩
  refine BytQ.keep h (fun p _ hp => ?_) (fun k hk _ hb => hk hb.1)
  exact ((Below.refl w.heap.size w).alloc (Nat.le_refl _) _).cell hp
theorem facts_yes {nm : ByteArray} {b : List UInt8} (h : isNm nm = true) (hb : b.length ≤ 100) : (newF [(nm, b)]).2 = 0 ∧ addF [] nm b = ([(nm, b)], 0) ∧ putF [(nm, b)] nm b = ([(nm, b)], 0) ∧ OkF [(nm, b)] := by
  have r0 : refuse [] nm (decide (b.length ≤ 65536)) = 0 := refuse_of h (by simp; omega) (fun _ => by simp)
  have r1 : refuse [(nm, b)] nm (decide (b.length ≤ 65536)) = 0 := refuse_of h (by simp; omega) (fun _ => by simp)
  have p0 : putF [] nm b = ([(nm, b)], 0) := by simp [putF, r0, setF, posN]
  refine ⟨?_, by simp [addF, getF, posN, p0], by simp [putF, r1, setF, posN], by simp, fun f hf => ?_⟩
  · simp [newF, newGo, posN, p0]
  · obtain rfl : f = (nm, b) := by simpa using hf
    exact ⟨h, by show b.length ≤ 65536; omega⟩
theorem facts_no {nm : ByteArray} {b : List UInt8} (h : isNm nm = false) : (newF [(nm, b)]).2 = 4 ∧ addF [] nm b = ([], 4) ∧ putF [] nm b = ([], 4) := by
  have r0 : ∀ f, refuse [] nm f = 4 := fun f => by unfold refuse; rw [if_pos h]
  have p0 : putF [] nm b = ([], 4) := by simp [putF, r0]
  refine ⟨?_, by simp [addF, getF, posN, p0], p0⟩
  simp [newF, newGo, posN, p0]

set_option maxHeartbeats 4000000 in
set_option maxRecDepth 100000 in
theorem core (W : World) (nm : ByteArray) (hs : nm.size ≤ maxLen) (A : Option Addr) (n c : Nat) (l : List UInt8) (hn : n = l.length) (hnc : n ≤ c) (hm : c ≤ maxLen) (h : Byt W W.heap.size A l) :
    Calls Try.prog 5 #[.string nm, .slice A n c] W fun e W' => e = .returned (.bool true) ∧ Below W.heap.size W W' := by
  have hW := Lib.hid awake_any
  have hs' := Lib.hid hs
  have hm' := Lib.hid hm
  unfold maxLen at hs hm
  by_cases hbig : 70 < (nm.size : Int) ∨ 100 < (n : Int)
  · clear hn h
    rcases hbig with hb | hb
    · go_enter Try.func5, Try.ntmps5
      go_wp2_with (go_at_call 8; refine (hW.out _).mono ?_; rintro e w5 ⟨rfl, hb5⟩)
      go_ret
      exact ⟨rfl, hb5⟩
    · go_enter Try.func5, Try.ntmps5
      go_wp2_with (go_at_call 8; refine (hW.out _).mono ?_; rintro e w5 ⟨rfl, hb5⟩)
      all_goals go_ret
      all_goals exact ⟨rfl, hb5⟩
  · have hl1 : ¬ 70 < (nm.size : Int) := by omega
    have hl2 : ¬ 100 < (n : Int) := by omega
    have hl3 : l.length ≤ 100 := by omega
    have hN0 := Lib.hid (new_yes none 0 0 [] W rfl (Nat.le_refl _) (fun f hf => by cases hf) (Fils.none_ _ _ _) rfl)
    have hFile := Lib.hid (fun (w : World) (hb : Below W.heap.size W w) => file_one W w nm A n c l hn hnc hm'.out hb h)
    have hsz1 : ∀ f ∈ ([(nm, l)] : List Fil), f.1.size ≤ maxLen := fun f hf => by obtain rfl : f = (nm, l) := by simpa using hf
                                                                                  exact hs'.out
    replace hsz1 := Lib.hid hsz1
    have hB := Lib.hid (fun (w : World) (hb : Below W.heap.size W w) => (Byt.q (h.below hb) (fun k hk => by omega) : BytQ w (fun k => ¬ W.heap.size ≤ k) A l))
    have hn' := Lib.hid hn
    have hI := Lib.hid (fun (w : World) => isName_any nm w hs'.out)
    have hJ := Lib.hid (fun (w : World) => refIsName_any nm w hs'.out)
    cases his : isNm nm with
    | true =>
      obtain ⟨q1, q2, q3, q4⟩ := facts_yes his hl3
      rw [his] at hI hJ
      have q1 := Lib.hid q1
      replace q2 := Lib.hid q2
      replace q3 := Lib.hid q3
      replace q4 := Lib.hid q4
      clear hn h his hbig hl3
      go_enter Try.func5, Try.ntmps5
      go_wp2_with (first
        | (go_at_call 9; with_reducible show Calls _ _ #[.slice none 0 0] _ _
           refine (hN0.out).mono ?_; rintro e w1 ⟨T, rfl, hT1, hb1⟩
           replace hT1 := Lib.hid hT1)
        | (go_at_call 27; refine (hJ.out _).mono ?_; rintro e w' ⟨rfl, rfl⟩)
        | (go_at_call 9; refine (new_yes _ 1 1 [(nm, l)] _ rfl (Nat.le_refl _) hsz1.out (hFile.out w1 hb1) q1.out).mono ?_; rintro e w2 ⟨T2, rfl, -, hb2⟩
           have hb12 : Below w1.heap.size w1 w2 := ((Below.refl _ w1).alloc (Nat.le_refl _) _).trans (hb2.mono (by rw [sizeA]; omega))
           have hbw2 := hb1.trans (hb12.mono hb1.size)
           have hT2 := Lib.hid (hT1.out.below hb12))
        | (go_at_call 28; refine (hI.out _).mono ?_; rintro e w3 ⟨rfl, hb3⟩
           have hbw3 := hbw2.trans (hb3.mono hbw2.size)
           have hT3 := Lib.hid (hT2.out.below hb3))
        | (go_at_call 15
           have hba : ∀ o, Below w3.heap.size w3 (w3.alloc o) := fun o => (Below.refl _ w3).alloc (Nat.le_refl _) o
           have hq := add_any (But W.heap.size w3.heap.size) T [] nm (some ⟨w3.heap.size, 0, none⟩) 1 1 [l] (w3.alloc (.cells #[.slice A n c] 35)) (hT3.out.kept (fun k hk _ => (hba _).block k hk) (fun k hk hF => ⟨hF, by omega⟩)) ok_nil (fun k hk => by rw [sizeA] at hk; exact ⟨by have := hbw3.size; omega, by omega⟩) hs'.out rfl (Nat.le_refl _) (by simp [maxLen]) (bss_oneQ w3 A n c l _ hn'.out hnc hm'.out _ (hB.out w3 hbw3))
           rw [show ([l] : List (List UInt8)).flatten = l by simp, q2.out] at hq
           refine hq.mono ?_; clear hq; rintro e w4 ⟨rfl, hT4, hF4⟩
           have hbw4 := (hbw3.trans ((hba _).mono hbw3.size)).trans (hF4.below (fun k _ h => h.1) (hbw3.trans ((hba (.cells #[.slice A n c] 35)).mono hbw3.size)).size)
           replace hT4 := Lib.hid (hT4.kept (F' := fun k => W.heap.size ≤ k) (fun _ _ _ => rfl) (fun k _ h => h.1)))
        | (go_at_call 13
           have hq := put_any _ T [(nm, l)] nm A n c l w4 hT4.out q4.out (fun k hk => Nat.le_trans hbw4.size hk) hs'.out hn'.out hnc hm'.out (hB.out w4 hbw4)
           rw [q3.out] at hq
           refine hq.mono ?_; clear hq; rintro e w5 ⟨rfl, hT5, hF5⟩
           have hbw5 := hbw4.trans (hF5.below (fun k _ h => h) hbw4.size)
           replace hT5 := Lib.hid hT5)
        | (go_at_call 25
           refine (all_any _ T _ w5 hT5.out q4.out).mono ?_; rintro e w6 ⟨v6, vs6, rfl, hR6, hb6⟩
           obtain ⟨A6, c6, rfl, -, -, -⟩ := hR6.fils
           have hbw6 := hbw5.trans (hb6.mono hbw5.size))
        | (go_at_call 8; refine (hW.out _).mono ?_; rintro e w13 ⟨rfl, hb13⟩))
      all_goals go_ret
      all_goals exact ⟨rfl, hbw6.trans (hb13.mono hbw6.size)⟩
    | false =>
      obtain ⟨q1, q2, q3⟩ := facts_no (b := l) his
      rw [his] at hI hJ
      have q0 : (newF [(nm, l)]).2 ≠ 0 := by rw [q1]; decide
      replace q0 := Lib.hid q0
      replace q1 := Lib.hid q1
      replace q2 := Lib.hid q2
      replace q3 := Lib.hid q3
      clear hn h his hbig hl3
      go_enter Try.func5, Try.ntmps5
      go_wp2_with (first
        | (go_at_call 9; with_reducible show Calls _ _ #[.slice none 0 0] _ _
           refine (hN0.out).mono ?_; rintro e w1 ⟨T, rfl, hT1, hb1⟩
           replace hT1 := Lib.hid hT1)
        | (go_at_call 27; refine (hJ.out _).mono ?_; rintro e w' ⟨rfl, rfl⟩)
        | (go_at_call 9
           have hq := new_no _ 1 1 [(nm, l)] _ rfl (Nat.le_refl _) hsz1.out (hFile.out w1 hb1) q0.out
           rw [q1.out] at hq
           refine hq.mono ?_; clear hq; rintro e w2 ⟨rfl, hb2⟩
           have hb12 : Below w1.heap.size w1 w2 := ((Below.refl _ w1).alloc (Nat.le_refl _) _).trans (hb2.mono (by rw [sizeA]; omega))
           have hbw2 := hb1.trans (hb12.mono hb1.size)
           have hT2 := Lib.hid (hT1.out.below hb12))
        | (go_at_call 28; refine (hI.out _).mono ?_; rintro e w3 ⟨rfl, hb3⟩
           have hbw3 := hbw2.trans (hb3.mono hbw2.size)
           have hT3 := Lib.hid (hT2.out.below hb3))
        | (go_at_call 15
           have hba : ∀ o, Below w3.heap.size w3 (w3.alloc o) := fun o => (Below.refl _ w3).alloc (Nat.le_refl _) o
           have hq := add_any (But W.heap.size w3.heap.size) T [] nm (some ⟨w3.heap.size, 0, none⟩) 1 1 [l] (w3.alloc (.cells #[.slice A n c] 35)) (hT3.out.kept (fun k hk _ => (hba _).block k hk) (fun k hk hF => ⟨hF, by omega⟩)) ok_nil (fun k hk => by rw [sizeA] at hk; exact ⟨by have := hbw3.size; omega, by omega⟩) hs'.out rfl (Nat.le_refl _) (by simp [maxLen]) (bss_oneQ w3 A n c l _ hn'.out hnc hm'.out _ (hB.out w3 hbw3))
           rw [show ([l] : List (List UInt8)).flatten = l by simp, q2.out] at hq
           refine hq.mono ?_; clear hq; rintro e w4 ⟨rfl, hT4, hF4⟩
           have hbw4 := (hbw3.trans ((hba _).mono hbw3.size)).trans (hF4.below (fun k _ h => h.1) (hbw3.trans ((hba (.cells #[.slice A n c] 35)).mono hbw3.size)).size)
           replace hT4 := Lib.hid (hT4.kept (F' := fun k => W.heap.size ≤ k) (fun _ _ _ => rfl) (fun k _ h => h.1)))
        | (go_at_call 13
           have hq := put_any _ T [] nm A n c l w4 hT4.out ok_nil (fun k hk => Nat.le_trans hbw4.size hk) hs'.out hn'.out hnc hm'.out (hB.out w4 hbw4)
           rw [q3.out] at hq
           refine hq.mono ?_; clear hq; rintro e w5 ⟨rfl, hT5, hF5⟩
           have hbw5 := hbw4.trans (hF5.below (fun k _ h => h) hbw4.size)
           replace hT5 := Lib.hid hT5)
        | (go_at_call 25
           refine (all_any _ T _ w5 hT5.out ok_nil).mono ?_; rintro e w6 ⟨v6, vs6, rfl, hR6, hb6⟩
           obtain ⟨A6, c6, rfl, -, -, -⟩ := hR6.fils
           have hbw6 := hbw5.trans (hb6.mono hbw5.size))
        | (go_at_call 8; refine (hW.out _).mono ?_; rintro e w13 ⟨rfl, hb13⟩))
      all_goals go_ret
      all_goals exact ⟨rfl, hbw6.trans (hb13.mono hbw6.size)⟩
theorem contract (H : Type) (enc : TypeId × Value → H) (W : World) (base : Nat) (args : Array Value) (ds gs : List (DataW H)) (before : List MemPlace)
    (hval : ∀ (j : Nat) t v, Try.f5.params[j]? = some t → args[j]? = some v → Value.okWide Try.prog W .any base t v)
    (hW : DataW.Whole enc Try.prog Try.f5.params.toList Rows.filesNamesSpec.vars false W args.toList ds gs before) :
    Calls Try.prog 5 args W fun e W' => ∃ v, e = .returned v ∧ Rows.filesNamesSpec.post enc Try.prog Try.f5 false true false false W args v W' := by
  have hW' := hW
  obtain ⟨p, q, hA, hV, rfl, hfz, hnd⟩ := hW
  rw [Try.params5] at hA hval
  obtain ⟨v0, vs0, d0, ds0, p0, q0, hargs, rfl, rfl, h0, r0⟩ := trodAll_cons hA
  obtain ⟨v1, vs1, d1, ds1, p1, q1, rfl, rfl, rfl, h1, r1⟩ := trodAll_cons r0
  obtain ⟨rfl, rfl, rfl⟩ := trodAll_nil r1
  obtain rfl : args = #[v0, v1] := by cases args; simp_all
  obtain ⟨rfl, rfl⟩ := trodVars_none hV
  obtain ⟨a0, rfl, rfl, rfl, w0⟩ := open_string Try.underlying9 (hval 0 9 v0 rfl rfl) h0
  obtain ⟨A1, n1, c1, l1, rfl, e1, k1, m1, x1⟩ := open_byt Try.underlying35 Try.underlying5 (by kernel_rfl) (hval 1 35 v1 rfl rfl) h1
  exact (core W a0 w0 A1 n1 c1 l1 e1 k1 m1 x1).mono fun e W' ⟨he, hb⟩ => ⟨_, he, law_post hW' rfl (by kernel_rfl) (by kernel_rfl) rfl hb⟩

theorem laid_met (os : Os) : laidMetH Try.prog Rows.filesNamesRow.laid ((World.doorLaid Try.prog 4000 os).forCall (fun _ _ => 0) ⟨#[], #[.string ByteArray.empty, .slice none 0 0], []⟩).memory :=
  laidMetH_of_parts3 (fuel := 8) (laidMet_of_run' 8 (by kernel_rfl) (by kernel_rfl)) (by kernel_rfl) (by kernel_rfl)
theorem reads (os : Os) {H : Type} (enc : TypeId × Value → H) : ∃ places, DataW.whole enc Try.prog ((World.doorLaid Try.prog 4000 os).forCall (fun _ _ => 0) ⟨#[], #[.string ByteArray.empty, .slice none 0 0], []⟩).memory Try.f5.params.toList Rows.filesNamesSpec.vars false #[Value.string ByteArray.empty, .slice none 0 0].toList 8 = some ([.lit (.string []), .nil], [], places) :=
  ⟨[], by kernel_rfl⟩

set_option maxRecDepth 100000 in
theorem lifted (os : Os) (started : os.Started) (H : Type) (enc : TypeId × Value → H) (F : Stop.Interp) :
    ReturnsInHanded {} Try.checked os 5 .any ((OpenSpec.ofChange Rows.filesNamesSpec).preRow enc Try.prog Try.f5 Rows.filesNamesRow.domain false Rows.filesNamesRow.laid) (((OpenSpec.ofChange Rows.filesNamesSpec).at F).post enc Try.prog Try.f5 false true false false) := by
  obtain ⟨places, hx⟩ := reads os enc
  refine returnsInHanded_of_row (C := Try.checked) (s := (OpenSpec.ofChange Rows.filesNamesSpec)) own started (by kernel_rfl) Try.func5
    (witness_row_at (enc := enc) (C := Try.checked) false (World.doorLaid Try.prog 4000 os) #[.string ByteArray.empty, .slice none 0 0] rfl (by kernel_rfl) (by kernel_rfl) (by kernel_rfl)
      (OpenSpec.preRow_of_cond 8 hx (by kernel_rfl) (fun k hk => by cases hk) (by kernel_rfl) (laid_met os))) ?_
  intro W base args ds gs before hval hW _ _ _ _ _ _
  exact contract H enc W base args ds gs before hval hW

theorem said : Rows.FilesNamesSaid :=
  OpenClaim.holds_of_cond 5 Try.f5 rfl rfl rfl rfl rfl rfl rfl ⟨rfl, rfl, rfl, rfl, rfl⟩ rfl rfl rfl rfl rfl (by kernel_rfl) Try.func5 (by kernel_rfl)
    (of_decide_eq_true (by kernel_rfl)) (by unfold Func.isWrapper; first | (rw [if_pos (by decide +kernel)]; kernel_rfl) | (rw [if_neg (by decide +kernel)]; exact ⟨rfl, rfl⟩))
    (fun os started H enc _ F => by rw [OpenClaim.pre_eq_preRow]; exact lifted os started H enc F)

end Go.Proofs.Ytkdhfjnfdcopdaa.Names
