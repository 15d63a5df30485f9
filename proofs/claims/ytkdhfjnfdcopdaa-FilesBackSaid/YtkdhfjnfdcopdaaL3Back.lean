/- FilesBack. -/
import Derived.Test.YtkdhfjnfdcopdaaFrame
import Derived.Test.YtkdhfjnfdcopdaaFilX
import Derived.Test.YtkdhfjnfdcopdaaFilO
set_option linter.unusedVariables false
namespace Go.Proofs.Ytkdhfjnfdcopdaa.Back
open Go.ChangeShapes Go.WideShapes Go.ChangeAt Go.RowKit

theorem act_one (W : World) (A2 : Option Addr) (n2 c2 : Nat) (ls : List (List UInt8)) (h1 : n2 = ls.length) (h2 : n2 ≤ c2) (h3 : c2 ≤ maxLen) (h : Bss W (· < W.heap.size) A2 ls) (t : TypeId) :
    Acts (W.alloc (.cells #[.int .i64 0, .int .i64 0, .string ByteArray.empty, .slice A2 n2 c2] t)) (fun _ => True) (some ⟨W.heap.size, 0, none⟩) [(0, 0, ByteArray.empty, ls)] := by
  intro k hk
  obtain rfl : k = 0 := by simpa using hk
  have hn := new_cells W [.int .i64 0, .int .i64 0, .string ByteArray.empty, .slice A2 n2 c2] t
  have hb : Below W.heap.size W (W.alloc (.cells #[.int .i64 0, .int .i64 0, .string ByteArray.empty, .slice A2 n2 c2] t)) := (Below.refl _ W).alloc (Nat.le_refl _) _
  exact ⟨_, _, rfl, trivial, hn 0 _ rfl, hn 1 _ rfl, hn 2 _ rfl, hn 3 _ rfl, A2, n2, c2, rfl, h1, h2, h3, h.keep (fun p hp _ => hb.cell hp) (fun _ _ _ => trivial)⟩

structure NmF (fs : List Fil) (ls : List (List UInt8)) (nm : ByteArray) (L M : Nat) : Prop where
  sz : nm.size ≤ maxLen
  small : L ≤ 65536
  small2 : M ≤ 65536
  flat : ls.flatten.length = M
  len1 : lenF fs nm = (L : Int)
  add : addF fs nm ls.flatten = (setF fs nm (getF fs nm ++ ls.flatten), 0)
  ok : OkF (setF fs nm (getF fs nm ++ ls.flatten))
  len2 : lenF (setF fs nm (getF fs nm ++ ls.flatten)) nm = (L : Int) + (M : Int)
  far : cutF (setF fs nm (getF fs nm ++ ls.flatten)) nm ((L : Int) + (M : Int) + 1) = (setF fs nm (getF fs nm ++ ls.flatten), 3)
  back : cutF (setF fs nm (getF fs nm ++ ls.flatten)) nm (L : Int) = (fs, 0)
theorem nmF_of {fs : List Fil} {ls : List (List UInt8)} (hok : OkF fs) {k : Nat} (hk : k < fs.length) (hz : (fs[k]'hk).1.size ≤ maxLen) (hS : Small fs [(0, 0, ByteArray.empty, ls)]) : NmF fs ls (fs[k]'hk).1 (getF fs (fs[k]'hk).1).length ls.flatten.length := by
  obtain ⟨j, hj⟩ := pos_of_mem hk
  generalize (fs[k]'hk).1 = nm at *
  obtain ⟨hjl, -⟩ := posN_lt hj
  have hg : (getF fs nm).length ≤ 100 := by rw [getF_some hj hjl]; exact (hS.2.1 _ (List.getElem_mem hjl)).1
  have hfl : ls.flatten.length ≤ 500 := by
    obtain ⟨h5, _, h100⟩ := hS.2.2.2 _ (List.mem_singleton.2 rfl)
    have h5 : ls.length ≤ 5 := h5
    have := flat_le h100
    have : ls.flatten.length ≤ ls.length * 100 := this
    omega
  have hadd := add_there hok hj (b := ls.flatten) (by omega)
  have hsp := posN_spot fs nm (getF fs nm ++ ls.flatten)
  refine ⟨hz, by omega, by omega, rfl, lenF_some hj, hadd, ?_, ?_, ?_, cut_back hj _⟩
  · exact setF_ok hok (name_ok hok hj) (by rw [List.length_append]; omega) (fun e => by rw [hj] at e; cases e)
  · rw [lenF_some hsp, getF_setF, List.length_append]; omega
  · exact cut_far hsp (by rw [getF_setF, List.length_append]; omega)
theorem one_sz {ls : List (List UInt8)} : ∀ a ∈ ([(0, 0, ByteArray.empty, ls)] : List ActT), a.2.2.1.size ≤ maxLen := by
  intro a ha
  obtain rfl : a = (0, 0, ByteArray.empty, ls) := by simpa using ha
  simp
set_option maxHeartbeats 4000000 in
set_option maxRecDepth 100000 in
theorem core (W : World) (A : Option Addr) (n c : Nat) (fs : List Fil) (hn : n = fs.length) (hnc : n ≤ c) (hm : c ≤ maxLen) (hz : ∀ f ∈ fs, f.1.size ≤ maxLen) (h : Fils W (· < W.heap.size) A fs)
    (z : Int) (wz : (Lit.int .i64 z).wf = true) (A2 : Option Addr) (n2 c2 : Nat) (ls : List (List UInt8)) (hn2 : n2 = ls.length) (hnc2 : n2 ≤ c2) (hm2 : c2 ≤ maxLen) (h2 : Bss W (· < W.heap.size) A2 ls) :
    Calls Try.prog 4 #[.slice A n c, .int .i64 z, .slice A2 n2 c2] W fun e W' => e = .returned (.bool true) ∧ Below W.heap.size W W' := by
  have hW := Lib.hid awake_any
  have hb1 : ∀ o, Below W.heap.size W (W.alloc o) := fun o => (Below.refl _ W).alloc (Nat.le_refl _) o
  have hG := Lib.hid (great_any A n c fs (some ⟨W.heap.size, 0, none⟩) 1 1 [(0, 0, ByteArray.empty, ls)] _ _ (W.alloc (.cells #[.int .i64 0, .int .i64 0, .string ByteArray.empty, .slice A2 n2 c2] 34)) hn (h.belowB (hb1 _)) hz rfl (act_one W A2 n2 c2 ls hn2 hnc2 hm2 h2 _) one_sz)
  unfold maxLen at hm hm2
  rcases Nat.eq_zero_or_pos n with h0 | h0
  · subst h0
    clear hn hn2 h h2
    go_enter Try.func4, Try.ntmps4
    go_wp2_with (first
      | (go_at_call 7; refine (hG.out).mono ?_; rintro e w' ⟨⟨b, rfl, hsm⟩, rfl⟩; cases b)
      | (go_at_call 8; refine (hW.out _).mono ?_; rintro e w5 ⟨rfl, hb5⟩))
    all_goals go_ret
    all_goals exact ⟨rfl, (hb1 _).trans (hb5.mono (hb1 _).size)⟩
  · obtain ⟨ad, -, -, -, hA, -, -, -, -, -, -, -⟩ := h.at_ (k := 0) (by omega)
    subst hA
    by_cases hS : Small fs [(0, 0, ByteArray.empty, ls)]
    rotate_left
    · replace hS := Lib.hid hS
      clear hn hn2 h h2
      go_enter Try.func4, Try.ntmps4
      go_wp2_with (first
        | (go_at_call 7; refine (hG.out).mono ?_; rintro e w' ⟨⟨b, rfl, hsm⟩, rfl⟩; cases b; exact absurd (hsm rfl) hS.out)
        | (go_at_call 8; refine (hW.out _).mono ?_; rintro e w5 ⟨rfl, hb5⟩))
      go_ret
      exact ⟨rfl, (hb1 _).trans (hb5.mono (hb1 _).size)⟩
    · have hs0 : (W.alloc (.cells #[.int .i64 0, .int .i64 0, .string ByteArray.empty, .slice A2 n2 c2] 34)).heap.size = W.heap.size + 1 := sizeA _ _
      have hF1 : Fils (W.alloc (.cells #[.int .i64 0, .int .i64 0, .string ByteArray.empty, .slice A2 n2 c2] 34)) (fun k => k < (W.alloc (.cells #[.int .i64 0, .int .i64 0, .string ByteArray.empty, .slice A2 n2 c2] 34)).heap.size) (some ad) fs := (h.belowB (hb1 _)).mono fun k hk _ => by rw [hs0]; omega
      have hn20 : n ≤ 20 := by have := hS.1; omega
      by_cases h0 : (newF fs).2 = 0
      rotate_left
      · have hN := Lib.hid (new_no (some ad) n c fs _ hn hnc hz hF1 h0)
        generalize (newF fs).2 = e0 at *
        have hne : (e0 == 0) = false := by rw [beq_eq_false_iff_ne]; exact h0
        clear hn hn2 h h2 hF1 hs0 hS h0
        go_enter Try.func4, Try.ntmps4
        go_wp2_with (first
          | (go_at_call 7; refine (hG.out).mono ?_; rintro e w' ⟨⟨b, rfl, hsm⟩, rfl⟩; cases b)
          | (go_at_call 9; refine (hN.out).mono ?_; rintro e w3 ⟨rfl, hb3⟩)
          | (go_at_call 8; refine (hW.out _).mono ?_; rintro e w5 ⟨rfl, hb5⟩))
        all_goals go_ret
        all_goals first
          | exact ⟨rfl, ((hb1 _).trans (hb3.mono (hb1 _).size)).trans (hb5.mono (Nat.le_trans (hb1 _).size hb3.size))⟩
          | exact ⟨rfl, (hb1 _).trans (hb5.mono (hb1 _).size)⟩
      · have hN := Lib.hid (new_yes (some ad) n c fs _ hn hnc hz hF1 h0)
        have hNm : ∀ k (hk : k < fs.length), ∃ nm L M, (fs[k]'hk).1 = nm ∧ NmF fs ls nm L M := fun k hk => ⟨_, _, _, rfl, nmF_of (ok_new h0) hk (hz _ (List.getElem_mem hk)) hS⟩
        replace hNm := Lib.hid hNm
        have hok := Lib.hid (ok_new h0)
        replace hn := Lib.hid hn
        have hhF := Lib.hid h
        have hh2 := Lib.hid (And.intro hn2 (And.intro hnc2 h2))
        have hfl : ls.flatten.length ≤ 500 := by
          obtain ⟨h5, _, h100⟩ := hS.2.2.2 _ (List.mem_singleton.2 rfl)
          have h5 : ls.length ≤ 5 := h5
          have := flat_le h100
          have : ls.flatten.length ≤ ls.length * 100 := this
          omega
        have hAllc := Lib.hid (fun (wX : World) (hb : Below W.heap.size W wX) => lawAll_any none 0 0 [] (A2) n2 c2 ls (fun _ => True) (· < W.heap.size) wX rfl (fun k hk => absurd hk (by simp)) hn2 hnc2 (by unfold maxLen; exact hm2) (h2.belowB hb) (by simp at hfl ⊢; omega))
        have hrest := Lib.hid (fun (wX : World) (hb : Below W.heap.size W wX) => (Bss.keep h2 (fun p hp _ => hb.cell hp) (fun k hk _ => by omega) : Bss wX (fun k => ¬ W.heap.size ≤ k) A2 ls))
        have hSame := Lib.hid (fun (A1 : Option Addr) (n1 c1 : Nat) (Q1 : Nat → Prop) (wX : World) (q1 : n1 = fs.length) (q2 : n1 ≤ c1) (q3 : c1 ≤ maxLen) (q4 : Fils wX Q1 A1 fs) (hb : Below W.heap.size W wX) => sameF_eq A1 (some ad) n1 c1 n c fs Q1 _ wX q1 hn.out q2 q3 q4 (h.belowB hb))
        clear hn2 h h2 hF1 hs0 hS h0 hfl
        go_enter Try.func4, Try.ntmps4
        go_wp2_with (first
          | (go_at_call 7; refine (hG.out).mono ?_; rintro e w' ⟨⟨b, rfl, hsm⟩, rfl⟩; clear hsm; cases b)
          | (go_at_call 9; refine (hN.out).mono ?_; rintro e w3 ⟨T, rfl, hT3, hb3⟩
             have hbw3 := (hb1 _).trans (hb3.mono (hb1 (.cells #[.int .i64 0, .int .i64 0, .string ByteArray.empty, .slice A2 n2 c2] 34)).size)
             have hT3 := Lib.hid (Tab.kept hT3 (F' := fun k => W.heap.size ≤ k) (fun _ _ _ => rfl) (fun k _ hk => Nat.le_trans (hb1 _).size hk)))
          | (go_at_call 26; refine (pick_any _ _ _ h0 hn20).mono ?_; rintro e w' ⟨⟨k, hk, rfl⟩, rfl⟩
             obtain ⟨nm, L, M, hnm, hNF⟩ := hNm.out k (by have := hn.out; omega)
             obtain ⟨ad', -, -, -, hA', -, hd', -, -, -, -, -⟩ := (hhF.out.belowB hbw3).at_ (show k < fs.length by have := hn.out; omega)
             injection hA' with hA'
             subst hA'
             rw [hnm] at hd'
             have hL100 : L ≤ 65536 := hNF.small
             have hM100 : M ≤ 65536 := hNF.small2
             replace hNF := Lib.hid hNF
             clear hnm)
          | (go_at_call 22; with_reducible show Calls _ _ _ w3 _
             have hq := len_any _ T fs nm w3 hT3.out
             rw [hNF.out.len1] at hq
             refine hq.mono ?_; clear hq; rintro e w4 ⟨rfl, hb4⟩
             have hbw4 := hbw3.trans (hb4.mono hbw3.size)
             have hT4 := Lib.hid (hT3.out.below hb4))
          | (go_at_call 15; with_reducible show Calls _ _ _ w4 _
             have hq := add_any _ T fs nm A2 n2 c2 ls w4 hT4.out hok.out (fun k hk => Nat.le_trans hbw4.size hk) hNF.out.sz hh2.out.1 hh2.out.2.1 (by unfold maxLen; exact hm2) (hrest.out w4 hbw4)
             rw [hNF.out.add] at hq
             refine hq.mono ?_; clear hq; rintro e w5 ⟨rfl, hT5, hF5⟩
             have hbw5 := hbw4.trans (hF5.below (fun k _ h => h) hbw4.size)
             replace hT5 := Lib.hid hT5)
          | (go_at_call 22; with_reducible show Calls _ _ _ w5 _
             have hq := len_any _ T _ nm w5 hT5.out
             rw [hNF.out.len2] at hq
             refine hq.mono ?_; clear hq; rintro e w6 ⟨rfl, hb6⟩
             have hbw6 := hbw5.trans (hb6.mono hbw5.size)
             have hT6 := Lib.hid (hT5.out.below hb6))
          | (go_at_call 11; with_reducible show Calls _ _ _ w6 _
             have hq := hAllc.out w6 hbw6
             rw [List.nil_append, hNF.out.flat] at hq
             refine hq.mono ?_; clear hq; rintro e w7 ⟨v7, rfl, ho7, hb7⟩
             obtain ⟨A7, c7, rfl, -, -, -⟩ := own_vals ho7
             have hbw7 := hbw6.trans (hb7.mono hbw6.size)
             have hT7 := Lib.hid (hT6.out.below hb7))
          | (go_at_call 11; with_reducible show Calls _ _ _ w7 _
             have hq := hAllc.out w7 hbw7
             rw [List.nil_append, hNF.out.flat] at hq
             refine hq.mono ?_; clear hq; rintro e w8 ⟨v8, rfl, ho8, hb8⟩
             obtain ⟨A8, c8, rfl, -, -, -⟩ := own_vals ho8
             have hbw8 := hbw7.trans (hb8.mono hbw7.size)
             have hT8 := Lib.hid (hT7.out.below hb8))
          | (go_at_call 17; with_reducible show Calls _ _ _ w8 _
             have hq := cut_any _ T _ nm ((L : Int) + (M : Int) + 1) w8 hT8.out
             rw [hNF.out.far] at hq
             refine hq.mono ?_; clear hq; rintro e w9 ⟨rfl, hT9, hF9⟩
             have hbw9 := hbw8.trans (hF9.below (fun k _ h => h) hbw8.size)
             replace hT9 := Lib.hid hT9)
          | (go_at_call 17; with_reducible show Calls _ _ _ w9 _
             have hq := cut_any _ T _ nm (L : Int) w9 hT9.out
             rw [hNF.out.back] at hq
             refine hq.mono ?_; clear hq; rintro e w10 ⟨rfl, hT10, hF10⟩
             have hbw10 := hbw9.trans (hF10.below (fun k _ h => h) hbw9.size)
             replace hT10 := Lib.hid hT10)
          | (go_at_call 25
             refine (all_any _ T fs w10 hT10.out hok.out).mono ?_; rintro e w11 ⟨v11, vs11, rfl, hR11, hb11⟩
             obtain ⟨A11, c11, rfl, q2, q3, q4⟩ := hR11.fils
             have hbw11 := hbw10.trans (hb11.mono hbw10.size))
          | (go_at_call 24
             refine (hSame.out A11 _ c11 _ w11 rfl q2 q3 q4 hbw11).mono ?_; rintro e w12 ⟨rfl, q12, rfl⟩
             have hbw12 := below_drewN hbw11 q12)
          | (go_at_call 8; refine (hW.out _).mono ?_; rintro e w13 ⟨rfl, hb13⟩))
        all_goals go_ret
        all_goals first
          | exact ⟨rfl, hbw12.trans (hb13.mono hbw12.size)⟩
          | exact ⟨rfl, (hb1 _).trans (hb13.mono (hb1 _).size)⟩
theorem contract (H : Type) (enc : TypeId × Value → H) (W : World) (base : Nat) (args : Array Value) (ds gs : List (DataW H)) (before : List MemPlace)
    (hval : ∀ (j : Nat) t v, Try.f4.params[j]? = some t → args[j]? = some v → Value.okWide Try.prog W .any base t v)
    (hW : DataW.Whole enc Try.prog Try.f4.params.toList Rows.filesBackSpec.vars false W args.toList ds gs before) :
    Calls Try.prog 4 args W fun e W' => ∃ v, e = .returned v ∧ Rows.filesBackSpec.post enc Try.prog Try.f4 false true false false W args v W' := by
  have hW' := hW
  obtain ⟨p, q, hA, hV, rfl, hfz, hnd⟩ := hW
  rw [Try.params4] at hA hval
  obtain ⟨v0, vs0, d0, ds0, p0, q0, hargs, rfl, rfl, h0, r0⟩ := trodAll_cons hA
  obtain ⟨v1, vs1, d1, ds1, p1, q1, rfl, rfl, rfl, h1, r1⟩ := trodAll_cons r0
  obtain ⟨v2, vs2, d2, ds2, p2, q2, rfl, rfl, rfl, h2, r2⟩ := trodAll_cons r1
  obtain ⟨rfl, rfl, rfl⟩ := trodAll_nil r2
  obtain rfl : args = #[v0, v1, v2] := by cases args; simp_all
  obtain ⟨rfl, rfl⟩ := trodVars_none hV
  obtain ⟨A0, n0, c0, l0, rfl, e0, k0, m0, z0, x0⟩ := open_files (hval 0 22 v0 rfl rfl) h0
  obtain ⟨a1, rfl, rfl, rfl, w1⟩ := open_int Try.underlying3 (hval 1 3 v1 rfl rfl) h1
  obtain ⟨A2, n2, c2, l2, rfl, e2, k2, m2, x2⟩ := open_bss (hval 2 32 v2 rfl rfl) h2
  exact (core W A0 n0 c0 l0 e0 k0 m0 z0 x0 a1 w1 A2 n2 c2 l2 e2 k2 m2 x2).mono fun e W' ⟨he, hb⟩ => ⟨_, he, law_post hW' rfl (by kernel_rfl) (by kernel_rfl) rfl hb⟩

theorem laid_met (os : Os) : laidMetH Try.prog Rows.filesBackRow.laid ((World.doorLaid Try.prog 4000 os).forCall (fun _ _ => 0) ⟨#[], #[.slice none 0 0, .int .i64 0, .slice none 0 0], []⟩).memory :=
  laidMetH_of_parts3 (fuel := 8) (laidMet_of_run' 8 (by kernel_rfl) (by kernel_rfl)) (by kernel_rfl) (by kernel_rfl)
theorem reads (os : Os) {H : Type} (enc : TypeId × Value → H) : ∃ places, DataW.whole enc Try.prog ((World.doorLaid Try.prog 4000 os).forCall (fun _ _ => 0) ⟨#[], #[.slice none 0 0, .int .i64 0, .slice none 0 0], []⟩).memory Try.f4.params.toList Rows.filesBackSpec.vars false #[Value.slice none 0 0, .int .i64 0, .slice none 0 0].toList 8 = some ([.nil, .lit (.int .i64 0), .nil], [], places) :=
  ⟨[], by kernel_rfl⟩

set_option maxRecDepth 100000 in
theorem lifted (os : Os) (started : os.Started) (H : Type) (enc : TypeId × Value → H) (F : Stop.Interp) :
    ReturnsInHanded {} Try.checked os 4 .any ((OpenSpec.ofChange Rows.filesBackSpec).preRow enc Try.prog Try.f4 Rows.filesBackRow.domain false Rows.filesBackRow.laid) (((OpenSpec.ofChange Rows.filesBackSpec).at F).post enc Try.prog Try.f4 false true false false) := by
  obtain ⟨places, hx⟩ := reads os enc
  refine returnsInHanded_of_row (C := Try.checked) (s := (OpenSpec.ofChange Rows.filesBackSpec)) own started (by kernel_rfl) Try.func4
    (witness_row_at (enc := enc) (C := Try.checked) false (World.doorLaid Try.prog 4000 os) #[.slice none 0 0, .int .i64 0, .slice none 0 0] rfl (by kernel_rfl) (by kernel_rfl) (by kernel_rfl)
      (OpenSpec.preRow_of_cond 8 hx (by kernel_rfl) (fun k hk => by cases hk) (by kernel_rfl) (laid_met os))) ?_
  intro W base args ds gs before hval hW _ _ _ _ _ _
  exact contract H enc W base args ds gs before hval hW

theorem said : Rows.FilesBackSaid :=
  OpenClaim.holds_of_cond 4 Try.f4 rfl rfl rfl rfl rfl rfl rfl ⟨rfl, rfl, rfl, rfl, rfl⟩ rfl rfl rfl rfl rfl (by kernel_rfl) Try.func4 (by kernel_rfl)
    (of_decide_eq_true (by kernel_rfl)) (by unfold Func.isWrapper; first | (rw [if_pos (by decide +kernel)]; kernel_rfl) | (rw [if_neg (by decide +kernel)]; exact ⟨rfl, rfl⟩))
    (fun os started H enc _ F => by rw [OpenClaim.pre_eq_preRow]; exact lifted os started H enc F)

end Go.Proofs.Ytkdhfjnfdcopdaa.Back
