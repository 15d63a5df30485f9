/- ShowFolds. -/
import Derived.Test.YtcjhbpkkkhaaiaaFrame
import Derived.Test.YtcjhbpkkkhaaiaaShwC
import Derived.Test.YtcjhbpkkkhaaiaaShwI
set_option linter.unusedVariables false
namespace Go.Proofs.Ytcjhbpkkkhaaiaa.Fol
open Go.ChangeShapes Go.WideShapes Go.ChangeAt Go.RowKit

theorem own_drop {w : World} {base : Nat} {e : TypeId} {v : Value} {o : List UInt8} {x : UInt8} {n : Nat} (hn : n = o.length) (h : w.ownsRow base e 1 v (n + 1) (bv (o ++ [x]))) :
    ∃ ad cap, v = .slice (some ad) (n + 1) cap ∧ n + 1 ≤ cap ∧ cap ≤ maxLen ∧ w.cell? (ad.add n) = some (.int .u8 (x.toNat : Int)) ∧ w.ownsRow base e 1 (.slice (some ad) n cap) n (bv o) := by
  subst hn
  obtain ⟨hl, ⟨rfl, h0⟩ | ⟨g, cap, cur, rfl, hb, hh, hnc, hcm, hsz, htake⟩⟩ := id h
  · omega
  · refine ⟨⟨g, 0, none⟩, cap, rfl, hnc, hcm, ?_, ?_⟩
    · rw [add_zero_off, h.cellAt o.length (by omega), bv_append, List.getElem?_append_right (by rw [bv_length]; exact Nat.le_refl _)]
      simp [bv]
    · refine ⟨by rw [bv_length, Nat.mul_one], Or.inr ⟨g, cap, cur, rfl, hb, hh, by omega, hcm, hsz, ?_⟩⟩
      have := congrArg (List.take o.length) htake
      rw [List.take_take, bv_append] at this
      rw [Nat.mul_one, ← Nat.min_eq_left (show o.length ≤ (o.length + 1) * 1 by omega), this]
      exact List.take_left' (by rw [bv_length])

def FRel (S : List UInt8) (fold : Nat) (W : World) (vi vf vw : Value) (w : World) : Prop :=
  ∃ (k d : Nat) (o : List UInt8), vi = .int .i64 (k : Int) ∧ vw = .int .i64 (d : Int) ∧ k ≤ S.length ∧ d ≤ k ∧ o.length ≤ k ∧ chk fold (S.drop k) o d = chk fold S [] 0 ∧ w.ownsRow W.heap.size 5 1 vf o.length (bv o) ∧ Below W.heap.size W w
theorem FRel.mk {S : List UInt8} {fold : Nat} {W : World} {vi vf vw : Value} {w : World} (k d : Nat) (o : List UInt8) (h1 : vi = .int .i64 (k : Int)) (h2 : vw = .int .i64 (d : Int)) (h3 : k ≤ S.length) (h4 : d ≤ k) (h5 : o.length ≤ k)
    (h6 : chk fold (S.drop k) o d = chk fold S [] 0) (h7 : w.ownsRow W.heap.size 5 1 vf o.length (bv o)) (h8 : Below W.heap.size W w) : FRel S fold W vi vf vw w := ⟨k, d, o, h1, h2, h3, h4, h5, h6, h7, h8⟩

theorem chk_step {S : List UInt8} {k : Nat} {x : UInt8} (hx : S[k]? = some x) (h : x ≠ 10) (fold : Nat) (o : List UInt8) (d : Nat) : chk fold (S.drop k) o d = chk fold (S.drop (k + 1)) (o ++ [x]) (d + 1) := by
  obtain ⟨hk, rfl⟩ := List.getElem?_eq_some_iff.1 hx
  rw [List.drop_eq_getElem_cons hk, chk, if_neg h]
theorem chk_line {S : List UInt8} {k : Nat} (hx : S[k]? = some 10) {fold : Nat} {o : List UInt8} {d : Nat} {y : List UInt8 × Nat} (h : chk fold (S.drop k) o d = some y) : ∃ o', o = o' ++ [92] ∧ d ≤ fold ∧ chk fold (S.drop (k + 1)) o' 0 = some y := by
  obtain ⟨hk, hk2⟩ := List.getElem?_eq_some_iff.1 hx
  rw [List.drop_eq_getElem_cons hk, hk2, chk, if_pos rfl] at h
  split at h
  · rename_i hc
    obtain ⟨o', rfl⟩ := List.getLast?_eq_some_iff.1 hc.1
    rw [List.dropLast_concat] at h
    exact ⟨o', rfl, hc.2, h⟩
  · cases h

set_option maxHeartbeats 2000000 in
theorem core (W : World) (A : Option Addr) (n c : Nat) (l : List UInt8) (hn : n = l.length) (hnc : n ≤ c) (hm : c ≤ maxLen) (h : Byt W W.heap.size A l) (z : Int) (hz : (Lit.int .u8 z).wf = true) :
    Calls Try.prog 3 #[.slice A n c, .int .u8 z] W fun e W' => e = .returned (.bool true) ∧ Below W.heap.size W W' := by
  have hW := Lib.hid awake_any
  obtain ⟨z0, z1⟩ := bounds_u8 hz
  unfold maxLen at hm
  by_cases hbig : n ≤ 200
  · by_cases hf : 5 ≤ z
    · obtain ⟨fold, rfl⟩ := Int.eq_ofNat_of_zero_le z0
      obtain ⟨kk, hkk, hchk⟩ := chk_fold fold (by omega) l [] 0 (by omega)
      rw [List.nil_append, ← foldS_zero l 0] at hchk
      have hSl := foldS_len fold l 0
      rw [← hn] at hSl
      have hL := Lib.hid (list_any A n c l fold W hn hnc (by omega) (by omega) (by omega) h)
      have hL0 := fun (w : World) (hb : Below W.heap.size W w) => list_any A n c l 0 w hn hnc (by omega) (by omega) (by omega) ((h.below hb).more hb.size)
      generalize foldS (fold : Int) 0 l = S at *
      generalize foldS 0 0 l = F at *
      replace hL0 := Lib.hid hL0
      obtain ⟨i0, hi, hz0, hi1, hi2⟩ : ∃ i0, Try.prog.info? 5 = some i0 ∧ i0.zero = some (.int .u8 0) ∧ i0.size = 1 ∧ i0.bytes = 1 := by
        obtain ⟨i0, h1, h2⟩ := Option.map_eq_some_iff.1 byteInfoL
        simp at h2
        exact ⟨i0, h1, h2.1, h2.2.1, h2.2.2⟩
      have hI1 := Lib.hid hi1
      have hI2 := Lib.hid hi2
      have hS := Lib.hid sameB_any
      replace hchk := Lib.hid hchk
      obtain ⟨m, hmS⟩ : ∃ m, m = S.length := ⟨_, rfl⟩
      rw [← hmS] at hSl
      replace hmS := Lib.hid hmS
      clear hn h hi1 hi2 hz
      go_enter Try.func3, Try.ntmps3
      go_wp2_with (first
        | (go_at_call 8; refine (hL.out).mono ?_; rintro e w1 ⟨v1, rfl, ho1, hw1⟩; rw [← hmS.out] at ho1; obtain ⟨A1, c1, rfl, -, k1, m1, B1⟩ := own_byt ho1))
      unfold maxLen at m1
      replace B1 := Lib.hid B1
      go_loopw [8, 6, 7] (fun vi vf vw wr => FRel S fold w1 vi vf vw wr) (fun vi _ _ _ => m - (intOf vi).toNat)
      case atStart => exact FRel.mk 0 0 [] rfl rfl (Nat.zero_le _) (Nat.zero_le _) (Nat.zero_le _) rfl (World.ownsRow_nil _ _ _ _) (Below.refl _ _)
      case round =>
        obtain ⟨k, d, o, rfl, rfl, hk, hd, ho, hr, hown, hb⟩ := hrel
        rw [← hmS.out] at hk
        rw [hchk.out] at hr
        replace hb := Lib.hid hb
        by_cases hkm : k < m
        · obtain ⟨x, hx⟩ := get_some hmS.out hkm
          obtain ⟨ad, rfl, hcell⟩ := (B1.out.below hb.out).get hx
          by_cases h10 : x = 10
          · subst h10
            obtain ⟨o', rfl, hdf, hr2⟩ := chk_line hx hr
            obtain ⟨p, hp⟩ : ∃ p, p = o'.length := ⟨_, rfl⟩
            rw [List.length_append, ← hp, List.length_singleton] at hown ho
            obtain ⟨ad2, cap2, rfl, hc2, hm2, hcell2, hown2⟩ := own_drop hp hown
            unfold maxLen at hm2
            replace hp := Lib.hid hp
            replace hr2 := Lib.hid hr2
            clear hx hr
            go_wp2_with fail
            go_round
            case rel => exact FRel.mk (k + 1) 0 o' (by go_num) rfl (by rw [← hmS.out]; omega) (by omega) (by rw [← hp.out]; omega) (hr2.out.trans hchk.out.symm) (by rw [← hp.out]; exact hown2) hb.out
            case measure => simp [intOf]; omega
          · have g1 : ((x.toNat : Int) == 10) = false := u8_ne (b := 10) h10
            have hr2 := Lib.hid ((chk_step hx h10 fold o d).symm.trans hr)
            clear hx hr h10
            go_wp2_with (at_builtin; refine wpList_append_at rfl _ _ 22 rfl w1.heap.size 5 i0 (.int .u8 0) 1 1 Try.underlying22 hi hz0 hI1.out hI2.out rfl (by decide) _ _ _ rfl (hown.alloc _) (some ⟨wr.heap.size, 0, none⟩) 1 1 [.int .u8 (x.toNat : Int)] rfl rfl (src_new wr [.int .u8 (x.toNat : Int)] 5) (by simp [Value.oneCell']) (by unfold maxLen; omega) (by omega) (by have := hb.out.size; simp; omega) ?_; intro v3 w3 hown3 hg3 _; have hb3 := below_append (hb.out.alloc hb.out.size _) (hown.alloc _) (by have := hb.out.size; simp; omega) hg3)
            go_round
            case rel => exact FRel.mk (k + 1) (d + 1) (o ++ [x]) (by go_num) (by go_num) (by rw [← hmS.out]; omega) (by omega) (by simp; omega) (hr2.out.trans hchk.out.symm) (by rw [List.length_append, bv_append]; exact hown3) hb3
            case measure => simp [intOf]; omega
        · obtain rfl : k = m := by omega
          rw [List.drop_of_length_le (by rw [← hmS.out]; exact Nat.le_refl _)] at hr
          obtain ⟨rfl, rfl⟩ := Prod.mk.inj (Option.some.inj (show some (o, d) = some (F, kk) from hr))
          clear hr
          obtain ⟨A3, c3, rfl, -, k3, m3, B3⟩ := own_byt hown
          have hbW := hw1.trans (hb.out.mono hw1.size)
          go_wp2_with (first
            | (go_at_call 8; refine (hL0.out _ hbW).mono ?_; rintro e w2 ⟨v2, rfl, ho2, hw2⟩; obtain ⟨A2, c2, rfl, -, k2, m2, B2⟩ := own_byt ho2
               have hx2 := hbW.trans (hw2.mono hbW.size))
            | (go_at_call 9; refine (hS.out A3 A2 o.length c3 o.length c2 o o w2.heap.size w2 rfl rfl k3 k2 m3 ((B3.below hw2).more hw2.size) B2).mono ?_; rintro e w4 ⟨he, q4, rfl⟩; rw [beq_self_eq_true] at he; subst he
               have hx4 := below_drewN hx2 q4)
            | (go_at_call 7; refine (hW.out _).mono ?_; rintro e w5 ⟨rfl, hb5⟩))
          go_ret
          exact ⟨rfl, hx4.trans (hb5.mono hx4.size)⟩
    · have hf5 : z < 5 := by omega
      clear hn h
      go_enter Try.func3, Try.ntmps3
      go_wp2_with (first
        | (go_at_call 7; refine (hW.out _).mono ?_; rintro e w5 ⟨rfl, hb5⟩))
      go_ret
      exact ⟨rfl, hb5⟩
  · have hbig : 200 < n := by omega
    clear hn h
    go_enter Try.func3, Try.ntmps3
    go_wp2_with (first
      | (go_at_call 7; refine (hW.out _).mono ?_; rintro e w5 ⟨rfl, hb5⟩))
    go_ret
    exact ⟨rfl, hb5⟩
theorem contract (H : Type) (enc : TypeId × Value → H) (W : World) (base : Nat) (args : Array Value) (ds gs : List (DataW H)) (before : List MemPlace)
    (hval : ∀ (j : Nat) t v, Try.f3.params[j]? = some t → args[j]? = some v → Value.okWide Try.prog W .any base t v)
    (hW : DataW.Whole enc Try.prog Try.f3.params.toList Rows.showFoldsSpec.vars false W args.toList ds gs before) :
    Calls Try.prog 3 args W fun e W' => ∃ v, e = .returned v ∧ Rows.showFoldsSpec.post enc Try.prog Try.f3 false true false false W args v W' := by
  have hW' := hW
  obtain ⟨p, q, hA, hV, rfl, hfz, hnd⟩ := hW
  rw [Try.params3] at hA hval
  obtain ⟨v0, vs0, d0, ds0, p0, q0, hargs, rfl, rfl, h0, r0⟩ := trodAll_cons hA
  obtain ⟨v1, vs1, d1, ds1, p1, q1, rfl, rfl, rfl, h1, r1⟩ := trodAll_cons r0
  obtain ⟨rfl, rfl, rfl⟩ := trodAll_nil r1
  obtain rfl : args = #[v0, v1] := by cases args; simp_all
  obtain ⟨rfl, rfl⟩ := trodVars_none hV
  obtain ⟨A0, n0, c0, l0, rfl, e0, k0, m0, x0⟩ := open_byt Try.underlying22 Try.underlying5 (by kernel_rfl) (hval 0 22 v0 rfl rfl) h0
  obtain ⟨a1, rfl, rfl, rfl, w1⟩ := open_int Try.underlying5 (hval 1 5 v1 rfl rfl) h1
  exact (core W A0 n0 c0 l0 e0 k0 m0 x0 a1 w1).mono fun e W' ⟨he, hb⟩ => ⟨_, he, law_post hW' rfl (by kernel_rfl) (by kernel_rfl) rfl hb⟩

theorem laid_met (os : Os) : laidMetH Try.prog Rows.showFoldsRow.laid ((World.doorLaid Try.prog 4000 os).forCall (fun _ _ => 0) ⟨#[], #[.slice none 0 0, .int .u8 0], []⟩).memory :=
  laidMetH_of_parts3 (fuel := 8) (laidMet_of_run' 8 (by kernel_rfl) (by kernel_rfl)) (by kernel_rfl) (by kernel_rfl)
theorem reads (os : Os) {H : Type} (enc : TypeId × Value → H) : ∃ places, DataW.whole enc Try.prog ((World.doorLaid Try.prog 4000 os).forCall (fun _ _ => 0) ⟨#[], #[.slice none 0 0, .int .u8 0], []⟩).memory Try.f3.params.toList Rows.showFoldsSpec.vars false #[Value.slice none 0 0, .int .u8 0].toList 8 = some ([.nil, .lit (.int .u8 0)], [], places) :=
  ⟨[], by kernel_rfl⟩

set_option maxRecDepth 100000 in
theorem lifted (os : Os) (started : os.Started) (H : Type) (enc : TypeId × Value → H) (F : Stop.Interp) :
    ReturnsInHanded {} Try.checked os 3 .any ((OpenSpec.ofChange Rows.showFoldsSpec).preRow enc Try.prog Try.f3 Rows.showFoldsRow.domain false Rows.showFoldsRow.laid) (((OpenSpec.ofChange Rows.showFoldsSpec).at F).post enc Try.prog Try.f3 false true false false) := by
  obtain ⟨places, hx⟩ := reads os enc
  refine returnsInHanded_of_row (C := Try.checked) (s := (OpenSpec.ofChange Rows.showFoldsSpec)) own started (by kernel_rfl) Try.func3
    (witness_row_at (enc := enc) (C := Try.checked) false (World.doorLaid Try.prog 4000 os) #[.slice none 0 0, .int .u8 0] rfl (by kernel_rfl) (by kernel_rfl) (by kernel_rfl)
      (OpenSpec.preRow_of_cond 8 hx (by kernel_rfl) (fun k hk => by cases hk) (by kernel_rfl) (laid_met os))) ?_
  intro W base args ds gs before hval hW _ _ _ _ _ _
  exact contract H enc W base args ds gs before hval hW

theorem said : Rows.ShowFoldsSaid :=
  OpenClaim.holds_of_cond 3 Try.f3 rfl rfl rfl rfl rfl rfl rfl ⟨rfl, rfl, rfl, rfl, rfl⟩ rfl rfl rfl rfl rfl (by kernel_rfl) Try.func3 (by kernel_rfl)
    (of_decide_eq_true (by kernel_rfl)) (by unfold Func.isWrapper; first | (rw [if_pos (by decide +kernel)]; kernel_rfl) | (rw [if_neg (by decide +kernel)]; exact ⟨rfl, rfl⟩))
    (fun os started H enc _ F => by rw [OpenClaim.pre_eq_preRow]; exact lifted os started H enc F)

end Go.Proofs.Ytcjhbpkkkhaaiaa.Fol
