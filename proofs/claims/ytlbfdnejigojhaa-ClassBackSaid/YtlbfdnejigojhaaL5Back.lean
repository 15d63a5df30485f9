/- ClassBack. -/
import Derived.Test.YtlbfdnejigojhaaFrame
import Derived.Test.YtlbfdnejigojhaaClsM
import Derived.Test.YtlbfdnejigojhaaClsL
import Derived.Test.YtlbfdnejigojhaaClsO
import Derived.Test.YtlbfdnejigojhaaSmB
import Derived.Deep.RegionHeld3
set_option linter.unusedVariables false
namespace Go.Proofs.Ytlbfdnejigojhaa.Back
open Go.ChangeShapes Go.WideShapes Go.ChangeAt Go.RowKit

theorem eql_ll (f g : Nat → Bool) (w : World) : (binOp .eql 24 (.agg #[.int .u64 (wd f 0 : Nat), .int .u64 (wd f 1 : Nat), .int .u64 (wd f 2 : Nat), .int .u64 (wd f 3 : Nat)]) (.agg #[.int .u64 (wd g 0 : Nat), .int .u64 (wd g 1 : Nat), .int .u64 (wd g 2 : Nat), .int .u64 (wd g 3 : Nat)])).run Try.prog w = .ok (.bool (sameS f g)) w :=
  (run_eql_struct w _ _ _).trans (by rw [run_equalIn_lit w f g]; rfl)
theorem eql_vl (f g : Nat → Bool) (w : World) (h : alike f g) : (binOp .eql 24 (setV f) (.agg #[.int .u64 (wd g 0 : Nat), .int .u64 (wd g 1 : Nat), .int .u64 (wd g 2 : Nat), .int .u64 (wd g 3 : Nat)])).run Try.prog w = .ok (.bool true) w := by
  rw [← sameS_of h]; exact eql_ll f g w
/-- A set is the set of its bytes. -/
theorem of_elems (f : Nat → Bool) : alike (ofL (elems f 256)) f := fun c hc => elems_any f 256 c (Nat.le_refl _) hc
theorem same_elems (f g : Nat → Bool) : (elems f 256 == elems g 256) = sameS f g := by
  rw [Bool.eq_iff_iff, beq_iff_eq, sameS_iff]
  exact ⟨elems_inj, fun h => elems_congr h⟩
theorem rise_at {L : List UInt8} (hp : L.Pairwise (fun a b => a.toNat < b.toNat)) (k : Nat) (h : k + 1 < L.length) : (L[k]'(by omega)).toNat < (L[k + 1]'h).toNat :=
  List.pairwise_iff_getElem.1 hp k (k + 1) (by omega) h (by omega)

set_option maxRecDepth 100000 in
set_option maxHeartbeats 8000000 in
theorem core (W : World) (f g : Nat → Bool) :
    Calls Try.prog 6 #[setV f, setV g] W fun e W' => e = .returned (.bool true) ∧ Below W.heap.size W W' := by
  have hW := Lib.hid awake_any
  have hB1 := Lib.hid (fun w => bytes_any f w)
  have hB2 := Lib.hid (fun w => bytes_any g w)
  have hoe := of_elems f
  have hse := Lib.hid (same_elems f g)
  have hri := elems_rise f 256 (Nat.le_refl _)
  have hle := elems_le f 256
  have hle2 := elems_le g 256
  generalize elems f 256 = L at *
  generalize elems g 256 = R at *
  replace hri := Lib.hid (rise_at hri)
  obtain ⟨n, hn⟩ : ∃ n, n = L.length := ⟨_, rfl⟩
  obtain ⟨m, hm⟩ : ∃ m, m = R.length := ⟨_, rfl⟩
  rw [← hn] at hle
  rw [← hm] at hle2
  replace hn := Lib.hid hn
  replace hm := Lib.hid hm
  have hE1 := fun w => eql_vl (ofL L) f w hoe
  have hG1 : ∀ x y w, (eqGuard .eql 24 x y (setV (ofL L)) (.agg #[.int .u64 (wd f 0 : Nat), .int .u64 (wd f 1 : Nat), .int .u64 (wd f 2 : Nat), .int .u64 (wd f 3 : Nat)])).run Try.prog w = .ok () w :=
    fun x y w => run_eqGuard_agg w .eql _ x y _ _ guard_set
  have hE2 := eql_ll f g
  have hG2 : ∀ x y w, (eqGuard .eql 24 x y (.agg #[.int .u64 (wd f 0 : Nat), .int .u64 (wd f 1 : Nat), .int .u64 (wd f 2 : Nat), .int .u64 (wd f 3 : Nat)]) (.agg #[.int .u64 (wd g 0 : Nat), .int .u64 (wd g 1 : Nat), .int .u64 (wd g 2 : Nat), .int .u64 (wd g 3 : Nat)])).run Try.prog w = .ok () w :=
    fun x y w => run_eqGuard_agg w .eql _ x y _ _ guard_set
  generalize sameS f g = b at *
  have hs0 := Lib.hid ((set_new W f).alloc (.cells (setC g) 24))
  have ht0 := Lib.hid (show SetAt ((W.alloc (.cells (setC f) 24)).alloc (.cells (setC g) 24)) (W.heap.size + 1) g by
    have := set_new (W.alloc (.cells (setC f) 24)) g
    rw [show (W.alloc (.cells (setC f) 24)).heap.size = W.heap.size + 1 by simp] at this; exact this)
  have hb0 := Lib.hid (((Below.refl W.heap.size W).alloc (Nat.le_refl _) (.cells (setC f) 24)).alloc (by simp) (.cells (setC g) 24))
  clear hoe
  show Calls Try.prog 6 #[.agg (setC f), .agg (setC g)] W _
  go_enter Try.func6, Try.ntmps6
  go_wp2_with (first
    | (refine wpList_load_row rfl 24 (.tmp 2) rfl W.heap.size rfl 24 _ (0, 0) _ hs0.out Try.underlying24 rfl (set_size _) ?_)
    | (go_at_call 12; refine (hB1.out _).mono ?_; rintro e w1 ⟨v1, rfl, ho1, hw1⟩; rw [← hn.out] at ho1; obtain ⟨A1, c1, rfl, -, k1, m1, B1⟩ := own_byt ho1))
  have m1h := Lib.hid m1
  unfold maxLen at m1
  have hs1 := Lib.hid (hs0.out.below hw1 hs0.out.lt)
  have ht1 := Lib.hid (ht0.out.below hw1 ht0.out.lt)
  have hb1 := Lib.hid (hb0.out.trans (hw1.mono hb0.out.size))
  clear hs0 ht0 hb0 hw1 ho1
  go_loopw [6] (fun i wr => ∃ p k q : Nat, Hid (k = p + 1) ∧ p ≤ n ∧ i = .int .i64 (k : Int) ∧ wr = w1.drewN q) (fun i _ => n + 1 - (intOf i).toNat)
  case atStart => exact ⟨0, 1, 0, rfl, by omega, rfl, rfl⟩
  case round =>
    obtain ⟨p, k, q, hkp, hpn, rfl, rfl⟩ := hrel
    by_cases hlt : k < n
    · have hkp' := hkp.out
      have e1 : p < L.length := by have := hn.out; omega
      have e2 : p + 1 < L.length := by have := hn.out; omega
      obtain ⟨ad1, hA1, -, hd1⟩ := B1.at_ e1
      obtain ⟨ad2, hA2, -, hd2⟩ := B1.at_ e2
      subst hA1
      obtain rfl := Option.some.inj hA2
      have hr := hri.out p e2
      generalize (L[p]'e1).toNat = x1 at *
      generalize (L[p + 1]'e2).toNat = x2 at *
      rw [← hkp'] at hd2
      have g1 : decide (x2 ≤ x1) = false := decide_eq_false (by omega)
      have g2 : IntKind.i64.wrap ((k : Int) - 1) = (p : Int) := by rw [IntWalk.i64_in _ (by omega)]; omega
      have g5 : (0 : Int) ≤ (k : Int) := by omega
      have g6 : (k : Int) < (n : Int) := by omega
      have g7 : (p : Int) < (n : Int) := by omega
      have g8 : (0 : Int) ≤ (p : Int) := by omega
      clear e1 e2 hr hA2 hkp'
      go_wp2_with (first | go_quiet (fail) | fail)
      go_roundw
      case rel => exact ⟨p + 1, k + 1, q + nq, Lib.hid (by have := hkp.out; omega), by have := hkp.out; omega, by go_num, rfl⟩
      case measure => simp [intOf]; omega
    · have hSs := Lib.hid (show SetAt (w1.drewN q).drew W.heap.size f from hs1.out)
      have hSt := Lib.hid (show SetAt (w1.drewN q).drew (W.heap.size + 1) g from ht1.out)
      have hbW := Lib.hid ((below_drewN hb1.out q).drew)
      have B1' := Lib.hid (show Byt (w1.drewN q).drew w1.heap.size A1 L from B1)
      have hCh := Lib.hid (show Below w1.heap.size (w1.drewN q).drew (w1.drewN q).drew from Below.refl _ _)
      have hsz1 := Lib.hid (show w1.heap.size ≤ (w1.drewN q).drew.heap.size from Nat.le_refl _)
      generalize w1.drewN q = w2 at *
      clear B1 hs1 ht1 hb1 hkp
      go_wp2
      go_region_held3 (fun w' => w'.cell? ⟨W.heap.size, 0, none⟩ = some (.int .u64 ((wd f 0 : Nat) : Int)) ∧ w'.cell? ⟨W.heap.size, 1, none⟩ = some (.int .u64 ((wd f 1 : Nat) : Int)) ∧ w'.cell? ⟨W.heap.size, 2, none⟩ = some (.int .u64 ((wd f 2 : Nat) : Int)) ∧ w'.cell? ⟨W.heap.size, 3, none⟩ = some (.int .u64 ((wd f 3 : Nat) : Int)) ∧
          w'.cell? ⟨W.heap.size + 1, 0, none⟩ = some (.int .u64 ((wd g 0 : Nat) : Int)) ∧ w'.cell? ⟨W.heap.size + 1, 1, none⟩ = some (.int .u64 ((wd g 1 : Nat) : Int)) ∧ w'.cell? ⟨W.heap.size + 1, 2, none⟩ = some (.int .u64 ((wd g 2 : Nat) : Int)) ∧ w'.cell? ⟨W.heap.size + 1, 3, none⟩ = some (.int .u64 ((wd g 3 : Nat) : Int)))
        (first | exact ⟨hSs.out.cells4.1, hSs.out.cells4.2.1, hSs.out.cells4.2.2.1, hSs.out.cells4.2.2.2, hSt.out.cells4⟩ | go_keep)
        (first
        | (go_at_call 17; refine (of_any A1 n c1 L w1.heap.size _ hn.out k1 m1h.out (Nat.le_trans hsz1.out hCh.out.size) (B1'.out.below hCh.out)).mono ?_; rintro e w3 ⟨rfl, hb⟩; replace hSs := Lib.hid (hSs.out.below hb hSs.out.lt); replace hSt := Lib.hid (hSt.out.below hb hSt.out.lt); replace hbW := Lib.hid (hbW.out.trans (hb.mono hbW.out.size)); replace hCh := Lib.hid (hCh.out.trans (hb.mono (Nat.le_trans hsz1.out hCh.out.size))))
        | (go_at_call 12; refine (hB2.out _).mono ?_; rintro e w4 ⟨v2, rfl, ho2, hb⟩; rw [← hm.out] at ho2; obtain ⟨A2, c2, rfl, -, k2, m2, B2⟩ := own_byt ho2; replace hSs := Lib.hid (hSs.out.below hb hSs.out.lt); replace hSt := Lib.hid (hSt.out.below hb hSt.out.lt); replace hbW := Lib.hid (hbW.out.trans (hb.mono hbW.out.size)); replace hCh := Lib.hid (hCh.out.trans (hb.mono (Nat.le_trans hsz1.out hCh.out.size))); have hB1 := (B1'.out.below hCh.out).more (Nat.le_trans hsz1.out hCh.out.size); have hSm := Lib.hid (sameB_any A1 A2 n c1 m c2 L R w4.heap.size w4 hn.out hm.out k1 k2 m1h.out hB1 B2))
        | (go_at_call 11; refine (hSm.out).mono ?_; rintro e w5 ⟨he, q5, rfl⟩; rw [hse.out] at he; subst he; replace hSs := Lib.hid (hSs.out.drew q5); replace hSt := Lib.hid (hSt.out.drew q5); replace hbW := Lib.hid (below_drewN hbW.out q5); replace hCh := Lib.hid (below_drewN hCh.out q5))
        | (go_at_call 14; refine (hW.out _).mono ?_; rintro e w6 ⟨rfl, hb⟩; replace hSs := Lib.hid (hSs.out.below hb hSs.out.lt); replace hSt := Lib.hid (hSt.out.below hb hSt.out.lt); replace hbW := Lib.hid (hbW.out.trans (hb.mono hbW.out.size)); replace hCh := Lib.hid (hCh.out.trans (hb.mono (Nat.le_trans hsz1.out hCh.out.size)))))
      all_goals
        go_wp2
        go_ret
        exact ⟨rfl, hbW.out⟩
theorem contract (H : Type) (enc : TypeId × Value → H) (W : World) (base : Nat) (args : Array Value) (ds gs : List (DataW H)) (before : List MemPlace)
    (hval : ∀ (j : Nat) t v, Try.f6.params[j]? = some t → args[j]? = some v → Value.okWide Try.prog W .any base t v)
    (hW : DataW.Whole enc Try.prog Try.f6.params.toList Rows.classBackSpec.vars false W args.toList ds gs before) :
    Calls Try.prog 6 args W fun e W' => ∃ v, e = .returned v ∧ Rows.classBackSpec.post enc Try.prog Try.f6 false true false false W args v W' := by
  have hW' := hW
  obtain ⟨p, q, hA, hV, rfl, hfz, hnd⟩ := hW
  rw [Try.params6] at hA hval
  obtain ⟨v0, vs0, d0, ds0, p0, q0, hargs, rfl, rfl, h0, r0⟩ := trodAll_cons hA
  obtain ⟨v1, vs1, d1, ds1, p1, q1, rfl, rfl, rfl, h1, r1⟩ := trodAll_cons r0
  obtain ⟨rfl, rfl, rfl⟩ := trodAll_nil r1
  obtain rfl : args = #[v0, v1] := by cases args; simp_all
  obtain ⟨rfl, rfl⟩ := trodVars_none hV
  obtain ⟨a0, rfl⟩ := open_set (hval 0 24 v0 rfl rfl) h0
  obtain ⟨a1, rfl⟩ := open_set (hval 1 24 v1 rfl rfl) h1
  exact (core W a0 a1).mono fun e W' ⟨he, hb⟩ => ⟨_, he, law_post hW' rfl (by kernel_rfl) (by kernel_rfl) rfl hb⟩

theorem laid_met (os : Os) : laidMetH Try.prog Rows.classBackRow.laid ((World.doorLaid Try.prog 4000 os).forCall (fun _ _ => 0) ⟨#[], #[.agg #[.int .u64 0, .int .u64 0, .int .u64 0, .int .u64 0], .agg #[.int .u64 0, .int .u64 0, .int .u64 0, .int .u64 0]], []⟩).memory :=
  laidMetH_of_parts3 (fuel := 8) (laidMet_of_run' 8 (by kernel_rfl) (by kernel_rfl)) (by kernel_rfl) (by kernel_rfl)
theorem reads (os : Os) {H : Type} (enc : TypeId × Value → H) : ∃ places, DataW.whole enc Try.prog ((World.doorLaid Try.prog 4000 os).forCall (fun _ _ => 0) ⟨#[], #[.agg #[.int .u64 0, .int .u64 0, .int .u64 0, .int .u64 0], .agg #[.int .u64 0, .int .u64 0, .int .u64 0, .int .u64 0]], []⟩).memory Try.f6.params.toList Rows.classBackSpec.vars false #[Value.agg #[.int .u64 0, .int .u64 0, .int .u64 0, .int .u64 0], .agg #[.int .u64 0, .int .u64 0, .int .u64 0, .int .u64 0]].toList 8 = some ([.agg [.lit (.int .u64 0), .lit (.int .u64 0), .lit (.int .u64 0), .lit (.int .u64 0)], .agg [.lit (.int .u64 0), .lit (.int .u64 0), .lit (.int .u64 0), .lit (.int .u64 0)]], [], places) :=
  ⟨[], by kernel_rfl⟩

set_option maxRecDepth 100000 in
theorem lifted (os : Os) (started : os.Started) (H : Type) (enc : TypeId × Value → H) (F : Stop.Interp) :
    ReturnsInHanded {} Try.checked os 6 .any ((OpenSpec.ofChange Rows.classBackSpec).preRow enc Try.prog Try.f6 Rows.classBackRow.domain false Rows.classBackRow.laid) (((OpenSpec.ofChange Rows.classBackSpec).at F).post enc Try.prog Try.f6 false true false false) := by
  obtain ⟨places, hx⟩ := reads os enc
  refine returnsInHanded_of_row (C := Try.checked) (s := (OpenSpec.ofChange Rows.classBackSpec)) own started (by kernel_rfl) Try.func6
    (witness_row_at (enc := enc) (C := Try.checked) false (World.doorLaid Try.prog 4000 os) #[.agg #[.int .u64 0, .int .u64 0, .int .u64 0, .int .u64 0], .agg #[.int .u64 0, .int .u64 0, .int .u64 0, .int .u64 0]] rfl (by kernel_rfl) (by kernel_rfl) (by kernel_rfl)
      (OpenSpec.preRow_of_cond 8 hx (by kernel_rfl) (fun k hk => by cases hk) (by kernel_rfl) (laid_met os))) ?_
  intro W base args ds gs before hval hW _ _ _ _ _ _
  exact contract H enc W base args ds gs before hval hW

theorem said : Rows.ClassBackSaid :=
  OpenClaim.holds_of_cond 6 Try.f6 rfl rfl rfl rfl rfl rfl rfl ⟨rfl, rfl, rfl, rfl, rfl⟩ rfl rfl rfl rfl rfl (by kernel_rfl) Try.func6 (by kernel_rfl)
    (of_decide_eq_true (by kernel_rfl)) (by unfold Func.isWrapper; first | (rw [if_pos (by decide +kernel)]; kernel_rfl) | (rw [if_neg (by decide +kernel)]; exact ⟨rfl, rfl⟩))
    (fun os started H enc _ F => by rw [OpenClaim.pre_eq_preRow]; exact lifted os started H enc F)

end Go.Proofs.Ytlbfdnejigojhaa.Back
