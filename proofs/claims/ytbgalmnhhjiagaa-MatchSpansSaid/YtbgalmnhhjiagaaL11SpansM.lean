/- MatchSpans answers true at every regular expression, text and place, and they read afterwards as they read before. Conditions: none. -/
import Derived.Test.YtbgalmnhhjiagaaM01
import Derived.Test.YtbgalmnhhjiagaaM54
import Derived.Test.YtbgalmnhhjiagaaM55
set_option linter.unusedVariables false
set_option linter.unusedSimpArgs false
set_option maxRecDepth 100000
namespace Go.Proofs.Ytbgalmnhhjiagaa.Spn
open Go.ChangeShapes Go.WideShapes Go.ChangeAt Go.RowKit

/-- At's answers, as the law parts them. -/
theorem at_parts {ns : List Nod} {g : Int} {t : List UInt8} {at_ fuel : Int} {e : Ending} (h : AtP ns g t at_ fuel e) : (∃ z : Int, e = .returned (.tuple #[.agg (hitC sp00), .bool false, .int .i64 z, .int .i64 1])) ∨ (∃ z : Int, e = .returned (.tuple #[.agg (hitC sp00), .bool false, .int .i64 z, .int .i64 18])) ∨ (∃ z : Int, e = .returned (.tuple #[.agg (hitC sp00), .bool false, .int .i64 z, .int .i64 0])) ∨ (∃ (z : Int) (m : Spn), e = .returned (.tuple #[.agg (hitC m), .bool true, .int .i64 z, .int .i64 0]) ∧ Spans at_ g t.length m ∧ 0 ≤ at_ ∧ g ≤ 9) := by
  cases h with
  | arg => exact .inl ⟨_, rfl⟩
  | fuel => exact .inr (.inl ⟨_, rfl⟩)
  | @fine hok b left hx =>
    cases b with
    | none => exact .inr (.inr (.inl ⟨_, rfl⟩))
    | some m =>
      refine .inr (.inr (.inr ⟨_, m, rfl, ?_, hok.2.1.1, (right_rt hok.1).2.1⟩))
      have hn1 : 1 ≤ ns.length := by
        have := hok.1
        unfold rightN at this
        simp only [Bool.and_eq_true, decide_eq_true_eq] at this
        exact this.1.1.1.1
      obtain ⟨a, ha⟩ := Int.eq_ofNat_of_zero_le hok.2.1.1
      subst ha
      generalize hy : (some (some m, (left : Int)) : Option (Option Spn × Int)) = y at hx
      cases hx with
      | @fin c hs h1 hc =>
        have hy := Option.some.inj hy
        simp only [Prod.mk.injEq] at hy
        have h2 := hok.2.1.2
        exact stk_spans (right_rt hok.1) (by omega) (by omega) (by rw [Int.toNat_natCast]; omega) h1 hy.1.symm
      | over => cases hy
/-- While the spans are looked through. -/
def RelS (W : World) (H R : Nat) (C : Array Value) (A : Option Addr) (n c : Nat) (g : Int) (i : Value) (wr : World) : Prop := ∃ k : Nat, 1 ≤ k ∧ k ≤ 10 ∧ i = .int .i64 (k : Int) ∧ Held wr H 31 C ∧ Held wr R 24 #[.slice A n c, .int .i64 g] ∧ Below W.heap.size W wr
theorem RelS.mk {W : World} {H R : Nat} {C : Array Value} {A : Option Addr} {n c : Nat} {g : Int} {i : Value} {wr : World} (h : ∃ k : Nat, 1 ≤ k ∧ k ≤ 10 ∧ i = .int .i64 (k : Int) ∧ Held wr H 31 C ∧ Held wr R 24 #[.slice A n c, .int .i64 g] ∧ Below W.heap.size W wr) : RelS W H R C A n c g i wr := h
set_option maxHeartbeats 16000000 in
theorem core (W : World) (A1 : Option Addr) (n1 c1 : Nat) (l1 : List Nod) (g1 : Int) (hn1 : n1 = l1.length) (hc1 : n1 ≤ c1) (hm1 : c1 ≤ maxLen) (h1 : Nods W W.heap.size A1 l1)
    (A2 : Option Addr) (n2 c2 : Nat) (l2 : List UInt8) (hn2 : n2 = l2.length) (hc2 : n2 ≤ c2) (hm2 : c2 ≤ maxLen) (h2 : Byt W W.heap.size A2 l2) (at_ : Int) (hat : (Lit.int .i64 at_).wf = true) :
    Calls Try.prog 6 #[.agg #[.slice A1 n1 c1, .int .i64 g1], .slice A2 n2 c2, .int .i64 at_] W fun e W' => e = .returned (.bool true) ∧ Below W.heap.size W W' := by
  have hW := Lib.hid awake11_any
  clear hat
  have hb0 := Lib.hid ((Below.refl W.heap.size W).alloc (Nat.le_refl _) (.cells #[.slice A1 n1 c1, .int .i64 g1] 24))
  by_cases hbig : 40 < n1
  · clear hn1 h1 hn2 h2
    unfold maxLen at hm1 hm2
    go_enter Try.func6, Try.ntmps6
    go_wp2_with (go_at_call 7; refine (hW.out _).mono ?_; rintro e w1 ⟨rfl, hb1⟩)
    go_ret
    exact ⟨rfl, hb0.out.trans (hb1.mono hb0.out.size)⟩
  by_cases hbig2 : 12 < n2
  · clear hn1 h1 hn2 h2
    unfold maxLen at hm1 hm2
    go_enter Try.func6, Try.ntmps6
    go_wp2_with (go_at_call 7; refine (hW.out _).mono ?_; rintro e w1 ⟨rfl, hb1⟩)
    go_ret
    exact ⟨rfl, hb0.out.trans (hb1.mono hb0.out.size)⟩
  have hRe := Lib.hid (held_new W 24 #[.slice A1 n1 c1, .int .i64 g1])
  have hAt := Lib.hid (mat_any (g := g1) (at_ := at_) (fuel := 2000) (show AtIn (W.alloc (.cells #[.slice A1 n1 c1, .int .i64 g1] 24)) W.heap.size A1 n1 c1 A2 n2 c2 l1 l2 from ⟨hn1, hc1, hm1, hb0.out.size, h1.below hb0.out, hn2, hc2, hm2, by omega, h2.below hb0.out⟩) (by decide))
  replace hn1 := Lib.hid hn1
  have hn2' := Lib.hid hn2
  clear h1 h2 hn2 hm1 hm2
  have hE0 := hit_eql
  have hG0 := hit_guard
  go_enter Try.func6, Try.ntmps6
  go_upto_region 4 with (first
    | (go_at_call 8; refine (hAt.out).mono ?_; rintro e w3 ⟨hP, hb3⟩; have hRe3 := Lib.hid (hRe.out.keep hb3); have hb4 := Lib.hid (hb0.out.trans (hb3.mono hb0.out.size)); have hnull := Lib.hid (held_new w3 31 (hitC sp00)); have hpp := at_parts hP; clear hb3 hP; rcases hpp with ⟨zz, rfl⟩ | ⟨zz, rfl⟩ | ⟨zz, rfl⟩ | ⟨zz, mm, rfl, hsp, ha0, hg9⟩)
    | (refine wpList_store_row rfl 31 (.tmp 7) (.tmp 29) rfl w3.heap.size (hitC sp00) rfl rfl 31 _ hnull.out (by rw [hitC_size]; exact size_hit) rfl (hit_cells _) ?_)
    | (refine wpList_store_row rfl 31 (.tmp 7) (.tmp 29) rfl w3.heap.size (hitC mm) rfl rfl 31 _ hnull.out (by rw [hitC_size]; exact size_hit) rfl (hit_cells _) ?_))
  · have hH4 := Lib.hid (hnull.out.row (hitC sp00))
    have hb5 := Lib.hid (below_row (hb4.out.alloc hb4.out.size (.cells (hitC sp00) 31)) hb4.out.size (hitC sp00))
    have hEq : ∀ w, (binOp .eql 31 (.agg (hitC sp00)) (.agg (hitC sp00))).run Try.prog w = .ok (.bool true) w := fun w => by
      have := hE0 w sp00 sp00
      rw [same10B_self] at this
      exact this
    have hGq : ∀ op p q w, (eqGuard op 31 p q (.agg (hitC sp00)) (.agg (hitC sp00))).run Try.prog w = .ok () w := fun op p q w => hG0 w op p q sp00 sp00
    have hC0 := Lib.hid (show hitC sp00 = hitC sp00 from rfl)
    have hsz := Lib.hid (hitC_size sp00)
    rw [show (w3.alloc (.cells (hitC sp00) 31)) = w3.alloc (.cells #[.int .i64 0, .int .i64 0, .int .i64 0, .int .i64 0, .int .i64 0, .int .i64 0, .int .i64 0, .int .i64 0, .int .i64 0, .int .i64 0, .int .i64 0, .int .i64 0, .int .i64 0, .int .i64 0, .int .i64 0, .int .i64 0, .int .i64 0, .int .i64 0, .int .i64 0, .int .i64 0] 31) from rfl] at hH4 hb5
    generalize (w3.alloc (.cells #[.int .i64 0, .int .i64 0, .int .i64 0, .int .i64 0, .int .i64 0, .int .i64 0, .int .i64 0, .int .i64 0, .int .i64 0, .int .i64 0, .int .i64 0, .int .i64 0, .int .i64 0, .int .i64 0, .int .i64 0, .int .i64 0, .int .i64 0, .int .i64 0, .int .i64 0, .int .i64 0] 31)).setRow w3.heap.size (hitC sp00) = w4 at *
    clear hE0 hG0 hnull hAt hRe3 hRe hb0 hb4
    generalize hCC : hitC sp00 = C0 at *
    replace hCC := Lib.hid hCC
    generalize w3.heap.size = H at *
    go_wp2_with (first
      | (refine wpList_load_row rfl 31 (.tmp 7) rfl H rfl 31 _ (0, 0) _ hH4.out Try.underlying31 rfl (by rw [hsz.out]; exact size_hit) ?_)
      | (refine wpList_build_hit0 rfl rfl C0 hCC.out ?_)
      | (go_at_call 7; refine (hW.out _).mono ?_; rintro e w6 ⟨rfl, hb6⟩))
    go_ret
    exact ⟨rfl, hb5.out.trans (hb6.mono hb5.out.size)⟩
  · have hH4 := Lib.hid (hnull.out.row (hitC sp00))
    have hb5 := Lib.hid (below_row (hb4.out.alloc hb4.out.size (.cells (hitC sp00) 31)) hb4.out.size (hitC sp00))
    have hEq : ∀ w, (binOp .eql 31 (.agg (hitC sp00)) (.agg (hitC sp00))).run Try.prog w = .ok (.bool true) w := fun w => by
      have := hE0 w sp00 sp00
      rw [same10B_self] at this
      exact this
    have hGq : ∀ op p q w, (eqGuard op 31 p q (.agg (hitC sp00)) (.agg (hitC sp00))).run Try.prog w = .ok () w := fun op p q w => hG0 w op p q sp00 sp00
    have hC0 := Lib.hid (show hitC sp00 = hitC sp00 from rfl)
    have hsz := Lib.hid (hitC_size sp00)
    rw [show (w3.alloc (.cells (hitC sp00) 31)) = w3.alloc (.cells #[.int .i64 0, .int .i64 0, .int .i64 0, .int .i64 0, .int .i64 0, .int .i64 0, .int .i64 0, .int .i64 0, .int .i64 0, .int .i64 0, .int .i64 0, .int .i64 0, .int .i64 0, .int .i64 0, .int .i64 0, .int .i64 0, .int .i64 0, .int .i64 0, .int .i64 0, .int .i64 0] 31) from rfl] at hH4 hb5
    generalize (w3.alloc (.cells #[.int .i64 0, .int .i64 0, .int .i64 0, .int .i64 0, .int .i64 0, .int .i64 0, .int .i64 0, .int .i64 0, .int .i64 0, .int .i64 0, .int .i64 0, .int .i64 0, .int .i64 0, .int .i64 0, .int .i64 0, .int .i64 0, .int .i64 0, .int .i64 0, .int .i64 0, .int .i64 0] 31)).setRow w3.heap.size (hitC sp00) = w4 at *
    clear hE0 hG0 hnull hAt hRe3 hRe hb0 hb4
    generalize hCC : hitC sp00 = C0 at *
    replace hCC := Lib.hid hCC
    generalize w3.heap.size = H at *
    go_wp2_with (first
      | (refine wpList_load_row rfl 31 (.tmp 7) rfl H rfl 31 _ (0, 0) _ hH4.out Try.underlying31 rfl (by rw [hsz.out]; exact size_hit) ?_)
      | (refine wpList_build_hit0 rfl rfl C0 hCC.out ?_)
      | (go_at_call 7; refine (hW.out _).mono ?_; rintro e w6 ⟨rfl, hb6⟩))
    go_ret
    exact ⟨rfl, hb5.out.trans (hb6.mono hb5.out.size)⟩
  · have hH4 := Lib.hid (hnull.out.row (hitC sp00))
    have hb5 := Lib.hid (below_row (hb4.out.alloc hb4.out.size (.cells (hitC sp00) 31)) hb4.out.size (hitC sp00))
    have hEq : ∀ w, (binOp .eql 31 (.agg (hitC sp00)) (.agg (hitC sp00))).run Try.prog w = .ok (.bool true) w := fun w => by
      have := hE0 w sp00 sp00
      rw [same10B_self] at this
      exact this
    have hGq : ∀ op p q w, (eqGuard op 31 p q (.agg (hitC sp00)) (.agg (hitC sp00))).run Try.prog w = .ok () w := fun op p q w => hG0 w op p q sp00 sp00
    have hC0 := Lib.hid (show hitC sp00 = hitC sp00 from rfl)
    have hsz := Lib.hid (hitC_size sp00)
    rw [show (w3.alloc (.cells (hitC sp00) 31)) = w3.alloc (.cells #[.int .i64 0, .int .i64 0, .int .i64 0, .int .i64 0, .int .i64 0, .int .i64 0, .int .i64 0, .int .i64 0, .int .i64 0, .int .i64 0, .int .i64 0, .int .i64 0, .int .i64 0, .int .i64 0, .int .i64 0, .int .i64 0, .int .i64 0, .int .i64 0, .int .i64 0, .int .i64 0] 31) from rfl] at hH4 hb5
    generalize (w3.alloc (.cells #[.int .i64 0, .int .i64 0, .int .i64 0, .int .i64 0, .int .i64 0, .int .i64 0, .int .i64 0, .int .i64 0, .int .i64 0, .int .i64 0, .int .i64 0, .int .i64 0, .int .i64 0, .int .i64 0, .int .i64 0, .int .i64 0, .int .i64 0, .int .i64 0, .int .i64 0, .int .i64 0] 31)).setRow w3.heap.size (hitC sp00) = w4 at *
    clear hE0 hG0 hnull hAt hRe3 hRe hb0 hb4
    generalize hCC : hitC sp00 = C0 at *
    replace hCC := Lib.hid hCC
    generalize w3.heap.size = H at *
    go_wp2_with (first
      | (refine wpList_load_row rfl 31 (.tmp 7) rfl H rfl 31 _ (0, 0) _ hH4.out Try.underlying31 rfl (by rw [hsz.out]; exact size_hit) ?_)
      | (refine wpList_build_hit0 rfl rfl C0 hCC.out ?_)
      | (go_at_call 7; refine (hW.out _).mono ?_; rintro e w6 ⟨rfl, hb6⟩))
    go_ret
    exact ⟨rfl, hb5.out.trans (hb6.mono hb5.out.size)⟩
  · obtain ⟨e1, e2, e3, e4⟩ := hsp
    have hH4 := Lib.hid (hnull.out.row (hitC mm))
    have hb5 := Lib.hid (below_row (hb4.out.alloc hb4.out.size (.cells (hitC sp00) 31)) hb4.out.size (hitC mm))
    have hRe4 := Lib.hid (((hRe3.out).alloc (.cells (hitC sp00) 31)).row_far (g' := w3.heap.size) (by have := hRe3.out.lt; omega) (hitC mm))
    have hRH := Lib.hid (show W.heap.size ≤ w3.heap.size from hb4.out.size)
    rw [show (w3.alloc (.cells (hitC sp00) 31)) = w3.alloc (.cells #[.int .i64 0, .int .i64 0, .int .i64 0, .int .i64 0, .int .i64 0, .int .i64 0, .int .i64 0, .int .i64 0, .int .i64 0, .int .i64 0, .int .i64 0, .int .i64 0, .int .i64 0, .int .i64 0, .int .i64 0, .int .i64 0, .int .i64 0, .int .i64 0, .int .i64 0, .int .i64 0] 31) from rfl] at hH4 hb5 hRe4
    generalize (w3.alloc (.cells #[.int .i64 0, .int .i64 0, .int .i64 0, .int .i64 0, .int .i64 0, .int .i64 0, .int .i64 0, .int .i64 0, .int .i64 0, .int .i64 0, .int .i64 0, .int .i64 0, .int .i64 0, .int .i64 0, .int .i64 0, .int .i64 0, .int .i64 0, .int .i64 0, .int .i64 0, .int .i64 0] 31)).setRow w3.heap.size (hitC mm) = w4 at *
    have v0 : w4.cell? ⟨w3.heap.size, 0, none⟩ = some (.int .i64 at_) := by rw [← e1]; exact hH4.out.at_ rfl
    have v1 : w4.cell? ⟨w3.heap.size, 1, none⟩ = some (.int .i64 (mm 0).2) := hH4.out.at_ rfl
    have hn22 := hn2'.out
    have g1' : ¬ (mm 0).2 < at_ := by omega
    have g2' : ¬ (n2 : Int) < (mm 0).2 := by omega
    have hm0 := Lib.hid (fun (wr : World) (h : Held wr w3.heap.size 31 (hitC mm)) k (hk : k < 10) => held_from h hk)
    have hm1 := Lib.hid (fun (wr : World) (h : Held wr w3.heap.size 31 (hitC mm)) => show wr.cell? ⟨w3.heap.size, 1, none⟩ = some (.int .i64 (mm 0).2) from h.at_ rfl)
    clear hE0 hG0 hnull hAt hRe3 hRe hb0 hb4 hn22 e2 e3 e1
    generalize hitC mm = CM at *
    generalize hH : w3.heap.size = H at *
    generalize (mm 0).2 = eo at *
    replace e4 := Lib.hid e4
    replace hH := Lib.hid hH
    go_wp2
    go_loopw [11] (RelS W H W.heap.size CM A1 n1 c1 g1) (fun i _ => 10 - (intOf i).toNat)
    case atStart => exact RelS.mk ⟨1, by decide, by decide, rfl, hH4.out, hRe4.out, hb5.out⟩
    case round =>
      obtain ⟨k, hk1, hk, rfl, hHr, hRr, hbr⟩ := hrel
      clear v0 v1 hH4 hRe4 hb5
      by_cases hlt : k < 10
      · obtain ⟨p0, p1⟩ := hm0.out wr hHr k hlt
        have q1 := hm1.out wr hHr
        have q2 : wr.cell? ⟨W.heap.size, 1, none⟩ = some (.int .i64 g1) := hRr.at_ rfl
        have hK := Lib.hid (fun o : Obj => show Held (wr.alloc o) H 31 CM ∧ Held (wr.alloc o) W.heap.size 24 #[.slice A1 n1 c1, .int .i64 g1] ∧ Below W.heap.size W (wr.alloc o) from ⟨hHr.alloc o, hRr.alloc o, hbr.alloc hbr.size o⟩)
        have k0 : (0 : Int) ≤ (k : Int) := by omega
        have k10 : (k : Int) < 10 := by omega
        have hHl := hHr.lt
        have hRl := hRr.lt
        clear hHr hRr hbr
        rcases e4.out k hk1 with e5 | ⟨y1, y2, y3, y4⟩
        · rw [e5] at p0 p1
          replace e5 := Lib.hid e5
          clear g1' g2'
          go_wp2
          go_roundw
          case rel => exact RelS.mk ⟨k + 1, by omega, by omega, by go_num, (hK.out _).1, (hK.out _).2.1, (hK.out _).2.2⟩
          case measure => simp [intOf]; omega
        · generalize (mm k).1 = x at *
          generalize (mm k).2 = y at *
          have z1 : (x == -1) = false := by rw [beq_eq_false_iff_ne]; omega
          have z2 : decide (g1 < (k : Int)) = false := decide_eq_false (by omega)
          have z2' : ¬ g1 < (k : Int) := by omega
          have z3 : ¬ x < at_ := by omega
          have z4 : ¬ y < x := by omega
          have z5 : ¬ eo < y := by omega
          replace y1 := Lib.hid y1
          replace y2 := Lib.hid y2
          replace y3 := Lib.hid y3
          replace y4 := Lib.hid y4
          clear g1' g2'
          go_wp2
          go_roundw
          case rel => exact RelS.mk ⟨k + 1, by omega, by omega, by go_num, (hK.out _).1, (hK.out _).2.1, (hK.out _).2.2⟩
          case measure => simp [intOf]; omega
      · obtain rfl : k = 10 := by omega
        have hbr' := Lib.hid hbr
        clear hHr hRr hbr
        go_wp2_with (go_at_call 7; refine (hW.out _).mono ?_; rintro e w6 ⟨rfl, hb6⟩)
        go_ret
        exact ⟨rfl, hbr'.out.trans (hb6.mono hbr'.out.size)⟩
theorem contract (H : Type) (enc : TypeId × Value → H) (W : World) (base : Nat) (args : Array Value) (ds gs : List (DataW H)) (before : List MemPlace)
    (hval : ∀ (j : Nat) t v, Try.f6.params[j]? = some t → args[j]? = some v → Value.okWide Try.prog W .any base t v)
    (hW : DataW.Whole enc Try.prog Try.f6.params.toList Rows.matchSpansSpec.vars false W args.toList ds gs before) :
    Calls Try.prog 6 args W fun e W' => ∃ v, e = .returned v ∧ Rows.matchSpansSpec.post enc Try.prog Try.f6 false true false false W args v W' := by
  have hW' := hW
  obtain ⟨p, q, hA, hV, rfl, hfz, hnd⟩ := hW
  rw [Try.params6] at hA hval
  obtain ⟨v0, vs0, d0, ds0, p0, q0, hargs, rfl, rfl, h0, r0⟩ := trodAll_cons hA
  obtain ⟨v1, vs1, d1, ds1, p1, q1, rfl, rfl, rfl, h1, r1⟩ := trodAll_cons r0
  obtain ⟨v2, vs2, d2, ds2, p2, q2, rfl, rfl, rfl, h2, r2⟩ := trodAll_cons r1
  obtain ⟨rfl, rfl, rfl⟩ := trodAll_nil r2
  obtain rfl : args = #[v0, v1, v2] := by cases args; simp_all
  obtain ⟨rfl, rfl⟩ := trodVars_none hV
  obtain ⟨A0, n0, c0, l0, g0, rfl, e0, k0, m0, x0⟩ := open_re (hval 0 24 v0 rfl rfl) h0
  obtain ⟨A1, n1, c1, l1, rfl, e1, k1, m1, x1⟩ := open_byt Try.underlying25 Try.underlying5 (by kernel_rfl) (hval 1 25 v1 rfl rfl) h1
  obtain ⟨a2, rfl, rfl, rfl, w2⟩ := open_int Try.underlying3 (hval 2 3 v2 rfl rfl) h2
  exact (core W A0 n0 c0 l0 g0 e0 k0 m0 x0 A1 n1 c1 l1 e1 k1 m1 x1 a2 w2).mono fun e W' ⟨he, hb⟩ => ⟨_, he, law_post hW' rfl (by kernel_rfl) (by kernel_rfl) rfl hb⟩

theorem laid_met (os : Os) : laidMetH Try.prog Rows.matchSpansRow.laid ((World.doorLaid Try.prog 4000 os).forCall (fun _ _ => 0) ⟨#[], #[.agg #[.slice none 0 0, .int .i64 0], .slice none 0 0, .int .i64 0], []⟩).memory :=
  laidMetH_of_parts3 (fuel := 8) (laidMet_of_run' 8 (by kernel_rfl) (by kernel_rfl)) (by kernel_rfl) (by kernel_rfl)
theorem reads (os : Os) {H : Type} (enc : TypeId × Value → H) : ∃ places, DataW.whole enc Try.prog ((World.doorLaid Try.prog 4000 os).forCall (fun _ _ => 0) ⟨#[], #[.agg #[.slice none 0 0, .int .i64 0], .slice none 0 0, .int .i64 0], []⟩).memory Try.f6.params.toList Rows.matchSpansSpec.vars false #[Value.agg #[.slice none 0 0, .int .i64 0], .slice none 0 0, .int .i64 0].toList 8 = some ([.agg [.nil, .lit (.int .i64 0)], .nil, .lit (.int .i64 0)], [], places) :=
  ⟨[], by kernel_rfl⟩

set_option maxRecDepth 100000 in
theorem lifted (os : Os) (started : os.Started) (H : Type) (enc : TypeId × Value → H) (F : Stop.Interp) :
    ReturnsInHanded {} Try.checked os 6 .any ((OpenSpec.ofChange Rows.matchSpansSpec).preRow enc Try.prog Try.f6 Rows.matchSpansRow.domain false Rows.matchSpansRow.laid) (((OpenSpec.ofChange Rows.matchSpansSpec).at F).post enc Try.prog Try.f6 false true false false) := by
  obtain ⟨places, hx⟩ := reads os enc
  refine returnsInHanded_of_row (C := Try.checked) (s := (OpenSpec.ofChange Rows.matchSpansSpec)) own started (by kernel_rfl) Try.func6
    (witness_row_at (enc := enc) (C := Try.checked) false (World.doorLaid Try.prog 4000 os) #[.agg #[.slice none 0 0, .int .i64 0], .slice none 0 0, .int .i64 0] rfl (by kernel_rfl) (by kernel_rfl) (by kernel_rfl)
      (OpenSpec.preRow_of_cond 8 hx (by kernel_rfl) (fun k hk => by cases hk) (by kernel_rfl) (laid_met os))) ?_
  intro W base args ds gs before hval hW _ _ _ _ _ _
  exact contract H enc W base args ds gs before hval hW

theorem said : Rows.MatchSpansSaid :=
  OpenClaim.holds_of_cond 6 Try.f6 rfl rfl rfl rfl rfl rfl rfl ⟨rfl, rfl, rfl, rfl, rfl⟩ rfl rfl rfl rfl rfl (by kernel_rfl) Try.func6 (by kernel_rfl)
    (of_decide_eq_true (by kernel_rfl)) (by unfold Func.isWrapper; first | (rw [if_pos (by decide +kernel)]; kernel_rfl) | (rw [if_neg (by decide +kernel)]; exact ⟨rfl, rfl⟩))
    (fun os started H enc _ F => by rw [OpenClaim.pre_eq_preRow]; exact lifted os started H enc F)

end Go.Proofs.Ytbgalmnhhjiagaa.Spn
