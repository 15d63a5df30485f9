/- MatchFuel answers true at every regular expression, text, place and number, and they read afterwards as they read before. Conditions: none. -/
import Derived.Test.YtbgalmnhhjiagaaM01
import Derived.Test.YtbgalmnhhjiagaaM54
import Derived.Test.YtbgalmnhhjiagaaM55
set_option linter.unusedVariables false
set_option linter.unusedSimpArgs false
set_option maxRecDepth 100000
namespace Go.Proofs.Ytbgalmnhhjiagaa.Fuel
open Go.ChangeShapes Go.WideShapes Go.ChangeAt Go.RowKit

theorem bounds_u16 {x : Int} (h : (Lit.int .u16 x).wf = true) : 0 ≤ x ∧ x ≤ 65535 := by
  simpa [Lit.wf, IntKind.min, IntKind.max, IntKind.signed, IntKind.bits] using h
/-- What is told at another fuel. -/
theorem at_some {ns : List Nod} {g : Int} {t : List UInt8} {at_ f0 fuel : Int} {e : Ending} {b : Option Spn} {q : Nat} (hok : rightN ns g = true ∧ (0 ≤ at_ ∧ at_ ≤ t.length) ∧ 0 ≤ f0) (hf : 0 ≤ fuel) (hT : Told11 ns t ((ns.length : Int) - 1) at_.toNat fuel (some (b, (q : Int)))) (h : AtP ns g t at_ fuel e) : e = .returned (.tuple #[.agg (hitC (ansS b)), .bool b.isSome, .int .i64 (q : Int), .int .i64 0]) := by
  cases h with
  | arg h => exact absurd ⟨hok.1, hok.2.1, hf⟩ h
  | fuel h hx => have := hx.det hT; cases this
  | @fine _ b' left hx =>
    have h1 := Option.some.inj (hx.det hT)
    simp only [Prod.mk.injEq] at h1
    obtain ⟨rfl, h2⟩ := h1
    rw [h2]
theorem at_none {ns : List Nod} {g : Int} {t : List UInt8} {at_ f0 fuel : Int} {e : Ending} (hok : rightN ns g = true ∧ (0 ≤ at_ ∧ at_ ≤ t.length) ∧ 0 ≤ f0) (hf : 0 ≤ fuel) (hT : Told11 ns t ((ns.length : Int) - 1) at_.toNat fuel none) (h : AtP ns g t at_ fuel e) : e = .returned (.tuple #[.agg (hitC sp00), .bool false, .int .i64 0, .int .i64 18]) := by
  cases h with
  | arg h => exact absurd ⟨hok.1, hok.2.1, hf⟩ h
  | fuel h hx => rfl
  | @fine _ b' left hx => have := hx.det hT; cases this
/-- At's answers, as the law parts them. -/
theorem at_parts {ns : List Nod} {g : Int} {t : List UInt8} {at_ : Int} {e : Ending} (h : AtP ns g t at_ 2000 e) : (∃ z : Int, e = .returned (.tuple #[.agg (hitC sp00), .bool false, .int .i64 z, .int .i64 1])) ∨ (∃ z : Int, e = .returned (.tuple #[.agg (hitC sp00), .bool false, .int .i64 z, .int .i64 18])) ∨ (∃ (left : Nat) (b : Option Spn), e = .returned (.tuple #[.agg (hitC (ansS b)), .bool b.isSome, .int .i64 (left : Int), .int .i64 0]) ∧ (rightN ns g = true ∧ (0 ≤ at_ ∧ at_ ≤ t.length) ∧ 0 ≤ (2000 : Int)) ∧ Told11 ns t ((ns.length : Int) - 1) at_.toNat 2000 (some (b, (left : Int)))) := by
  cases h with
  | arg => exact .inl ⟨_, rfl⟩
  | fuel => exact .inr (.inl ⟨_, rfl⟩)
  | @fine hok b left hx => exact .inr (.inr ⟨left, b, rfl, hok, hx⟩)
theorem wpList_load_hit {ops : Array Oper} {rest : List Oper} {o : Oper} {a : Act} {w : World} {Q : Exit → Act → World → Prop} (hw : Region.wanted o (yielded ops a.tmps) = true) (x : Operand) (ho : o.op = .load 31 x) (H : Nat) (hx : a.eval x = .pointer (some ⟨H, 0, none⟩)) (C : Array Value) (hs : C.size = 20) (hh : Held w H 31 C)
    (h : wpList Try.prog ops Q rest (a.put o.dst (.agg C)) w) : wpList Try.prog ops Q (o :: rest) a w :=
  wpList_step fun K hK => by
    simp only [hw, if_true]
    exact wp_load_mid 31 x ho H 0 hx C.toList _ hh.range Try.underlying31 rfl (by rw [Array.length_toList, hs]; exact size_hit) (hK _ _ h)
set_option maxHeartbeats 16000000 in
theorem core (W : World) (A1 : Option Addr) (n1 c1 : Nat) (l1 : List Nod) (g1 : Int) (hn1 : n1 = l1.length) (hc1 : n1 ≤ c1) (hm1 : c1 ≤ maxLen) (h1 : Nods W W.heap.size A1 l1)
    (A2 : Option Addr) (n2 c2 : Nat) (l2 : List UInt8) (hn2 : n2 = l2.length) (hc2 : n2 ≤ c2) (hm2 : c2 ≤ maxLen) (h2 : Byt W W.heap.size A2 l2) (at_ : Int) (hat : (Lit.int .i64 at_).wf = true) (mo : Int) (hmo : (Lit.int .u16 mo).wf = true) :
    Calls Try.prog 5 #[.agg #[.slice A1 n1 c1, .int .i64 g1], .slice A2 n2 c2, .int .i64 at_, .int .u16 mo] W fun e W' => e = .returned (.bool true) ∧ Below W.heap.size W W' := by
  have hW := Lib.hid awake11_any
  obtain ⟨mo0, mo1⟩ := bounds_u16 hmo
  obtain ⟨q, rfl⟩ := Int.eq_ofNat_of_zero_le mo0
  clear hat hmo mo0
  have hb0 := Lib.hid ((Below.refl W.heap.size W).alloc (Nat.le_refl _) (.cells #[.slice A1 n1 c1, .int .i64 g1] 24))
  by_cases hbig : 40 < n1
  · clear hn1 h1 hn2 h2
    unfold maxLen at hm1 hm2
    go_enter Try.func5, Try.ntmps5
    go_wp2_with (go_at_call 7; refine (hW.out _).mono ?_; rintro e w1 ⟨rfl, hb1⟩)
    go_ret
    exact ⟨rfl, hb0.out.trans (hb1.mono hb0.out.size)⟩
  by_cases hbig2 : 12 < n2
  · clear hn1 h1 hn2 h2
    unfold maxLen at hm1 hm2
    go_enter Try.func5, Try.ntmps5
    go_wp2_with (go_at_call 7; refine (hW.out _).mono ?_; rintro e w1 ⟨rfl, hb1⟩)
    go_ret
    exact ⟨rfl, hb0.out.trans (hb1.mono hb0.out.size)⟩
  have hRe := Lib.hid (held_new W 24 #[.slice A1 n1 c1, .int .i64 g1])
  have hAtW := Lib.hid (fun (w' : World) (hb : Below W.heap.size W w') (fuel : Int) (hf : fuel ≤ 999999) => mat_any (g := g1) (at_ := at_) (fuel := fuel) (show AtIn w' W.heap.size A1 n1 c1 A2 n2 c2 l1 l2 from ⟨hn1, hc1, hm1, hb.size, h1.below hb, hn2, hc2, hm2, by omega, h2.below hb⟩) hf)
  have hAt := Lib.hid (hAtW.out _ hb0.out 2000 (by decide))
  clear h1 h2 hn2 hm1 hm2 hn1
  have hE0 := hit_eql
  have hG0 := hit_guard
  go_enter Try.func5, Try.ntmps5
  go_upto_region 4 with (first
    | (go_at_call 8; refine (hAt.out).mono ?_; rintro e w3 ⟨hP, hb3⟩; have hRe3 := Lib.hid (hRe.out.keep hb3); have hb4 := Lib.hid (hb0.out.trans (hb3.mono hb0.out.size)); have hnull := Lib.hid (held_new w3 31 (hitC sp00)); have hpp := at_parts hP; clear hb3 hP; rcases hpp with ⟨zz, rfl⟩ | ⟨zz, rfl⟩ | ⟨left, b, rfl, hok, hx⟩)
    | (refine wpList_store_row rfl 31 (.tmp 9) (.tmp 37) rfl w3.heap.size (hitC sp00) rfl rfl 31 _ hnull.out (by rw [hitC_size]; exact size_hit) rfl (hit_cells _) ?_)
    | (refine wpList_store_row rfl 31 (.tmp 9) (.tmp 37) rfl w3.heap.size (hitC (ansS b)) rfl rfl 31 _ hnull.out (by rw [hitC_size]; exact size_hit) rfl (hit_cells _) ?_))
  · have hb5 := Lib.hid (below_row (hb4.out.alloc hb4.out.size (.cells (hitC sp00) 31)) hb4.out.size (hitC sp00))
    rw [show (w3.alloc (.cells (hitC sp00) 31)) = w3.alloc (.cells #[.int .i64 0, .int .i64 0, .int .i64 0, .int .i64 0, .int .i64 0, .int .i64 0, .int .i64 0, .int .i64 0, .int .i64 0, .int .i64 0, .int .i64 0, .int .i64 0, .int .i64 0, .int .i64 0, .int .i64 0, .int .i64 0, .int .i64 0, .int .i64 0, .int .i64 0, .int .i64 0] 31) from rfl] at hb5
    generalize (w3.alloc (.cells #[.int .i64 0, .int .i64 0, .int .i64 0, .int .i64 0, .int .i64 0, .int .i64 0, .int .i64 0, .int .i64 0, .int .i64 0, .int .i64 0, .int .i64 0, .int .i64 0, .int .i64 0, .int .i64 0, .int .i64 0, .int .i64 0, .int .i64 0, .int .i64 0, .int .i64 0, .int .i64 0] 31)).setRow w3.heap.size (hitC sp00) = w4 at *
    clear hE0 hG0 hnull hAt hRe3 hRe hb0 hb4 hAtW
    generalize hitC sp00 = C0 at *
    go_wp2_with (go_at_call 7; refine (hW.out _).mono ?_; rintro e w6 ⟨rfl, hb6⟩)
    go_ret
    exact ⟨rfl, hb5.out.trans (hb6.mono hb5.out.size)⟩
  · have hb5 := Lib.hid (below_row (hb4.out.alloc hb4.out.size (.cells (hitC sp00) 31)) hb4.out.size (hitC sp00))
    rw [show (w3.alloc (.cells (hitC sp00) 31)) = w3.alloc (.cells #[.int .i64 0, .int .i64 0, .int .i64 0, .int .i64 0, .int .i64 0, .int .i64 0, .int .i64 0, .int .i64 0, .int .i64 0, .int .i64 0, .int .i64 0, .int .i64 0, .int .i64 0, .int .i64 0, .int .i64 0, .int .i64 0, .int .i64 0, .int .i64 0, .int .i64 0, .int .i64 0] 31) from rfl] at hb5
    generalize (w3.alloc (.cells #[.int .i64 0, .int .i64 0, .int .i64 0, .int .i64 0, .int .i64 0, .int .i64 0, .int .i64 0, .int .i64 0, .int .i64 0, .int .i64 0, .int .i64 0, .int .i64 0, .int .i64 0, .int .i64 0, .int .i64 0, .int .i64 0, .int .i64 0, .int .i64 0, .int .i64 0, .int .i64 0] 31)).setRow w3.heap.size (hitC sp00) = w4 at *
    clear hE0 hG0 hnull hAt hRe3 hRe hb0 hb4 hAtW
    generalize hitC sp00 = C0 at *
    go_wp2_with (go_at_call 7; refine (hW.out _).mono ?_; rintro e w6 ⟨rfl, hb6⟩)
    go_ret
    exact ⟨rfl, hb5.out.trans (hb6.mono hb5.out.size)⟩
  · obtain ⟨m1, m2, m3⟩ := hx.more (2000 - (left : Int) + (q : Int))
    obtain ⟨-, n2', -⟩ := hx.more (2000 - (left : Int) - 1)
    have hT2 := m1 (by omega)
    rw [show 2000 - (left : Int) + (q : Int) - (2000 - (left : Int)) = (q : Int) by omega] at hT2
    have hT3 := n2' (by omega)
    have hle : (left : Int) ≤ 2000 := by omega
    obtain ⟨cst, hcst⟩ : ∃ cst : Int, cst = 2000 - (left : Int) := ⟨_, rfl⟩
    rw [← hcst] at hT2 hT3 m3
    have hw1 : IntKind.i64.wrap (2000 - (left : Int)) = cst := by rw [hcst]; exact IntWalk.i64_in _ (by omega)
    have hw2 : IntKind.i64.wrap (cst + (q : Int)) = cst + (q : Int) := IntWalk.i64_in _ (by omega)
    have hw3 : IntKind.i64.wrap (cst - 1) = cst - 1 := IntWalk.i64_in _ (by omega)
    have hX2 := Lib.hid (fun e (h : AtP l1 g1 l2 at_ (cst + (q : Int)) e) => at_some hok (by omega) hT2 h)
    have hX3 := Lib.hid (fun e (h : AtP l1 g1 l2 at_ (cst - 1) e) => at_none hok (by omega) hT3 h)
    have hf2 := Lib.hid (show cst + (q : Int) ≤ 999999 by omega)
    have hf3 := Lib.hid (show cst - 1 ≤ 999999 by omega)
    have hd1 : decide (1 ≤ cst) = true := decide_eq_true m3
    have hH4 := Lib.hid (hnull.out.row (hitC (ansS b)))
    have hb5 := Lib.hid (below_row (hb4.out.alloc hb4.out.size (.cells (hitC sp00) 31)) hb4.out.size (hitC (ansS b)))
    have hRe4 := Lib.hid (((hRe3.out).alloc (.cells (hitC sp00) 31)).row_far (g' := w3.heap.size) (by have := hRe3.out.lt; omega) (hitC (ansS b)))
    have hEq : ∀ w, (binOp .eql 31 (.agg (hitC (ansS b))) (.agg (hitC (ansS b)))).run Try.prog w = .ok (.bool true) w := fun w => by
      have := hE0 w (ansS b) (ansS b)
      rw [same10B_self] at this
      exact this
    have hGq : ∀ op p q w, (eqGuard op 31 p q (.agg (hitC (ansS b))) (.agg (hitC (ansS b)))).run Try.prog w = .ok () w := fun op p q w => hG0 w op p q (ansS b) (ansS b)
    have hsz := Lib.hid (hitC_size (ansS b))
    have hone := Lib.hid (hit_cells (ansS b))
    have hs0 := Lib.hid (hitC_size sp00)
    have ho0 := Lib.hid (hit_cells sp00)
    have hnw := Lib.hid (fun (w : World) => show Held (w.alloc (.cells #[.int .i64 0, .int .i64 0, .int .i64 0, .int .i64 0, .int .i64 0, .int .i64 0, .int .i64 0, .int .i64 0, .int .i64 0, .int .i64 0, .int .i64 0, .int .i64 0, .int .i64 0, .int .i64 0, .int .i64 0, .int .i64 0, .int .i64 0, .int .i64 0, .int .i64 0, .int .i64 0] 31)) w.heap.size 31 #[.int .i64 0, .int .i64 0, .int .i64 0, .int .i64 0, .int .i64 0, .int .i64 0, .int .i64 0, .int .i64 0, .int .i64 0, .int .i64 0, .int .i64 0, .int .i64 0, .int .i64 0, .int .i64 0, .int .i64 0, .int .i64 0, .int .i64 0, .int .i64 0, .int .i64 0, .int .i64 0] from held_new w _ _)
    have hzs := Lib.hid (show (#[.int .i64 0, .int .i64 0, .int .i64 0, .int .i64 0, .int .i64 0, .int .i64 0, .int .i64 0, .int .i64 0, .int .i64 0, .int .i64 0, .int .i64 0, .int .i64 0, .int .i64 0, .int .i64 0, .int .i64 0, .int .i64 0, .int .i64 0, .int .i64 0, .int .i64 0, .int .i64 0] : Array Value).size = 20 from rfl)
    rw [show (w3.alloc (.cells (hitC sp00) 31)) = w3.alloc (.cells #[.int .i64 0, .int .i64 0, .int .i64 0, .int .i64 0, .int .i64 0, .int .i64 0, .int .i64 0, .int .i64 0, .int .i64 0, .int .i64 0, .int .i64 0, .int .i64 0, .int .i64 0, .int .i64 0, .int .i64 0, .int .i64 0, .int .i64 0, .int .i64 0, .int .i64 0, .int .i64 0] 31) from rfl] at hH4 hb5 hRe4
    generalize (w3.alloc (.cells #[.int .i64 0, .int .i64 0, .int .i64 0, .int .i64 0, .int .i64 0, .int .i64 0, .int .i64 0, .int .i64 0, .int .i64 0, .int .i64 0, .int .i64 0, .int .i64 0, .int .i64 0, .int .i64 0, .int .i64 0, .int .i64 0, .int .i64 0, .int .i64 0, .int .i64 0, .int .i64 0] 31)).setRow w3.heap.size (hitC (ansS b)) = w4 at *
    have r0 : w4.cell? ⟨W.heap.size, 0, none⟩ = some (.slice A1 n1 c1) := hRe4.out.at_ rfl
    have r1 : w4.cell? ⟨W.heap.size, 1, none⟩ = some (.int .i64 g1) := hRe4.out.at_ rfl
    clear hE0 hG0 hnull hAt hRe3 hRe hb0 hb4 hx hok m1 m2 n2' hT2 hT3 m3 hle
    replace hcst := Lib.hid hcst
    generalize hitC (ansS b) = CM at *
    generalize hitC sp00 = C0 at *
    generalize b.isSome = bs at *
    generalize w3.heap.size = H at *
    have hbs : (bs == bs) = true := by cases bs <;> rfl
    go_wp2_with (first
      | (have _h := hb9; go_at_call 8; refine (hAtW.out w8 hb9.out (cst - 1) hf3.out).mono ?_; rintro e w9 ⟨hP, hb10⟩; obtain rfl := hX3.out _ hP; have hH10 := Lib.hid (hH9.out.keep hb10); have hK10 := Lib.hid (hK9.out.keep hb10); have hb11 := Lib.hid (hb9.out.trans (hb10.mono hb9.out.size)); clear hP hb10)
      | (go_at_call 8; refine (hAtW.out w4 hb5.out (cst + (q : Int)) hf2.out).mono ?_; rintro e w6 ⟨hP, hb6⟩; obtain rfl := hX2.out _ hP; have hRe6 := Lib.hid (hRe4.out.keep hb6); have hH6 := Lib.hid (hH4.out.keep hb6); have hb7 := Lib.hid (hb5.out.trans (hb6.mono hb5.out.size)); clear hP hb6)
      | (have _h := hb7; refine wpList_store_row rfl 31 (.tmp 14) (.tmp 55) rfl w6.heap.size CM rfl rfl 31 _ (hnw.out w6) (by rw [hsz.out]; exact size_hit) (by rw [hsz.out]; rfl) hone.out ?_; have hK9 := Lib.hid ((hnw.out w6).row CM); have hH9 := Lib.hid (((hH6.out).alloc (.cells #[.int .i64 0, .int .i64 0, .int .i64 0, .int .i64 0, .int .i64 0, .int .i64 0, .int .i64 0, .int .i64 0, .int .i64 0, .int .i64 0, .int .i64 0, .int .i64 0, .int .i64 0, .int .i64 0, .int .i64 0, .int .i64 0, .int .i64 0, .int .i64 0, .int .i64 0, .int .i64 0] 31)).row_far (g' := w6.heap.size) (by have := hH6.out.lt; omega) CM); have hRe8 := Lib.hid (((hRe6.out).alloc (.cells #[.int .i64 0, .int .i64 0, .int .i64 0, .int .i64 0, .int .i64 0, .int .i64 0, .int .i64 0, .int .i64 0, .int .i64 0, .int .i64 0, .int .i64 0, .int .i64 0, .int .i64 0, .int .i64 0, .int .i64 0, .int .i64 0, .int .i64 0, .int .i64 0, .int .i64 0, .int .i64 0] 31)).row_far (g' := w6.heap.size) (by have := hRe6.out.lt; omega) CM); have hb9 := Lib.hid (below_row (hb7.out.alloc hb7.out.size (.cells #[.int .i64 0, .int .i64 0, .int .i64 0, .int .i64 0, .int .i64 0, .int .i64 0, .int .i64 0, .int .i64 0, .int .i64 0, .int .i64 0, .int .i64 0, .int .i64 0, .int .i64 0, .int .i64 0, .int .i64 0, .int .i64 0, .int .i64 0, .int .i64 0, .int .i64 0, .int .i64 0] 31)) hb7.out.size CM); generalize hw8 : (w6.alloc (.cells #[.int .i64 0, .int .i64 0, .int .i64 0, .int .i64 0, .int .i64 0, .int .i64 0, .int .i64 0, .int .i64 0, .int .i64 0, .int .i64 0, .int .i64 0, .int .i64 0, .int .i64 0, .int .i64 0, .int .i64 0, .int .i64 0, .int .i64 0, .int .i64 0, .int .i64 0, .int .i64 0] 31)).setRow w6.heap.size CM = w8 at *; clear hw8; have r80 : w8.cell? ⟨W.heap.size, 0, none⟩ = some (.slice A1 n1 c1) := hRe8.out.at_ rfl; have r81 : w8.cell? ⟨W.heap.size, 1, none⟩ = some (.int .i64 g1) := hRe8.out.at_ rfl; generalize w6.heap.size = K at *)
      | (have _h := hb11; refine wpList_store_row rfl 31 (.tmp 18) (.tmp 66) rfl w9.heap.size C0 rfl rfl 31 _ (hnw.out w9) (by rw [hs0.out]; exact size_hit) (by rw [hs0.out]; rfl) ho0.out ?_; have hK12 := Lib.hid (((hK10.out).alloc (.cells #[.int .i64 0, .int .i64 0, .int .i64 0, .int .i64 0, .int .i64 0, .int .i64 0, .int .i64 0, .int .i64 0, .int .i64 0, .int .i64 0, .int .i64 0, .int .i64 0, .int .i64 0, .int .i64 0, .int .i64 0, .int .i64 0, .int .i64 0, .int .i64 0, .int .i64 0, .int .i64 0] 31)).row_far (g' := w9.heap.size) (by have := hK10.out.lt; omega) C0); have hH12 := Lib.hid (((hH10.out).alloc (.cells #[.int .i64 0, .int .i64 0, .int .i64 0, .int .i64 0, .int .i64 0, .int .i64 0, .int .i64 0, .int .i64 0, .int .i64 0, .int .i64 0, .int .i64 0, .int .i64 0, .int .i64 0, .int .i64 0, .int .i64 0, .int .i64 0, .int .i64 0, .int .i64 0, .int .i64 0, .int .i64 0] 31)).row_far (g' := w9.heap.size) (by have := hH10.out.lt; omega) C0); have hb12 := Lib.hid (below_row (hb11.out.alloc hb11.out.size (.cells #[.int .i64 0, .int .i64 0, .int .i64 0, .int .i64 0, .int .i64 0, .int .i64 0, .int .i64 0, .int .i64 0, .int .i64 0, .int .i64 0, .int .i64 0, .int .i64 0, .int .i64 0, .int .i64 0, .int .i64 0, .int .i64 0, .int .i64 0, .int .i64 0, .int .i64 0, .int .i64 0] 31)) hb11.out.size C0); generalize hw12 : (w9.alloc (.cells #[.int .i64 0, .int .i64 0, .int .i64 0, .int .i64 0, .int .i64 0, .int .i64 0, .int .i64 0, .int .i64 0, .int .i64 0, .int .i64 0, .int .i64 0, .int .i64 0, .int .i64 0, .int .i64 0, .int .i64 0, .int .i64 0, .int .i64 0, .int .i64 0, .int .i64 0, .int .i64 0] 31)).setRow w9.heap.size C0 = w12 at *; clear hw12)
      | (have _h := hb12; refine wpList_load_hit (by rfl) (.tmp 9) rfl H rfl CM hsz.out hH12.out ?_)
      | (have _h := hb12; refine wpList_load_hit (by rfl) (.tmp 14) rfl K rfl CM hsz.out hK12.out ?_)
      | (go_at_call 7; refine (hW.out _).mono ?_; rintro e w13 ⟨rfl, hb13⟩))
    go_ret
    exact ⟨rfl, hb12.out.trans (hb13.mono hb12.out.size)⟩
theorem contract (H : Type) (enc : TypeId × Value → H) (W : World) (base : Nat) (args : Array Value) (ds gs : List (DataW H)) (before : List MemPlace)
    (hval : ∀ (j : Nat) t v, Try.f5.params[j]? = some t → args[j]? = some v → Value.okWide Try.prog W .any base t v)
    (hW : DataW.Whole enc Try.prog Try.f5.params.toList Rows.matchFuelSpec.vars false W args.toList ds gs before) :
    Calls Try.prog 5 args W fun e W' => ∃ v, e = .returned v ∧ Rows.matchFuelSpec.post enc Try.prog Try.f5 false true false false W args v W' := by
  have hW' := hW
  obtain ⟨p, q, hA, hV, rfl, hfz, hnd⟩ := hW
  rw [Try.params5] at hA hval
  obtain ⟨v0, vs0, d0, ds0, p0, q0, hargs, rfl, rfl, h0, r0⟩ := trodAll_cons hA
  obtain ⟨v1, vs1, d1, ds1, p1, q1, rfl, rfl, rfl, h1, r1⟩ := trodAll_cons r0
  obtain ⟨v2, vs2, d2, ds2, p2, q2, rfl, rfl, rfl, h2, r2⟩ := trodAll_cons r1
  obtain ⟨v3, vs3, d3, ds3, p3, q3, rfl, rfl, rfl, h3, r3⟩ := trodAll_cons r2
  obtain ⟨rfl, rfl, rfl⟩ := trodAll_nil r3
  obtain rfl : args = #[v0, v1, v2, v3] := by cases args; simp_all
  obtain ⟨rfl, rfl⟩ := trodVars_none hV
  obtain ⟨A0, n0, c0, l0, g0, rfl, e0, k0, m0, x0⟩ := open_re (hval 0 24 v0 rfl rfl) h0
  obtain ⟨A1, n1, c1, l1, rfl, e1, k1, m1, x1⟩ := open_byt Try.underlying25 Try.underlying5 (by kernel_rfl) (hval 1 25 v1 rfl rfl) h1
  obtain ⟨a2, rfl, rfl, rfl, w2⟩ := open_int Try.underlying3 (hval 2 3 v2 rfl rfl) h2
  obtain ⟨a3, rfl, rfl, rfl, w3⟩ := open_int Try.underlying42 (hval 3 42 v3 rfl rfl) h3
  exact (core W A0 n0 c0 l0 g0 e0 k0 m0 x0 A1 n1 c1 l1 e1 k1 m1 x1 a2 w2 a3 w3).mono fun e W' ⟨he, hb⟩ => ⟨_, he, law_post hW' rfl (by kernel_rfl) (by kernel_rfl) rfl hb⟩

theorem laid_met (os : Os) : laidMetH Try.prog Rows.matchFuelRow.laid ((World.doorLaid Try.prog 4000 os).forCall (fun _ _ => 0) ⟨#[], #[.agg #[.slice none 0 0, .int .i64 0], .slice none 0 0, .int .i64 0, .int .u16 0], []⟩).memory :=
  laidMetH_of_parts3 (fuel := 8) (laidMet_of_run' 8 (by kernel_rfl) (by kernel_rfl)) (by kernel_rfl) (by kernel_rfl)
theorem reads (os : Os) {H : Type} (enc : TypeId × Value → H) : ∃ places, DataW.whole enc Try.prog ((World.doorLaid Try.prog 4000 os).forCall (fun _ _ => 0) ⟨#[], #[.agg #[.slice none 0 0, .int .i64 0], .slice none 0 0, .int .i64 0, .int .u16 0], []⟩).memory Try.f5.params.toList Rows.matchFuelSpec.vars false #[Value.agg #[.slice none 0 0, .int .i64 0], .slice none 0 0, .int .i64 0, .int .u16 0].toList 8 = some ([.agg [.nil, .lit (.int .i64 0)], .nil, .lit (.int .i64 0), .lit (.int .u16 0)], [], places) :=
  ⟨[], by kernel_rfl⟩

set_option maxRecDepth 100000 in
theorem lifted (os : Os) (started : os.Started) (H : Type) (enc : TypeId × Value → H) (F : Stop.Interp) :
    ReturnsInHanded {} Try.checked os 5 .any ((OpenSpec.ofChange Rows.matchFuelSpec).preRow enc Try.prog Try.f5 Rows.matchFuelRow.domain false Rows.matchFuelRow.laid) (((OpenSpec.ofChange Rows.matchFuelSpec).at F).post enc Try.prog Try.f5 false true false false) := by
  obtain ⟨places, hx⟩ := reads os enc
  refine returnsInHanded_of_row (C := Try.checked) (s := (OpenSpec.ofChange Rows.matchFuelSpec)) own started (by kernel_rfl) Try.func5
    (witness_row_at (enc := enc) (C := Try.checked) false (World.doorLaid Try.prog 4000 os) #[.agg #[.slice none 0 0, .int .i64 0], .slice none 0 0, .int .i64 0, .int .u16 0] rfl (by kernel_rfl) (by kernel_rfl) (by kernel_rfl)
      (OpenSpec.preRow_of_cond 8 hx (by kernel_rfl) (fun k hk => by cases hk) (by kernel_rfl) (laid_met os))) ?_
  intro W base args ds gs before hval hW _ _ _ _ _ _
  exact contract H enc W base args ds gs before hval hW

theorem said : Rows.MatchFuelSaid :=
  OpenClaim.holds_of_cond 5 Try.f5 rfl rfl rfl rfl rfl rfl rfl ⟨rfl, rfl, rfl, rfl, rfl⟩ rfl rfl rfl rfl rfl (by kernel_rfl) Try.func5 (by kernel_rfl)
    (of_decide_eq_true (by kernel_rfl)) (by unfold Func.isWrapper; first | (rw [if_pos (by decide +kernel)]; kernel_rfl) | (rw [if_neg (by decide +kernel)]; exact ⟨rfl, rfl⟩))
    (fun os started H enc _ F => by rw [OpenClaim.pre_eq_preRow]; exact lifted os started H enc F)

end Go.Proofs.Ytbgalmnhhjiagaa.Fuel
