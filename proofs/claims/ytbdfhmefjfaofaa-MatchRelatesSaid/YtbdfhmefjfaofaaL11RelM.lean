/- MatchRelates answers true at every regular expression, text and place, and they read afterwards as they read before. Conditions: none. -/
import Derived.Test.YtbdfhmefjfaofaaM37
import Derived.Test.YtbdfhmefjfaofaaM41
import Derived.Test.YtbdfhmefjfaofaaM55
set_option linter.unusedVariables false
set_option linter.unusedSimpArgs false
set_option maxRecDepth 100000
namespace Go.Proofs.Ytbdfhmefjfaofaa.Rel11
open Go.ChangeShapes Go.WideShapes Go.ChangeAt Go.RowKit

theorem at_two {ns : List Nod} {g : Int} {t : List UInt8} {at_ fuel : Int} {e : Ending} (hok : rightN ns g = true ∧ (0 ≤ at_ ∧ at_ ≤ t.length) ∧ 0 ≤ fuel) (h : AtP ns g t at_ fuel e) : ∃ (s : Spn) (b : Bool) (left en : Int), e = .returned (.tuple #[.agg (hitC s), .bool b, .int .i64 left, .int .i64 en]) ∧
    ((en = 18 ∧ b = false) ∨ (en = 0 ∧ ∃ (x : Option Spn), Told11 ns t ((ns.length : Int) - 1) at_.toNat fuel (some (x, left)) ∧ s = ansS x ∧ b = x.isSome)) := by
  cases h with
  | arg h => exact absurd hok h
  | fuel h hx => exact ⟨_, _, _, _, rfl, .inl ⟨rfl, rfl⟩⟩
  | fine h hx => exact ⟨_, _, _, _, rfl, .inr ⟨rfl, _, hx, rfl, rfl⟩⟩
theorem wpList_load_hit {ops : Array Oper} {rest : List Oper} {o : Oper} {a : Act} {w : World} {Q : Exit → Act → World → Prop} (hw : Region.wanted o (yielded ops a.tmps) = true) (x : Operand) (ho : o.op = .load 31 x) (H : Nat) (hx : a.eval x = .pointer (some ⟨H, 0, none⟩)) (C : Array Value) (hs : C.size = 20) (hh : Held w H 31 C)
    (h : wpList Try.prog ops Q rest (a.put o.dst (.agg C)) w) : wpList Try.prog ops Q (o :: rest) a w :=
  wpList_step fun K hK => by
    simp only [hw, if_true]
    exact wp_load_mid 31 x ho H 0 hx C.toList _ hh.range Try.underlying31 rfl (by rw [Array.length_toList, hs]; exact size_hit) (hK _ _ h)
set_option maxHeartbeats 16000000 in
theorem bad (W : World) (A1 : Option Addr) (n1 c1 : Nat) (l1 : List Nod) (g1 : Int) (hn1 : n1 = l1.length) (hc1 : n1 ≤ c1) (hm1 : c1 ≤ maxLen) (h1 : Nods W W.heap.size A1 l1)
    (A2 : Option Addr) (n2 c2 : Nat) (l2 : List UInt8) (hn2 : n2 = l2.length) (hc2 : n2 ≤ c2) (hm2 : c2 ≤ maxLen) (h2 : Byt W W.heap.size A2 l2) (at_ : Int) (big1 : ¬ 12 < n1) (big2 : ¬ 6 < n2) (k2 : ¬ at_ < 0) (k3 : ¬ (n2 : Int) < at_) (k1 : rightN l1 g1 = false) :
    Calls Try.prog 4 #[.agg #[.slice A1 n1 c1, .int .i64 g1], .slice A2 n2 c2, .int .i64 at_] W fun e W' => e = .returned (.bool true) ∧ Below W.heap.size W W' := by
  have hW := Lib.hid awake11_any
  have hb0 := Lib.hid ((Below.refl W.heap.size W).alloc (Nat.le_refl _) (.cells #[.slice A1 n1 c1, .int .i64 g1] 24))
  have e1 : decide ((12 : Int) < (n1 : Int)) = false := decide_eq_false (by omega)
  have e2 : decide ((6 : Int) < (n2 : Int)) = false := decide_eq_false (by omega)
  have d1 : decide (at_ < 0) = false := decide_eq_false k2
  have d2 : decide ((n2 : Int) < at_) = false := decide_eq_false k3
  have hRe := Lib.hid (held_new W 24 #[.slice A1 n1 c1, .int .i64 g1])
  have hIn := Lib.hid (fun (w' : World) (hb : Below W.heap.size W w') => show AtIn w' W.heap.size A1 n1 c1 A2 n2 c2 l1 l2 from ⟨hn1, hc1, hm1, hb.size, h1.below hb, hn2, hc2, hm2, by omega, h2.below hb⟩)
  have hRt := Lib.hid (fun w' (hb : Below W.heap.size W w') => refRight_any A1 n1 c1 l1 g1 W.heap.size w' hn1 hc1 hm1 hb.size (h1.below hb))
  rw [k1] at hRt
  clear h1 h2 hn2 hm1 hm2 hn1
  go_enter Try.func4, Try.ntmps4
  go_wp2_with (first
    | (go_at_call 11; refine (hRt.out _ hb0.out).mono ?_; rintro e w2 ⟨rfl, hb1⟩; have hb2 := Lib.hid (hb0.out.trans (hb1.mono hb0.out.size)))
    | (go_at_call 9; refine (hW.out _).mono ?_; rintro e w3 ⟨rfl, hb3⟩))
  go_ret
  exact ⟨rfl, hb2.out.trans (hb3.mono hb2.out.size)⟩
set_option maxHeartbeats 16000000 in
theorem good (W : World) (A1 : Option Addr) (n1 c1 : Nat) (l1 : List Nod) (g1 : Int) (hn1 : n1 = l1.length) (hc1 : n1 ≤ c1) (hm1 : c1 ≤ maxLen) (h1 : Nods W W.heap.size A1 l1)
    (A2 : Option Addr) (n2 c2 : Nat) (l2 : List UInt8) (hn2 : n2 = l2.length) (hc2 : n2 ≤ c2) (hm2 : c2 ≤ maxLen) (h2 : Byt W W.heap.size A2 l2) (at_ : Int) (big1 : ¬ 12 < n1) (big2 : ¬ 6 < n2) (k2 : ¬ at_ < 0) (k3 : ¬ (n2 : Int) < at_) (k1 : rightN l1 g1 = true) :
    Calls Try.prog 4 #[.agg #[.slice A1 n1 c1, .int .i64 g1], .slice A2 n2 c2, .int .i64 at_] W fun e W' => e = .returned (.bool true) ∧ Below W.heap.size W W' := by
  have hW := Lib.hid awake11_any
  have hb0 := Lib.hid ((Below.refl W.heap.size W).alloc (Nat.le_refl _) (.cells #[.slice A1 n1 c1, .int .i64 g1] 24))
  have e1 : decide ((12 : Int) < (n1 : Int)) = false := decide_eq_false (by omega)
  have e2 : decide ((6 : Int) < (n2 : Int)) = false := decide_eq_false (by omega)
  have d1 : decide (at_ < 0) = false := decide_eq_false k2
  have d2 : decide ((n2 : Int) < at_) = false := decide_eq_false k3
  have hRe := Lib.hid (held_new W 24 #[.slice A1 n1 c1, .int .i64 g1])
  have hIn := Lib.hid (fun (w' : World) (hb : Below W.heap.size W w') => show AtIn w' W.heap.size A1 n1 c1 A2 n2 c2 l1 l2 from ⟨hn1, hc1, hm1, hb.size, h1.below hb, hn2, hc2, hm2, by omega, h2.below hb⟩)
  have hRt := Lib.hid (fun w' (hb : Below W.heap.size W w') => refRight_any A1 n1 c1 l1 g1 W.heap.size w' hn1 hc1 hm1 hb.size (h1.below hb))
  rw [k1] at hRt
  have hAt := Lib.hid (fun w' (hb : Below W.heap.size W w') => mat_any (g := g1) (at_ := at_) (fuel := 3000) (hIn.out w' hb) (by omega))
  have hok := Lib.hid (show rightN l1 g1 = true ∧ (0 ≤ at_ ∧ at_ ≤ l2.length) ∧ (0 : Int) ≤ 3000 from ⟨k1, ⟨by omega, by omega⟩, by omega⟩)
  have hBs := Lib.hid (fun (w' : World) (hb : Below W.heap.size W w') (x : Option Spn) (left : Int) (hT : Told11 l1 l2 ((l1.length : Int) - 1) at_.toNat 3000 (some (x, left))) => show Calls Try.prog 13 #[.agg #[.slice A1 n1 c1, .int .i64 g1], .slice A2 n2 c2, .int .i64 at_] w' fun e w'' => e = .returned (.tuple #[.agg (hitC (ansS x)), .bool x.isSome]) ∧ Below w'.heap.size w' w'' from by
    obtain ⟨i, rfl⟩ := Int.eq_ofNat_of_zero_le (show 0 ≤ at_ by omega)
    exact rBest_told (hIn.out w' hb) k1 (by omega) (by omega) hT)
  clear h1 h2 hn2 hm1 hm2 hn1
  have hE0 := hit_eql
  have hG0 := hit_guard
  go_enter Try.func4, Try.ntmps4
  go_upto_region 4 with (first
    | (go_at_call 11; refine (hRt.out _ hb0.out).mono ?_; rintro e w2 ⟨rfl, hb1⟩; have hb2 := Lib.hid (hb0.out.trans (hb1.mono hb0.out.size)); have hRe2 := Lib.hid (hRe.out.keep hb1); have r0 : w2.cell? ⟨W.heap.size, 0, none⟩ = some (.slice A1 n1 c1) := hRe2.out.at_ rfl; have r1 : w2.cell? ⟨W.heap.size, 1, none⟩ = some (.int .i64 g1) := hRe2.out.at_ rfl; clear hb1)
    | (go_at_call 10; refine (hAt.out w2 hb2.out).mono ?_; rintro e w3 ⟨hP, hb3⟩; obtain ⟨s, b, left, en, rfl, hQ⟩ := at_two hok.out hP; have hQh := Lib.hid hQ; have hRe3 := Lib.hid (hRe2.out.keep hb3); have hb4 := Lib.hid (hb2.out.trans (hb3.mono hb2.out.size)); have hnull := Lib.hid (held_new w3 31 (hitC sp00)); clear hP hQ hb3 r0 r1)
    | (refine wpList_store_row rfl 31 (.tmp 7) (.tmp 43) rfl w3.heap.size (hitC s) rfl rfl 31 _ hnull.out (by rw [hitC_size]; exact size_hit) rfl (hit_cells _) ?_))
  have hH4 := Lib.hid (hnull.out.row (hitC s))
  have hb5 := Lib.hid (below_row (hb4.out.alloc hb4.out.size (.cells (hitC sp00) 31)) hb4.out.size (hitC s))
  have hRe4 := Lib.hid (((hRe3.out).alloc (.cells (hitC sp00) 31)).row_far (g' := w3.heap.size) (by have := hRe3.out.lt; omega) (hitC s))
  have hEq : ∀ w, (binOp .eql 31 (.agg (hitC s)) (.agg (hitC s))).run Try.prog w = .ok (.bool true) w := fun w => by
    have := hE0 w s s
    rw [same10B_self] at this
    exact this
  have hGq : ∀ op p q w, (eqGuard op 31 p q (.agg (hitC s)) (.agg (hitC s))).run Try.prog w = .ok () w := fun op p q w => hG0 w op p q s s
  have hsz := Lib.hid (hitC_size s)
  have hone := Lib.hid (hit_cells s)
  rw [show (w3.alloc (.cells (hitC sp00) 31)) = w3.alloc (.cells #[.int .i64 0, .int .i64 0, .int .i64 0, .int .i64 0, .int .i64 0, .int .i64 0, .int .i64 0, .int .i64 0, .int .i64 0, .int .i64 0, .int .i64 0, .int .i64 0, .int .i64 0, .int .i64 0, .int .i64 0, .int .i64 0, .int .i64 0, .int .i64 0, .int .i64 0, .int .i64 0] 31) from rfl] at hH4 hb5 hRe4
  generalize (w3.alloc (.cells #[.int .i64 0, .int .i64 0, .int .i64 0, .int .i64 0, .int .i64 0, .int .i64 0, .int .i64 0, .int .i64 0, .int .i64 0, .int .i64 0, .int .i64 0, .int .i64 0, .int .i64 0, .int .i64 0, .int .i64 0, .int .i64 0, .int .i64 0, .int .i64 0, .int .i64 0, .int .i64 0] 31)).setRow w3.heap.size (hitC s) = w4 at *
  have r0 : w4.cell? ⟨W.heap.size, 0, none⟩ = some (.slice A1 n1 c1) := hRe4.out.at_ rfl
  have r1 : w4.cell? ⟨W.heap.size, 1, none⟩ = some (.int .i64 g1) := hRe4.out.at_ rfl
  clear hE0 hG0 hnull hAt hRe3 hRe hb0 hb4 hRe2 hb2
  generalize w3.heap.size = H at *
  rcases hQh.out with ⟨rfl, rfl⟩ | ⟨rfl, x, hT, hs, hb⟩
  · go_wp2_with (go_at_call 9; refine (hW.out _).mono ?_; rintro e w5 ⟨rfl, hb6⟩)
    go_ret
    exact ⟨rfl, hb5.out.trans (hb6.mono hb5.out.size)⟩
  · have hBx := Lib.hid (hBs.out w4 hb5.out x left hT)
    rw [← hs, ← hb] at hBx
    clear hs hb hT hBs
    have hnw := Lib.hid (fun (w : World) => show Held (w.alloc (.cells #[.int .i64 0, .int .i64 0, .int .i64 0, .int .i64 0, .int .i64 0, .int .i64 0, .int .i64 0, .int .i64 0, .int .i64 0, .int .i64 0, .int .i64 0, .int .i64 0, .int .i64 0, .int .i64 0, .int .i64 0, .int .i64 0, .int .i64 0, .int .i64 0, .int .i64 0, .int .i64 0] 31)) w.heap.size 31 #[.int .i64 0, .int .i64 0, .int .i64 0, .int .i64 0, .int .i64 0, .int .i64 0, .int .i64 0, .int .i64 0, .int .i64 0, .int .i64 0, .int .i64 0, .int .i64 0, .int .i64 0, .int .i64 0, .int .i64 0, .int .i64 0, .int .i64 0, .int .i64 0, .int .i64 0, .int .i64 0] from held_new w _ _)
    generalize hitC s = CM at *
    have hbb : (b == b) = true := by cases b <;> rfl
    go_wp2_with (first
      | (go_at_call 13; refine (hBx.out).mono ?_; rintro e w6 ⟨rfl, hb8⟩; have hH6 := Lib.hid (hH4.out.keep hb8); have hb9 := Lib.hid (hb5.out.trans (hb8.mono hb5.out.size)); clear hb8)
      | (have _h := hb9; refine wpList_store_row rfl 31 (.tmp 11) (.tmp 59) rfl w6.heap.size CM rfl rfl 31 _ (hnw.out w6) (by rw [hsz.out]; exact size_hit) (by rw [hsz.out]; rfl) hone.out ?_; have hK8 := Lib.hid ((hnw.out w6).row CM); have hH8 := Lib.hid (((hH6.out).alloc (.cells #[.int .i64 0, .int .i64 0, .int .i64 0, .int .i64 0, .int .i64 0, .int .i64 0, .int .i64 0, .int .i64 0, .int .i64 0, .int .i64 0, .int .i64 0, .int .i64 0, .int .i64 0, .int .i64 0, .int .i64 0, .int .i64 0, .int .i64 0, .int .i64 0, .int .i64 0, .int .i64 0] 31)).row_far (g' := w6.heap.size) (by have := hH6.out.lt; omega) CM); have hb10 := Lib.hid (below_row (hb9.out.alloc hb9.out.size (.cells #[.int .i64 0, .int .i64 0, .int .i64 0, .int .i64 0, .int .i64 0, .int .i64 0, .int .i64 0, .int .i64 0, .int .i64 0, .int .i64 0, .int .i64 0, .int .i64 0, .int .i64 0, .int .i64 0, .int .i64 0, .int .i64 0, .int .i64 0, .int .i64 0, .int .i64 0, .int .i64 0] 31)) hb9.out.size CM); generalize hw8 : (w6.alloc (.cells #[.int .i64 0, .int .i64 0, .int .i64 0, .int .i64 0, .int .i64 0, .int .i64 0, .int .i64 0, .int .i64 0, .int .i64 0, .int .i64 0, .int .i64 0, .int .i64 0, .int .i64 0, .int .i64 0, .int .i64 0, .int .i64 0, .int .i64 0, .int .i64 0, .int .i64 0, .int .i64 0] 31)).setRow w6.heap.size CM = w8 at *; clear hw8; generalize w6.heap.size = K at *)
      | (have _h := hb10; refine wpList_load_hit (by rfl) (.tmp 7) rfl H rfl CM hsz.out hH8.out ?_)
      | (have _h := hb10; refine wpList_load_hit (by rfl) (.tmp 11) rfl K rfl CM hsz.out hK8.out ?_)
      | (have _h := hb10; go_at_call 9; refine (hW.out _).mono ?_; rintro e w9 ⟨rfl, hb11⟩))
    go_ret
    exact ⟨rfl, hb10.out.trans (hb11.mono hb10.out.size)⟩
set_option maxHeartbeats 16000000 in
theorem core (W : World) (A1 : Option Addr) (n1 c1 : Nat) (l1 : List Nod) (g1 : Int) (hn1 : n1 = l1.length) (hc1 : n1 ≤ c1) (hm1 : c1 ≤ maxLen) (h1 : Nods W W.heap.size A1 l1)
    (A2 : Option Addr) (n2 c2 : Nat) (l2 : List UInt8) (hn2 : n2 = l2.length) (hc2 : n2 ≤ c2) (hm2 : c2 ≤ maxLen) (h2 : Byt W W.heap.size A2 l2) (at_ : Int) (hat : (Lit.int .i64 at_).wf = true) :
    Calls Try.prog 4 #[.agg #[.slice A1 n1 c1, .int .i64 g1], .slice A2 n2 c2, .int .i64 at_] W fun e W' => e = .returned (.bool true) ∧ Below W.heap.size W W' := by
  clear hat
  by_cases big1 : 12 < n1
  · have hW := Lib.hid awake11_any
    have hb0 := Lib.hid ((Below.refl W.heap.size W).alloc (Nat.le_refl _) (.cells #[.slice A1 n1 c1, .int .i64 g1] 24))
    have e0 := True.intro
    clear hn1 h1 hn2 h2
    unfold maxLen at hm1 hm2
    go_enter Try.func4, Try.ntmps4
    go_wp2_with (go_at_call 9; refine (hW.out _).mono ?_; rintro e w1 ⟨rfl, hb1⟩)
    go_ret
    exact ⟨rfl, hb0.out.trans (hb1.mono hb0.out.size)⟩
  by_cases big2 : 6 < n2
  · have hW := Lib.hid awake11_any
    have hb0 := Lib.hid ((Below.refl W.heap.size W).alloc (Nat.le_refl _) (.cells #[.slice A1 n1 c1, .int .i64 g1] 24))
    have e0 := True.intro
    clear hn1 h1 hn2 h2
    unfold maxLen at hm1 hm2
    go_enter Try.func4, Try.ntmps4
    go_wp2_with (go_at_call 9; refine (hW.out _).mono ?_; rintro e w1 ⟨rfl, hb1⟩)
    go_ret
    exact ⟨rfl, hb0.out.trans (hb1.mono hb0.out.size)⟩
  by_cases k2 : at_ < 0
  · have hW := Lib.hid awake11_any
    have hb0 := Lib.hid ((Below.refl W.heap.size W).alloc (Nat.le_refl _) (.cells #[.slice A1 n1 c1, .int .i64 g1] 24))
    have e1 : decide ((12 : Int) < (n1 : Int)) = false := decide_eq_false (by omega)
    have e2 : decide ((6 : Int) < (n2 : Int)) = false := decide_eq_false (by omega)
    have d1 : decide (at_ < 0) = true := decide_eq_true k2
    clear hn1 h1 hn2 h2
    unfold maxLen at hm1 hm2
    go_enter Try.func4, Try.ntmps4
    go_wp2_with (go_at_call 9; refine (hW.out _).mono ?_; rintro e w1 ⟨rfl, hb1⟩)
    go_ret
    exact ⟨rfl, hb0.out.trans (hb1.mono hb0.out.size)⟩
  by_cases k3 : (n2 : Int) < at_
  · have hW := Lib.hid awake11_any
    have hb0 := Lib.hid ((Below.refl W.heap.size W).alloc (Nat.le_refl _) (.cells #[.slice A1 n1 c1, .int .i64 g1] 24))
    have e1 : decide ((12 : Int) < (n1 : Int)) = false := decide_eq_false (by omega)
    have e2 : decide ((6 : Int) < (n2 : Int)) = false := decide_eq_false (by omega)
    have d1 : decide (at_ < 0) = false := decide_eq_false k2
    have d2 : decide ((n2 : Int) < at_) = true := decide_eq_true k3
    clear hn1 h1 hn2 h2
    unfold maxLen at hm1 hm2
    go_enter Try.func4, Try.ntmps4
    go_wp2_with (go_at_call 9; refine (hW.out _).mono ?_; rintro e w1 ⟨rfl, hb1⟩)
    go_ret
    exact ⟨rfl, hb0.out.trans (hb1.mono hb0.out.size)⟩
  cases k1 : rightN l1 g1 with
  | false => exact bad W A1 n1 c1 l1 g1 hn1 hc1 hm1 h1 A2 n2 c2 l2 hn2 hc2 hm2 h2 at_ big1 big2 k2 k3 k1
  | true => exact good W A1 n1 c1 l1 g1 hn1 hc1 hm1 h1 A2 n2 c2 l2 hn2 hc2 hm2 h2 at_ big1 big2 k2 k3 k1
theorem contract (H : Type) (enc : TypeId × Value → H) (W : World) (base : Nat) (args : Array Value) (ds gs : List (DataW H)) (before : List MemPlace)
    (hval : ∀ (j : Nat) t v, Try.f4.params[j]? = some t → args[j]? = some v → Value.okWide Try.prog W .any base t v)
    (hW : DataW.Whole enc Try.prog Try.f4.params.toList Rows.matchRelatesSpec.vars false W args.toList ds gs before) :
    Calls Try.prog 4 args W fun e W' => ∃ v, e = .returned v ∧ Rows.matchRelatesSpec.post enc Try.prog Try.f4 false true false false W args v W' := by
  have hW' := hW
  obtain ⟨p, q, hA, hV, rfl, hfz, hnd⟩ := hW
  rw [Try.params4] at hA hval
  obtain ⟨v0, vs0, d0, ds0, p0, q0, hargs, rfl, rfl, h0, r0⟩ := trodAll_cons hA
  obtain ⟨v1, vs1, d1, ds1, p1, q1, rfl, rfl, rfl, h1, r1⟩ := trodAll_cons r0
  obtain ⟨v2, vs2, d2, ds2, p2, q2, rfl, rfl, rfl, h2, r2⟩ := trodAll_cons r1
  obtain ⟨rfl, rfl, rfl⟩ := trodAll_nil r2
  obtain rfl : args = #[v0, v1, v2] := by cases args; simp_all
  obtain ⟨rfl, rfl⟩ := trodVars_none hV
  obtain ⟨A0, n0, c0, l0, g0, rfl, e0, k0, m0, x0⟩ := open_re (hval 0 24 v0 rfl rfl) h0
  obtain ⟨A1, n1, c1, l1, rfl, e1, k1, m1, x1⟩ := open_byt Try.underlying25 Try.underlying5 (by kernel_rfl) (hval 1 25 v1 rfl rfl) h1
  obtain ⟨a2, rfl, rfl, rfl, w2⟩ := open_int Try.underlying3 (hval 2 3 v2 rfl rfl) h2
  exact (core W A0 n0 c0 l0 g0 e0 k0 m0 x0 A1 n1 c1 l1 e1 k1 m1 x1 a2 w2).mono fun e W' ⟨he, hb⟩ => ⟨_, he, law_post hW' rfl (by kernel_rfl) (by kernel_rfl) rfl hb⟩

theorem laid_met (os : Os) : laidMetH Try.prog Rows.matchRelatesRow.laid ((World.doorLaid Try.prog 4000 os).forCall (fun _ _ => 0) ⟨#[], #[.agg #[.slice none 0 0, .int .i64 0], .slice none 0 0, .int .i64 0], []⟩).memory :=
  laidMetH_of_parts3 (fuel := 8) (laidMet_of_run' 8 (by kernel_rfl) (by kernel_rfl)) (by kernel_rfl) (by kernel_rfl)
theorem reads (os : Os) {H : Type} (enc : TypeId × Value → H) : ∃ places, DataW.whole enc Try.prog ((World.doorLaid Try.prog 4000 os).forCall (fun _ _ => 0) ⟨#[], #[.agg #[.slice none 0 0, .int .i64 0], .slice none 0 0, .int .i64 0], []⟩).memory Try.f4.params.toList Rows.matchRelatesSpec.vars false #[Value.agg #[.slice none 0 0, .int .i64 0], .slice none 0 0, .int .i64 0].toList 8 = some ([.agg [.nil, .lit (.int .i64 0)], .nil, .lit (.int .i64 0)], [], places) :=
  ⟨[], by kernel_rfl⟩

set_option maxRecDepth 100000 in
theorem lifted (os : Os) (started : os.Started) (H : Type) (enc : TypeId × Value → H) (F : Stop.Interp) :
    ReturnsInHanded {} Try.checked os 4 .any ((OpenSpec.ofChange Rows.matchRelatesSpec).preRow enc Try.prog Try.f4 Rows.matchRelatesRow.domain false Rows.matchRelatesRow.laid) (((OpenSpec.ofChange Rows.matchRelatesSpec).at F).post enc Try.prog Try.f4 false true false false) := by
  obtain ⟨places, hx⟩ := reads os enc
  refine returnsInHanded_of_row (C := Try.checked) (s := (OpenSpec.ofChange Rows.matchRelatesSpec)) own started (by kernel_rfl) Try.func4
    (witness_row_at (enc := enc) (C := Try.checked) false (World.doorLaid Try.prog 4000 os) #[.agg #[.slice none 0 0, .int .i64 0], .slice none 0 0, .int .i64 0] rfl (by kernel_rfl) (by kernel_rfl) (by kernel_rfl)
      (OpenSpec.preRow_of_cond 8 hx (by kernel_rfl) (fun k hk => by cases hk) (by kernel_rfl) (laid_met os))) ?_
  intro W base args ds gs before hval hW _ _ _ _ _ _
  exact contract H enc W base args ds gs before hval hW

theorem said : Rows.MatchRelatesSaid :=
  OpenClaim.holds_of_cond 4 Try.f4 rfl rfl rfl rfl rfl rfl rfl ⟨rfl, rfl, rfl, rfl, rfl⟩ rfl rfl rfl rfl rfl (by kernel_rfl) Try.func4 (by kernel_rfl)
    (of_decide_eq_true (by kernel_rfl)) (by unfold Func.isWrapper; first | (rw [if_pos (by decide +kernel)]; kernel_rfl) | (rw [if_neg (by decide +kernel)]; exact ⟨rfl, rfl⟩))
    (fun os started H enc _ F => by rw [OpenClaim.pre_eq_preRow]; exact lifted os started H enc F)

end Go.Proofs.Ytbdfhmefjfaofaa.Rel11
