/- FindAll answers true at every regular expression, text and fuel, and they read afterwards as they read before. Conditions: none. -/
import Derived.Test.YtjopmieaikgbcaaM55
set_option linter.unusedVariables false
set_option linter.unusedSimpArgs false
set_option maxRecDepth 100000
namespace Go.Proofs.Ytjopmieaikgbcaa.All
open Go.ChangeShapes Go.WideShapes Go.ChangeAt Go.RowKit

/-- All's answers where something is right: which list, what is left, which number. -/
def Told (ns : List Nod) (g : Int) (t : List UInt8) (fuel : Int) (xs : List Spn) (left en : Int) : Prop :=
  (All12 ns t ((ns.length : Int) - 1) (lastP ns t g) 0 (-1) fuel none ∧ xs = [] ∧ left = 0 ∧ en = 18) ∨ (All12 ns t ((ns.length : Int) - 1) (lastP ns t g) 0 (-1) fuel (some (xs, left)) ∧ en = 0)
theorem told_det {ns : List Nod} {g : Int} {t : List UInt8} {fuel : Int} {xs ys : List Spn} {l1 l2 e1 e2 : Int} (h : Told ns g t fuel xs l1 e1) (k : Told ns g t fuel ys l2 e2) : ys = xs ∧ l2 = l1 ∧ e2 = e1 := by
  rcases h with ⟨h, rfl, rfl, rfl⟩ | ⟨h, rfl⟩
  · rcases k with ⟨k, rfl, rfl, rfl⟩ | ⟨k, rfl⟩
    · exact ⟨rfl, rfl, rfl⟩
    · have := h.det k; cases this
  · rcases k with ⟨k, rfl, rfl, rfl⟩ | ⟨k, rfl⟩
    · have := h.det k; cases this
    · have := h.det k
      simp only [Option.some.injEq, Prod.mk.injEq] at this
      exact ⟨this.1, this.2, rfl⟩
theorem all_good {w w' : World} {ns : List Nod} {g : Int} {t : List UInt8} {fuel : Int} {e : Ending} (hok : rightN ns g = true ∧ 0 ≤ fuel) (h : AllQ w ns g t fuel e w') : ∃ xs A c left en, e = .returned (.tuple #[.slice A xs.length c, .int .i64 left, .int .i64 en]) ∧ Told ns g t fuel xs left en ∧ HRow w' A xs ∧ xs.length ≤ maxLen := by
  rcases h with ⟨h, -⟩ | ⟨-, h, rfl⟩ | ⟨-, xs, left, v, h, rfl, hrow⟩
  · exact absurd hok h
  · exact ⟨[], none, 0, 0, 18, rfl, .inl ⟨h, rfl, rfl, rfl⟩, fun j u hj => by simp [hitsL] at hj, Nat.zero_le _⟩
  · have hmx : xs.length ≤ maxLen := by
      obtain ⟨hl, ⟨h0, h1⟩ | ⟨g, cap, cur, h0, _, hh, hnc, hcm, hsz, htake⟩⟩ := id hrow
      · omega
      · omega
    obtain ⟨A, c, rfl, -, hr⟩ := own_hrow hrow
    exact ⟨xs, A, c, left, 0, rfl, .inr ⟨h, rfl⟩, hr, hmx⟩
theorem all_bad {w w' : World} {ns : List Nod} {g : Int} {t : List UInt8} {fuel : Int} {e : Ending} (hb : ¬ (rightN ns g = true ∧ 0 ≤ fuel)) (h : AllQ w ns g t fuel e w') : e = .returned (.tuple #[.slice none 0 0, .int .i64 0, .int .i64 1]) := by
  rcases h with ⟨-, h⟩ | ⟨h, -⟩ | ⟨h, -⟩
  · exact h
  · exact absurd h hb
  · exact absurd h hb
set_option maxHeartbeats 16000000 in
theorem bad_1 (W : World) (A1 : Option Addr) (n1 c1 : Nat) (l1 : List Nod) (g1 : Int) (hn1 : n1 = l1.length) (hc1 : n1 ≤ c1) (hm1 : c1 ≤ maxLen) (h1 : Nods W W.heap.size A1 l1)
    (A2 : Option Addr) (n2 c2 : Nat) (l2 : List UInt8) (hn2 : n2 = l2.length) (hc2 : n2 ≤ c2) (hm2 : c2 ≤ maxLen) (h2 : Byt W W.heap.size A2 l2) (fuel : Int) (big1 : ¬ 40 < n1) (big2 : ¬ 10 < n2) (big3 : ¬ 3000 < fuel) (k1 : rightN l1 g1 = false) :
    Calls Try.prog 6 #[.agg #[.slice A1 n1 c1, .int .i64 g1], .slice A2 n2 c2, .int .i64 fuel] W fun e W' => e = .returned (.bool true) ∧ Below W.heap.size W W' := by
  have hW := Lib.hid awake12_any
  have hb0 := Lib.hid ((Below.refl W.heap.size W).alloc (Nat.le_refl _) (.cells #[.slice A1 n1 c1, .int .i64 g1] 24))
  have e1 : decide ((40 : Int) < (n1 : Int)) = false := decide_eq_false (by omega)
  have e2 : decide ((10 : Int) < (n2 : Int)) = false := decide_eq_false (by omega)
  have e3 : decide ((3000 : Int) < fuel) = false := decide_eq_false (by omega)
  have hRe := Lib.hid (held_new W 24 #[.slice A1 n1 c1, .int .i64 g1])
  have hIn := Lib.hid (fun (w' : World) (hb : Below W.heap.size W w') => show AtIn w' W.heap.size A1 n1 c1 A2 n2 c2 l1 l2 from ⟨hn1, hc1, hm1, hb.size, h1.below hb, hn2, hc2, hm2, by omega, h2.below hb⟩)
  have hAl := Lib.hid (findAll_any (g := g1) fuel (hIn.out _ hb0.out) (by omega))
  have hRt := Lib.hid (fun w' (hb : Below W.heap.size W w') => refRight_any A1 n1 c1 l1 g1 W.heap.size w' hn1 hc1 hm1 hb.size (h1.below hb))
  have hBad := Lib.hid (fun w w' e (h : AllQ w l1 g1 l2 fuel e w') => all_bad (by rintro ⟨q, -⟩; rw [k1] at q; cases q) h)
  rw [k1] at hRt
  clear h1 h2 hn2 hm1 hm2 hn1
  go_enter Try.func6, Try.ntmps6
  go_wp2_with (first
    | (go_at_call 17; refine (hAl.out).mono ?_; rintro e w3 ⟨hP, hb3⟩; obtain rfl := hBad.out _ _ _ hP; have hRe3 := Lib.hid (hRe.out.keep hb3); have r0 : w3.cell? ⟨W.heap.size, 0, none⟩ = some (.slice A1 n1 c1) := hRe3.out.at_ rfl; have r1 : w3.cell? ⟨W.heap.size, 1, none⟩ = some (.int .i64 g1) := hRe3.out.at_ rfl; have hb4 := Lib.hid (hb0.out.trans (hb3.mono hb0.out.size)); clear hP hb3)
    | (go_at_call 11; refine (hRt.out _ hb4.out).mono ?_; rintro e w5 ⟨rfl, hb5⟩; have hb6 := Lib.hid (hb4.out.trans (hb5.mono hb4.out.size)))
    | (go_at_call 14; refine (hW.out _).mono ?_; rintro e w7 ⟨rfl, hb7⟩))
  go_ret
  exact ⟨rfl, hb6.out.trans (hb7.mono hb6.out.size)⟩
set_option maxHeartbeats 16000000 in
theorem bad_2 (W : World) (A1 : Option Addr) (n1 c1 : Nat) (l1 : List Nod) (g1 : Int) (hn1 : n1 = l1.length) (hc1 : n1 ≤ c1) (hm1 : c1 ≤ maxLen) (h1 : Nods W W.heap.size A1 l1)
    (A2 : Option Addr) (n2 c2 : Nat) (l2 : List UInt8) (hn2 : n2 = l2.length) (hc2 : n2 ≤ c2) (hm2 : c2 ≤ maxLen) (h2 : Byt W W.heap.size A2 l2) (fuel : Int) (big1 : ¬ 40 < n1) (big2 : ¬ 10 < n2) (big3 : ¬ 3000 < fuel) (k1 : rightN l1 g1 = true) (k2 : fuel < 0) :
    Calls Try.prog 6 #[.agg #[.slice A1 n1 c1, .int .i64 g1], .slice A2 n2 c2, .int .i64 fuel] W fun e W' => e = .returned (.bool true) ∧ Below W.heap.size W W' := by
  have hW := Lib.hid awake12_any
  have hb0 := Lib.hid ((Below.refl W.heap.size W).alloc (Nat.le_refl _) (.cells #[.slice A1 n1 c1, .int .i64 g1] 24))
  have e1 : decide ((40 : Int) < (n1 : Int)) = false := decide_eq_false (by omega)
  have e2 : decide ((10 : Int) < (n2 : Int)) = false := decide_eq_false (by omega)
  have e3 : decide ((3000 : Int) < fuel) = false := decide_eq_false (by omega)
  have hRe := Lib.hid (held_new W 24 #[.slice A1 n1 c1, .int .i64 g1])
  have hIn := Lib.hid (fun (w' : World) (hb : Below W.heap.size W w') => show AtIn w' W.heap.size A1 n1 c1 A2 n2 c2 l1 l2 from ⟨hn1, hc1, hm1, hb.size, h1.below hb, hn2, hc2, hm2, by omega, h2.below hb⟩)
  have hAl := Lib.hid (findAll_any (g := g1) fuel (hIn.out _ hb0.out) (by omega))
  have hRt := Lib.hid (fun w' (hb : Below W.heap.size W w') => refRight_any A1 n1 c1 l1 g1 W.heap.size w' hn1 hc1 hm1 hb.size (h1.below hb))
  have hBad := Lib.hid (fun w w' e (h : AllQ w l1 g1 l2 fuel e w') => all_bad (by rintro ⟨-, q⟩; omega) h)
  rw [k1] at hRt
  have d1 : decide (fuel < 0) = true := decide_eq_true k2
  clear h1 h2 hn2 hm1 hm2 hn1
  go_enter Try.func6, Try.ntmps6
  go_wp2_with (first
    | (go_at_call 17; refine (hAl.out).mono ?_; rintro e w3 ⟨hP, hb3⟩; obtain rfl := hBad.out _ _ _ hP; have hRe3 := Lib.hid (hRe.out.keep hb3); have r0 : w3.cell? ⟨W.heap.size, 0, none⟩ = some (.slice A1 n1 c1) := hRe3.out.at_ rfl; have r1 : w3.cell? ⟨W.heap.size, 1, none⟩ = some (.int .i64 g1) := hRe3.out.at_ rfl; have hb4 := Lib.hid (hb0.out.trans (hb3.mono hb0.out.size)); clear hP hb3)
    | (go_at_call 11; refine (hRt.out _ hb4.out).mono ?_; rintro e w5 ⟨rfl, hb5⟩; have hb6 := Lib.hid (hb4.out.trans (hb5.mono hb4.out.size)))
    | (go_at_call 14; refine (hW.out _).mono ?_; rintro e w7 ⟨rfl, hb7⟩))
  go_ret
  exact ⟨rfl, hb6.out.trans (hb7.mono hb6.out.size)⟩
set_option maxHeartbeats 16000000 in
theorem good (W : World) (A1 : Option Addr) (n1 c1 : Nat) (l1 : List Nod) (g1 : Int) (hn1 : n1 = l1.length) (hc1 : n1 ≤ c1) (hm1 : c1 ≤ maxLen) (h1 : Nods W W.heap.size A1 l1)
    (A2 : Option Addr) (n2 c2 : Nat) (l2 : List UInt8) (hn2 : n2 = l2.length) (hc2 : n2 ≤ c2) (hm2 : c2 ≤ maxLen) (h2 : Byt W W.heap.size A2 l2) (fuel : Int) (big1 : ¬ 40 < n1) (big2 : ¬ 10 < n2) (big3 : ¬ 3000 < fuel) (k1 : rightN l1 g1 = true) (k2 : ¬ fuel < 0) :
    Calls Try.prog 6 #[.agg #[.slice A1 n1 c1, .int .i64 g1], .slice A2 n2 c2, .int .i64 fuel] W fun e W' => e = .returned (.bool true) ∧ Below W.heap.size W W' := by
  have hW := Lib.hid awake12_any
  have hb0 := Lib.hid ((Below.refl W.heap.size W).alloc (Nat.le_refl _) (.cells #[.slice A1 n1 c1, .int .i64 g1] 24))
  have e1 : decide ((40 : Int) < (n1 : Int)) = false := decide_eq_false (by omega)
  have e2 : decide ((10 : Int) < (n2 : Int)) = false := decide_eq_false (by omega)
  have e3 : decide ((3000 : Int) < fuel) = false := decide_eq_false (by omega)
  have hRe := Lib.hid (held_new W 24 #[.slice A1 n1 c1, .int .i64 g1])
  have hIn := Lib.hid (fun (w' : World) (hb : Below W.heap.size W w') => show AtIn w' W.heap.size A1 n1 c1 A2 n2 c2 l1 l2 from ⟨hn1, hc1, hm1, hb.size, h1.below hb, hn2, hc2, hm2, by omega, h2.below hb⟩)
  have hAl := Lib.hid (findAll_any (g := g1) fuel (hIn.out _ hb0.out) (by omega))
  have hRt := Lib.hid (fun w' (hb : Below W.heap.size W w') => refRight_any A1 n1 c1 l1 g1 W.heap.size w' hn1 hc1 hm1 hb.size (h1.below hb))
  have d1 : decide (fuel < 0) = false := decide_eq_false k2
  rw [k1] at hRt
  have hAr := Lib.hid (fun w' (hb : Below W.heap.size W w') => show Calls Try.prog 18 #[.agg #[.slice A1 n1 c1, .int .i64 g1], .slice A2 n2 c2, .int .i64 fuel] w' fun e w'' => AllQ w' l1 g1 l2 fuel e w'' ∧ Below w'.heap.size w' w'' from by
    obtain ⟨f, rfl⟩ := Int.eq_ofNat_of_zero_le (show 0 ≤ fuel by omega)
    exact rAll_any f (hIn.out w' hb) k1 (by omega))
  have hok := Lib.hid (show rightN l1 g1 = true ∧ 0 ≤ fuel from ⟨k1, by omega⟩)
  clear h1 h2 hn2 hm1 hm2 hn1
  go_enter Try.func6, Try.ntmps6
  go_wp2_with (first
    | (go_at_call 17; refine (hAl.out).mono ?_; rintro e w3 ⟨hP, hb3⟩; obtain ⟨xs, Ax, cx, left, en, rfl, hT, hH3, hmx⟩ := all_good hok.out hP; have hTd := Lib.hid hT; have hHx3 := Lib.hid hH3; have hRe3 := Lib.hid (hRe.out.keep hb3); have r0 : w3.cell? ⟨W.heap.size, 0, none⟩ = some (.slice A1 n1 c1) := hRe3.out.at_ rfl; have r1 : w3.cell? ⟨W.heap.size, 1, none⟩ = some (.int .i64 g1) := hRe3.out.at_ rfl; have hb4 := Lib.hid (hb0.out.trans (hb3.mono hb0.out.size)); have hmxh := Lib.hid hmx; clear hP hb3 hT hH3 hmx)
    | (go_at_call 11; refine (hRt.out _ hb4.out).mono ?_; rintro e w5 ⟨rfl, hb5⟩; have hRe5 := Lib.hid (hRe3.out.keep hb5); have hHx5 := Lib.hid (hHx3.out.keep hb5); have s0 : w5.cell? ⟨W.heap.size, 0, none⟩ = some (.slice A1 n1 c1) := hRe5.out.at_ rfl; have s1 : w5.cell? ⟨W.heap.size, 1, none⟩ = some (.int .i64 g1) := hRe5.out.at_ rfl; have hb6 := Lib.hid (hb4.out.trans (hb5.mono hb4.out.size)))
    | (have _h := hb6; go_at_call 18; refine (hAr.out w5 hb6.out).mono ?_; rintro e w7 ⟨hP, hb7⟩; obtain ⟨ys, Ay, cy, left2, en2, rfl, hT2, hHy7, -⟩ := all_good hok.out hP; obtain ⟨rfl, rfl, rfl⟩ := told_det hTd.out hT2; have hHx7 := Lib.hid (hHx5.out.keep hb7); have hHyh := Lib.hid hHy7; have hb8 := Lib.hid (hb6.out.trans (hb7.mono hb6.out.size)); clear hP hb7 hT2 hHy7)
    | (have _h := hb8; go_at_call 19; refine (rSameH_any _ _ _ _ _ _ _ rfl hmxh.out hHx7.out hHyh.out).mono ?_; rintro e w9 ⟨rfl, hb9⟩; have hb10 := Lib.hid (hb8.out.trans (hb9.mono hb8.out.size)))
    | (have _h := hb10; go_at_call 14; refine (hW.out _).mono ?_; rintro e w11 ⟨rfl, hb11⟩))
  go_ret
  exact ⟨rfl, hb10.out.trans (hb11.mono hb10.out.size)⟩
set_option maxHeartbeats 16000000 in
theorem core (W : World) (A1 : Option Addr) (n1 c1 : Nat) (l1 : List Nod) (g1 : Int) (hn1 : n1 = l1.length) (hc1 : n1 ≤ c1) (hm1 : c1 ≤ maxLen) (h1 : Nods W W.heap.size A1 l1)
    (A2 : Option Addr) (n2 c2 : Nat) (l2 : List UInt8) (hn2 : n2 = l2.length) (hc2 : n2 ≤ c2) (hm2 : c2 ≤ maxLen) (h2 : Byt W W.heap.size A2 l2) (fuel : Int) (hfu : (Lit.int .i64 fuel).wf = true) :
    Calls Try.prog 6 #[.agg #[.slice A1 n1 c1, .int .i64 g1], .slice A2 n2 c2, .int .i64 fuel] W fun e W' => e = .returned (.bool true) ∧ Below W.heap.size W W' := by
  clear hfu
  by_cases big1 : 40 < n1
  · have hW := Lib.hid awake12_any
    have hb0 := Lib.hid ((Below.refl W.heap.size W).alloc (Nat.le_refl _) (.cells #[.slice A1 n1 c1, .int .i64 g1] 24))
    have e0 := True.intro
    clear hn1 h1 hn2 h2
    unfold maxLen at hm1 hm2
    go_enter Try.func6, Try.ntmps6
    go_wp2_with (go_at_call 14; refine (hW.out _).mono ?_; rintro e w1 ⟨rfl, hb1⟩)
    go_ret
    exact ⟨rfl, hb0.out.trans (hb1.mono hb0.out.size)⟩
  by_cases big2 : 10 < n2
  · have hW := Lib.hid awake12_any
    have hb0 := Lib.hid ((Below.refl W.heap.size W).alloc (Nat.le_refl _) (.cells #[.slice A1 n1 c1, .int .i64 g1] 24))
    have e0 := True.intro
    clear hn1 h1 hn2 h2
    unfold maxLen at hm1 hm2
    go_enter Try.func6, Try.ntmps6
    go_wp2_with (go_at_call 14; refine (hW.out _).mono ?_; rintro e w1 ⟨rfl, hb1⟩)
    go_ret
    exact ⟨rfl, hb0.out.trans (hb1.mono hb0.out.size)⟩
  by_cases big3 : 3000 < fuel
  · have hW := Lib.hid awake12_any
    have hb0 := Lib.hid ((Below.refl W.heap.size W).alloc (Nat.le_refl _) (.cells #[.slice A1 n1 c1, .int .i64 g1] 24))
    have e3 : decide ((3000 : Int) < fuel) = true := decide_eq_true big3
    clear hn1 h1 hn2 h2
    unfold maxLen at hm1 hm2
    go_enter Try.func6, Try.ntmps6
    go_wp2_with (go_at_call 14; refine (hW.out _).mono ?_; rintro e w1 ⟨rfl, hb1⟩)
    go_ret
    exact ⟨rfl, hb0.out.trans (hb1.mono hb0.out.size)⟩
  cases k1 : rightN l1 g1 with
  | false => exact bad_1 W A1 n1 c1 l1 g1 hn1 hc1 hm1 h1 A2 n2 c2 l2 hn2 hc2 hm2 h2 fuel big1 big2 big3 k1
  | true =>
    by_cases k2 : fuel < 0
    · exact bad_2 W A1 n1 c1 l1 g1 hn1 hc1 hm1 h1 A2 n2 c2 l2 hn2 hc2 hm2 h2 fuel big1 big2 big3 k1 k2
    · exact good W A1 n1 c1 l1 g1 hn1 hc1 hm1 h1 A2 n2 c2 l2 hn2 hc2 hm2 h2 fuel big1 big2 big3 k1 k2
theorem contract (H : Type) (enc : TypeId × Value → H) (W : World) (base : Nat) (args : Array Value) (ds gs : List (DataW H)) (before : List MemPlace)
    (hval : ∀ (j : Nat) t v, Try.f6.params[j]? = some t → args[j]? = some v → Value.okWide Try.prog W .any base t v)
    (hW : DataW.Whole enc Try.prog Try.f6.params.toList Rows.findAllSpec.vars false W args.toList ds gs before) :
    Calls Try.prog 6 args W fun e W' => ∃ v, e = .returned v ∧ Rows.findAllSpec.post enc Try.prog Try.f6 false true false false W args v W' := by
  have hW' := hW
  obtain ⟨p, q, hA, hV, rfl, hfz, hnd⟩ := hW
  rw [Try.params6] at hA hval
  obtain ⟨v0, vs0, d0, ds0, p0, q0, hargs, rfl, rfl, h0, r0⟩ := trodAll_cons hA
  obtain ⟨v1, vs1, d1, ds1, p1, q1, rfl, rfl, rfl, h1, r1⟩ := trodAll_cons r0
  obtain ⟨v2, vs2, d2, ds2, p2, q2, rfl, rfl, rfl, h2, r2⟩ := trodAll_cons r1
  obtain ⟨rfl, rfl, rfl⟩ := trodAll_nil r2
  obtain rfl : args = #[v0, v1, v2] := by cases args; simp_all
  obtain ⟨rfl, rfl⟩ := trodVars_none hV
  obtain ⟨A0, n0, c0, l0, g0, rfl, e0, k0, m0, x0⟩ := open_re (hval 0 24 v0 rfl rfl) h0
  obtain ⟨A1, n1, c1, l1, rfl, e1, k1, m1, x1⟩ := open_byt Try.underlying25 Try.underlying5 (by kernel_rfl) (hval 1 25 v1 rfl rfl) h1
  obtain ⟨a2, rfl, rfl, rfl, w2⟩ := open_int Try.underlying3 (hval 2 3 v2 rfl rfl) h2
  exact (core W A0 n0 c0 l0 g0 e0 k0 m0 x0 A1 n1 c1 l1 e1 k1 m1 x1 a2 w2).mono fun e W' ⟨he, hb⟩ => ⟨_, he, law_post hW' rfl (by kernel_rfl) (by kernel_rfl) rfl hb⟩

theorem laid_met (os : Os) : laidMetH Try.prog Rows.findAllRow.laid ((World.doorLaid Try.prog 4000 os).forCall (fun _ _ => 0) ⟨#[], #[.agg #[.slice none 0 0, .int .i64 0], .slice none 0 0, .int .i64 0], []⟩).memory :=
  laidMetH_of_parts3 (fuel := 8) (laidMet_of_run' 8 (by kernel_rfl) (by kernel_rfl)) (by kernel_rfl) (by kernel_rfl)
theorem reads (os : Os) {H : Type} (enc : TypeId × Value → H) : ∃ places, DataW.whole enc Try.prog ((World.doorLaid Try.prog 4000 os).forCall (fun _ _ => 0) ⟨#[], #[.agg #[.slice none 0 0, .int .i64 0], .slice none 0 0, .int .i64 0], []⟩).memory Try.f6.params.toList Rows.findAllSpec.vars false #[Value.agg #[.slice none 0 0, .int .i64 0], .slice none 0 0, .int .i64 0].toList 8 = some ([.agg [.nil, .lit (.int .i64 0)], .nil, .lit (.int .i64 0)], [], places) :=
  ⟨[], by kernel_rfl⟩

set_option maxRecDepth 100000 in
theorem lifted (os : Os) (started : os.Started) (H : Type) (enc : TypeId × Value → H) (F : Stop.Interp) :
    ReturnsInHanded {} Try.checked os 6 .any ((OpenSpec.ofChange Rows.findAllSpec).preRow enc Try.prog Try.f6 Rows.findAllRow.domain false Rows.findAllRow.laid) (((OpenSpec.ofChange Rows.findAllSpec).at F).post enc Try.prog Try.f6 false true false false) := by
  obtain ⟨places, hx⟩ := reads os enc
  refine returnsInHanded_of_row (C := Try.checked) (s := (OpenSpec.ofChange Rows.findAllSpec)) own started (by kernel_rfl) Try.func6
    (witness_row_at (enc := enc) (C := Try.checked) false (World.doorLaid Try.prog 4000 os) #[.agg #[.slice none 0 0, .int .i64 0], .slice none 0 0, .int .i64 0] rfl (by kernel_rfl) (by kernel_rfl) (by kernel_rfl)
      (OpenSpec.preRow_of_cond 8 hx (by kernel_rfl) (fun k hk => by cases hk) (by kernel_rfl) (laid_met os))) ?_
  intro W base args ds gs before hval hW _ _ _ _ _ _
  exact contract H enc W base args ds gs before hval hW

theorem said : Rows.FindAllSaid :=
  OpenClaim.holds_of_cond 6 Try.f6 rfl rfl rfl rfl rfl rfl rfl ⟨rfl, rfl, rfl, rfl, rfl⟩ rfl rfl rfl rfl rfl (by kernel_rfl) Try.func6 (by kernel_rfl)
    (of_decide_eq_true (by kernel_rfl)) (by unfold Func.isWrapper; first | (rw [if_pos (by decide +kernel)]; kernel_rfl) | (rw [if_neg (by decide +kernel)]; exact ⟨rfl, rfl⟩))
    (fun os started H enc _ F => by rw [OpenClaim.pre_eq_preRow]; exact lifted os started H enc F)

end Go.Proofs.Ytjopmieaikgbcaa.All
