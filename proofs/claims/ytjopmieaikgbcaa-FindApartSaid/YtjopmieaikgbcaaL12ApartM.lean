/- FindApart answers true at every regular expression and text, and they read afterwards as they read before. Conditions: none. -/
import Derived.Test.YtjopmieaikgbcaaM27
set_option linter.unusedVariables false
set_option linter.unusedSimpArgs false
set_option maxRecDepth 100000
namespace Go.Proofs.Ytjopmieaikgbcaa.Apart
open Go.ChangeShapes Go.WideShapes Go.ChangeAt Go.RowKit

/-- One behind the other, each behind e. -/
def ApL (len : Int) : Int → List Spn → Prop
  | _, [] => True
  | e, s :: r => (e ≤ (s 0).1 ∧ e < (s 0).2 ∧ 0 ≤ (s 0).1 ∧ (s 0).1 ≤ (s 0).2 ∧ (s 0).2 ≤ len) ∧ ApL len (s 0).2 r
theorem apl_at {len : Int} : ∀ (xs : List Spn) (e : Int), ApL len e xs → ∀ i (h : i < xs.length), (0 ≤ ((xs[i]'h) 0).1 ∧ ((xs[i]'h) 0).1 ≤ ((xs[i]'h) 0).2 ∧ ((xs[i]'h) 0).2 ≤ len)
  | [], _, _, i, h => absurd h (Nat.not_lt_zero i)
  | s :: r, e, ha, 0, h => ha.1.2.2
  | s :: r, e, ha, i + 1, h => apl_at r _ ha.2 i (Nat.lt_of_succ_lt_succ h)
theorem apl_next {len : Int} : ∀ (xs : List Spn) (e : Int), ApL len e xs → ∀ i (h : i + 1 < xs.length), (((xs[i]'(Nat.lt_of_succ_lt h)) 0).2 ≤ ((xs[i + 1]'h) 0).1 ∧ ((xs[i]'(Nat.lt_of_succ_lt h)) 0).2 < ((xs[i + 1]'h) 0).2)
  | [], _, _, i, h => absurd h (Nat.not_lt_zero _)
  | [_], _, _, i, h => absurd h (by simp)
  | s :: q :: r, e, ha, 0, h => ⟨ha.2.1.1, ha.2.1.2.1⟩
  | s :: q :: r, e, ha, i + 1, h => apl_next (q :: r) _ ha.2 i (Nat.lt_of_succ_lt_succ h)
theorem all_apl {ns : List Nod} {t : List UInt8} {n last len : Int} (hsp : ∀ (a : Nat) (M left : Int) (s : Spn), (a : Int) ≤ last → Told11 ns t n a M (some (some s, left)) → (s 0).1 = (a : Int) ∧ (a : Int) ≤ (s 0).2 ∧ (s 0).2 ≤ len) {a : Nat} {e M : Int} {r : Option (List Spn × Int)} (h : All12 ns t n last a e M r) : e ≤ a → ∀ x, r = some x → ApL len e x.1 := by
  induction h with
  | over hl hx => intro _ x hx; cases hx
  | @miss a e M left r hl hx _ ih => intro he x hr; exact ih (by omega) x hr
  | @drop a e M left s r hl hx he _ ih => intro he x hr; exact ih (by omega) x hr
  | @take a e M left s b r hl hx he hb _ ih =>
    intro hea x hr
    have h1 := hsp a M left s hl hx
    cases r with
    | none => cases hr
    | some y =>
      simp only [Option.map_some, Option.some.injEq] at hr
      subst hr
      exact ⟨⟨by omega, he, by omega, by omega, h1.2.2⟩, ih (by omega) y rfl⟩
  | ends hl => intro _ x hr; simp only [Option.some.injEq] at hr; subst hr; trivial
theorem apart_of {ns : List Nod} {t : List UInt8} {g : Int} {fuel : Int} {xs : List Spn} {left : Int} (hr : rightN ns g = true) (h : All12 ns t ((ns.length : Int) - 1) (lastP ns t g) 0 (-1) fuel (some (xs, left))) : ApL (t.length : Int) (-1) xs := by
  have hrt := right_rt hr
  have hn1 : 1 ≤ ns.length := by
    unfold rightN at hr
    simp only [Bool.and_eq_true, decide_eq_true_eq] at hr
    exact hr.1.1.1.1
  have hlb := least_bounds (ns := ns) (g := g)
  refine all_apl (fun a M left s hl hx => ?_) h (by decide) _ rfl
  have h1 := told_span hrt hn1 (by unfold lastP at hl; omega) hx
  exact ⟨h1.1, h1.2.1, h1.2.2.1⟩
/-- All's answers, as the law parts them. -/
theorem all_parts {w w' : World} {ns : List Nod} {g : Int} {t : List UInt8} {fuel : Int} {e : Ending} (h : AllQ w ns g t fuel e w') : (∃ z : Int, z ≠ 0 ∧ e = .returned (.tuple #[.slice none 0 0, .int .i64 0, .int .i64 z])) ∨ (∃ xs A c left, e = .returned (.tuple #[.slice A xs.length c, .int .i64 left, .int .i64 0]) ∧ ApL (t.length : Int) (-1) xs ∧ xs.length ≤ maxLen ∧ ((xs = [] ) ∨ ∃ G, A = some ⟨G, 0, none⟩ ∧ G < w'.heap.size ∧ ∀ j u, (hitsL xs)[j]? = some u → w'.cell? ⟨G, j, none⟩ = some u)) := by
  rcases h with ⟨-, rfl⟩ | ⟨-, -, rfl⟩ | ⟨⟨hr, -⟩, xs, left, v, h, rfl, hrow⟩
  · exact .inl ⟨1, by decide, rfl⟩
  · exact .inl ⟨18, by decide, rfl⟩
  · have ha := apart_of hr h
    cases xs with
    | nil =>
      rcases hrow.2 with ⟨rfl, _⟩ | ⟨G, cap, _, rfl, _⟩
      · exact .inr ⟨[], _, _, left, rfl, ha, Nat.zero_le _, .inl rfl⟩
      · exact .inr ⟨[], _, _, left, rfl, ha, Nat.zero_le _, .inl rfl⟩
    | cons s r =>
      have hl : (s :: r).length = r.length + 1 := rfl
      rw [hl] at hrow
      obtain ⟨G, c, rfl⟩ := ownsRow_succ hrow
      have hmx : (s :: r).length ≤ maxLen := by
        obtain ⟨hl, ⟨h0, _⟩ | ⟨g, cap, cur, h0, _, hh, hnc, hcm, hsz, htake⟩⟩ := id hrow
        · cases h0
        · show r.length + 1 ≤ maxLen; omega
      refine .inr ⟨s :: r, _, c, left, rfl, ha, hmx, .inr ⟨G, rfl, (hrow.lt G rfl).2, fun j u hj => ?_⟩⟩
      have hjl : j < (hitsL (s :: r)).length := (List.getElem?_eq_some_iff.1 hj).1
      rw [hrow.cellAt j (by rw [hitsL_len] at hjl; exact hjl)]
      exact hj
theorem hitsL_span (xs : List Spn) : ∀ k (h : k < xs.length), (hitsL xs)[k * 20]? = some (.int .i64 ((xs[k]'h) 0).1) ∧ (hitsL xs)[k * 20 + 1]? = some (.int .i64 ((xs[k]'h) 0).2) := by
  induction xs with
  | nil => intro k h; exact absurd h (Nat.not_lt_zero k)
  | cons s r ih =>
    intro k h
    have e : hitsL (s :: r) = hitL s ++ hitsL r := by simp [hitsL]
    have hl := hitL_len s
    cases k with
    | zero =>
      rw [e, List.getElem?_append_left (by omega), List.getElem?_append_left (by omega)]
      exact ⟨rfl, rfl⟩
    | succ k =>
      have hk := ih k (Nat.lt_of_succ_lt_succ h)
      rw [e, List.getElem?_append_right (by omega), List.getElem?_append_right (by omega), hl, show (k + 1) * 20 - 20 = k * 20 by omega, show (k + 1) * 20 + 1 - 20 = k * 20 + 1 by omega]
      exact hk
def RelA (w3 : World) (n : Nat) (i : Value) (wr : World) : Prop := ∃ k : Nat, k ≤ n ∧ i = .int .i64 ((k : Nat) : Int) ∧ Below w3.heap.size w3 wr
theorem RelA.mk {w3 : World} {n : Nat} {i : Value} {wr : World} (h : ∃ k : Nat, k ≤ n ∧ i = .int .i64 ((k : Nat) : Int) ∧ Below w3.heap.size w3 wr) : RelA w3 n i wr := h
set_option maxHeartbeats 16000000 in
theorem core (W : World) (A1 : Option Addr) (n1 c1 : Nat) (l1 : List Nod) (g1 : Int) (hn1 : n1 = l1.length) (hc1 : n1 ≤ c1) (hm1 : c1 ≤ maxLen) (h1 : Nods W W.heap.size A1 l1)
    (A2 : Option Addr) (n2 c2 : Nat) (l2 : List UInt8) (hn2 : n2 = l2.length) (hc2 : n2 ≤ c2) (hm2 : c2 ≤ maxLen) (h2 : Byt W W.heap.size A2 l2) :
    Calls Try.prog 8 #[.agg #[.slice A1 n1 c1, .int .i64 g1], .slice A2 n2 c2] W fun e W' => e = .returned (.bool true) ∧ Below W.heap.size W W' := by
  have hW := Lib.hid awake12_any
  have hb0 := Lib.hid ((Below.refl W.heap.size W).alloc (Nat.le_refl _) (.cells #[.slice A1 n1 c1, .int .i64 g1] 24))
  by_cases hbig : 40 < n1
  · clear hn1 h1 hn2 h2
    unfold maxLen at hm1 hm2
    go_enter Try.func8, Try.ntmps8
    go_wp2_with (go_at_call 14; refine (hW.out _).mono ?_; rintro e w1 ⟨rfl, hb1⟩)
    go_ret
    exact ⟨rfl, hb0.out.trans (hb1.mono hb0.out.size)⟩
  by_cases hbig2 : 10 < n2
  · clear hn1 h1 hn2 h2
    unfold maxLen at hm1 hm2
    go_enter Try.func8, Try.ntmps8
    go_wp2_with (go_at_call 14; refine (hW.out _).mono ?_; rintro e w1 ⟨rfl, hb1⟩)
    go_ret
    exact ⟨rfl, hb0.out.trans (hb1.mono hb0.out.size)⟩
  have e1 : decide ((40 : Int) < (n1 : Int)) = false := decide_eq_false (by omega)
  have e2 : decide ((10 : Int) < (n2 : Int)) = false := decide_eq_false (by omega)
  have hAll := Lib.hid (findAll_any (g := g1) (B := W.heap.size) 3000 (show AtIn (W.alloc (.cells #[.slice A1 n1 c1, .int .i64 g1] 24)) W.heap.size A1 n1 c1 A2 n2 c2 l1 l2 from ⟨hn1, hc1, hm1, hb0.out.size, h1.below hb0.out, hn2, hc2, hm2, by omega, h2.below hb0.out⟩) (by decide))
  have hn2h := Lib.hid hn2
  clear h1 h2 hn2 hm1 hm2 hn1
  go_enter Try.func8, Try.ntmps8
  go_upto_region 4 with (first
    | (go_at_call 17; refine (hAll.out).mono ?_; rintro e w3 ⟨hP, hb3⟩; have hb4 := Lib.hid (hb0.out.trans (hb3.mono hb0.out.size)); have hpp := all_parts hP; clear hb3 hP; rcases hpp with ⟨z, hz, rfl⟩ | ⟨xs, Av, cv, left, rfl, hap, hmx, hcells⟩))
  · have hz1 : (z == 0) = false := beq_eq_false_iff_ne.2 hz
    have hz2 : (z != 0) = true := by rw [bne, hz1]; rfl
    clear hAll hb0
    go_wp2_with (go_at_call 14; refine (hW.out _).mono ?_; rintro e w6 ⟨rfl, hb6⟩)
    go_ret
    exact ⟨rfl, hb4.out.trans (hb6.mono hb4.out.size)⟩
  · have hap1 := Lib.hid (apl_at xs _ hap)
    have hap2 := Lib.hid (apl_next xs _ hap)
    have hxs := Lib.hid (hitsL_span xs)
    replace hcells := Lib.hid hcells
    unfold maxLen at hmx
    clear hAll hb0 hap
    go_upto_region 6 with fail
    go_wp2
    go_loopw [8] (fun i wr => RelA w3 xs.length i wr) (fun i _ => xs.length - (intOf i).toNat)
    case atStart => exact RelA.mk ⟨0, Nat.zero_le _, rfl, Below.refl _ _⟩
    case round =>
      obtain ⟨k, hk, rfl, hb⟩ := hrel
      by_cases hlt : k < xs.length
      · rcases hcells.out with hnil | ⟨G, rfl, hG, hcl⟩
        · rw [hnil] at hlt; exact absurd hlt (Nat.not_lt_zero k)
        have hc0 := (hb.cell (p := ⟨G, k * 20, none⟩) hG).trans (hcl _ _ (hxs.out k hlt).1)
        have hc1' := (hb.cell (p := ⟨G, k * 20 + 1, none⟩) hG).trans (hcl _ _ (hxs.out k hlt).2)
        have hat := hap1.out k hlt
        have hbw := Lib.hid hb
        have hn2' := hn2h.out
        cases k with
        | zero =>
          generalize ((xs[0]'hlt) 0).1 = s0 at *
          generalize ((xs[0]'hlt) 0).2 = s1 at *
          have d1 : decide (s0 < 0) = false := decide_eq_false (by omega)
          have d2 : decide (s1 < s0) = false := decide_eq_false (by omega)
          have d3 : decide ((n2 : Int) < s1) = false := decide_eq_false (by omega)
          replace hat := Lib.hid hat
          replace hn2' := Lib.hid hn2'
          clear hb hcl
          go_wp2
          go_roundw
          case rel => exact RelA.mk ⟨1, by omega, rfl, hbw.out.alloc hbw.out.size _⟩
          case measure => simp [intOf]; omega
        | succ m =>
          have hm' : m < xs.length := Nat.lt_of_succ_lt hlt
          have hp0 := (hb.cell (p := ⟨G, m * 20, none⟩) hG).trans (hcl _ _ (hxs.out m hm').1)
          have hp1 := (hb.cell (p := ⟨G, m * 20 + 1, none⟩) hG).trans (hcl _ _ (hxs.out m hm').2)
          have hnx := hap2.out m hlt
          generalize ((xs[m + 1]'hlt) 0).1 = s0 at *
          generalize ((xs[m + 1]'hlt) 0).2 = s1 at *
          generalize ((xs[m]'hm') 0).1 = p0 at *
          generalize ((xs[m]'hm') 0).2 = p1 at *
          have d1 : decide (s0 < 0) = false := decide_eq_false (by omega)
          have d2 : decide (s1 < s0) = false := decide_eq_false (by omega)
          have d3 : decide ((n2 : Int) < s1) = false := decide_eq_false (by omega)
          have d4 : decide (s0 < p1) = false := decide_eq_false (by omega)
          have d5 : ¬ (s0 = s1 ∧ s0 = p1) := by omega
          have hw1 : IntKind.i64.wrap (((m + 1 : Nat) : Int) - 1) = (m : Int) := by
            rw [show ((m + 1 : Nat) : Int) - 1 = (m : Int) by omega]; exact IntWalk.i64_in _ (by omega)
          have hw2 : IntKind.i64.wrap (m : Int) = (m : Int) := IntWalk.i64_in _ (by omega)
          have hw3 : IntKind.i64.wrap ((m : Int) + 1 - 1) = (m : Int) := by rw [show (m : Int) + 1 - 1 = (m : Int) by omega]; exact hw2
          have hw4 : IntKind.i64.wrap ((m : Int) + 1 + 1) = (m : Int) + 1 + 1 := IntWalk.i64_in _ (by omega)
          replace hat := Lib.hid hat
          replace hnx := Lib.hid hnx
          replace hn2' := Lib.hid hn2'
          clear hb hcl
          have hbn := Lib.hid (hbw.out.alloc hbw.out.size (.cells #[.int .i64 s0, .int .i64 s1] 28))
          have hp0' : (wr.alloc (.cells #[.int .i64 s0, .int .i64 s1] 28)).cell? ⟨G, m * 20, none⟩ = some (.int .i64 p0) := (((Below.refl wr.heap.size wr).alloc (Nat.le_refl _) (.cells #[.int .i64 s0, .int .i64 s1] 28)).cell (p := ⟨G, m * 20, none⟩) (Nat.lt_of_lt_of_le hG hbw.out.size)).trans hp0
          have hp1' : (wr.alloc (.cells #[.int .i64 s0, .int .i64 s1] 28)).cell? ⟨G, m * 20 + 1, none⟩ = some (.int .i64 p1) := (((Below.refl wr.heap.size wr).alloc (Nat.le_refl _) (.cells #[.int .i64 s0, .int .i64 s1] 28)).cell (p := ⟨G, m * 20 + 1, none⟩) (Nat.lt_of_lt_of_le hG hbw.out.size)).trans hp1
          clear hp0 hp1
          go_upto_region 14 with fail
          have hA5 := (held_new wr 28 #[.int .i64 s0, .int .i64 s1]).alloc (.cells #[.int .i64 p0, .int .i64 p1] 28)
          have hB5 := held_new2 wr (.cells #[.int .i64 s0, .int .i64 s1] 28) 28 #[.int .i64 p0, .int .i64 p1]
          have hbz := Lib.hid (hbn.out.alloc hbn.out.size (.cells #[.int .i64 p0, .int .i64 p1] 28))
          have q0 := hA5.at_ (i := 0) rfl
          have q1 := hA5.at_ (i := 1) rfl
          have q3 := hB5.at_ (i := 1) rfl
          generalize (wr.alloc (.cells #[.int .i64 s0, .int .i64 s1] 28)).alloc (.cells #[.int .i64 p0, .int .i64 p1] 28) = w5 at *
          clear hA5 hB5 hp0' hp1' hc0 hc1' hbn
          have q0 := q0
          by_cases hs : s0 = s1
          · have f1 : (s0 == s1) = true := beq_iff_eq.2 hs
            have f2 : (s0 == p1) = false := beq_eq_false_iff_ne.2 (fun e => d5 ⟨hs, e⟩)
            replace hs := Lib.hid hs
            clear d5
            go_wp2
            go_roundw
            case rel => exact RelA.mk ⟨m + 2, by omega, rfl, hbz.out⟩
            case measure => simp [intOf]; omega
          · have f1 : (s0 == s1) = false := beq_eq_false_iff_ne.2 hs
            replace hs := Lib.hid hs
            clear d5
            go_wp2
            go_roundw
            case rel => exact RelA.mk ⟨m + 2, by omega, rfl, hbz.out⟩
            case measure => simp [intOf]; omega
      · obtain rfl : k = xs.length := by omega
        have hbw := Lib.hid hb
        clear hb
        go_wp2_with (go_at_call 14; refine (hW.out _).mono ?_; rintro e w6 ⟨rfl, hb6⟩)
        go_ret
        exact ⟨rfl, hb4.out.trans ((hbw.out.trans (hb6.mono hbw.out.size)).mono hb4.out.size)⟩
theorem contract (H : Type) (enc : TypeId × Value → H) (W : World) (base : Nat) (args : Array Value) (ds gs : List (DataW H)) (before : List MemPlace)
    (hval : ∀ (j : Nat) t v, Try.f8.params[j]? = some t → args[j]? = some v → Value.okWide Try.prog W .any base t v)
    (hW : DataW.Whole enc Try.prog Try.f8.params.toList Rows.findApartSpec.vars false W args.toList ds gs before) :
    Calls Try.prog 8 args W fun e W' => ∃ v, e = .returned v ∧ Rows.findApartSpec.post enc Try.prog Try.f8 false true false false W args v W' := by
  have hW' := hW
  obtain ⟨p, q, hA, hV, rfl, hfz, hnd⟩ := hW
  rw [Try.params8] at hA hval
  obtain ⟨v0, vs0, d0, ds0, p0, q0, hargs, rfl, rfl, h0, r0⟩ := trodAll_cons hA
  obtain ⟨v1, vs1, d1, ds1, p1, q1, rfl, rfl, rfl, h1, r1⟩ := trodAll_cons r0
  obtain ⟨rfl, rfl, rfl⟩ := trodAll_nil r1
  obtain rfl : args = #[v0, v1] := by cases args; simp_all
  obtain ⟨rfl, rfl⟩ := trodVars_none hV
  obtain ⟨A0, n0, c0, l0, g0, rfl, e0, k0, m0, x0⟩ := open_re (hval 0 24 v0 rfl rfl) h0
  obtain ⟨A1, n1, c1, l1, rfl, e1, k1, m1, x1⟩ := open_byt Try.underlying25 Try.underlying5 (by kernel_rfl) (hval 1 25 v1 rfl rfl) h1
  exact (core W A0 n0 c0 l0 g0 e0 k0 m0 x0 A1 n1 c1 l1 e1 k1 m1 x1).mono fun e W' ⟨he, hb⟩ => ⟨_, he, law_post hW' rfl (by kernel_rfl) (by kernel_rfl) rfl hb⟩

theorem laid_met (os : Os) : laidMetH Try.prog Rows.findApartRow.laid ((World.doorLaid Try.prog 4000 os).forCall (fun _ _ => 0) ⟨#[], #[.agg #[.slice none 0 0, .int .i64 0], .slice none 0 0], []⟩).memory :=
  laidMetH_of_parts3 (fuel := 8) (laidMet_of_run' 8 (by kernel_rfl) (by kernel_rfl)) (by kernel_rfl) (by kernel_rfl)
theorem reads (os : Os) {H : Type} (enc : TypeId × Value → H) : ∃ places, DataW.whole enc Try.prog ((World.doorLaid Try.prog 4000 os).forCall (fun _ _ => 0) ⟨#[], #[.agg #[.slice none 0 0, .int .i64 0], .slice none 0 0], []⟩).memory Try.f8.params.toList Rows.findApartSpec.vars false #[Value.agg #[.slice none 0 0, .int .i64 0], .slice none 0 0].toList 8 = some ([.agg [.nil, .lit (.int .i64 0)], .nil], [], places) :=
  ⟨[], by kernel_rfl⟩

set_option maxRecDepth 100000 in
theorem lifted (os : Os) (started : os.Started) (H : Type) (enc : TypeId × Value → H) (F : Stop.Interp) :
    ReturnsInHanded {} Try.checked os 8 .any ((OpenSpec.ofChange Rows.findApartSpec).preRow enc Try.prog Try.f8 Rows.findApartRow.domain false Rows.findApartRow.laid) (((OpenSpec.ofChange Rows.findApartSpec).at F).post enc Try.prog Try.f8 false true false false) := by
  obtain ⟨places, hx⟩ := reads os enc
  refine returnsInHanded_of_row (C := Try.checked) (s := (OpenSpec.ofChange Rows.findApartSpec)) own started (by kernel_rfl) Try.func8
    (witness_row_at (enc := enc) (C := Try.checked) false (World.doorLaid Try.prog 4000 os) #[.agg #[.slice none 0 0, .int .i64 0], .slice none 0 0] rfl (by kernel_rfl) (by kernel_rfl) (by kernel_rfl)
      (OpenSpec.preRow_of_cond 8 hx (by kernel_rfl) (fun k hk => by cases hk) (by kernel_rfl) (laid_met os))) ?_
  intro W base args ds gs before hval hW _ _ _ _ _ _
  exact contract H enc W base args ds gs before hval hW

theorem said : Rows.FindApartSaid :=
  OpenClaim.holds_of_cond 8 Try.f8 rfl rfl rfl rfl rfl rfl rfl ⟨rfl, rfl, rfl, rfl, rfl⟩ rfl rfl rfl rfl rfl (by kernel_rfl) Try.func8 (by kernel_rfl)
    (of_decide_eq_true (by kernel_rfl)) (by unfold Func.isWrapper; first | (rw [if_pos (by decide +kernel)]; kernel_rfl) | (rw [if_neg (by decide +kernel)]; exact ⟨rfl, rfl⟩))
    (fun os started H enc _ F => by rw [OpenClaim.pre_eq_preRow]; exact lifted os started H enc F)

end Go.Proofs.Ytjopmieaikgbcaa.Apart
