/- Contracts: the code's Same, of any parts. -/
import Derived.Test.YtkfdehkembcaoaaSwpQ
import Derived.Test.YtkfdehkembcaoaaByK
import Derived.Test.YtkfdehkembcaoaaSmB
import Derived.Shelf.Abstract
import Derived.Deep.RegionHeld3
set_option linter.unusedVariables false
set_option linter.unusedSimpArgs false
set_option maxRecDepth 100000
namespace Go.Proofs.Ytkfdehkembcaoaa
open Go.RowKit

theorem sw_in {w : World} {B : Nat} {A : Option Addr} {l : List UInt8} (h : Byt w B A l) : Lib.BytesIn w A l.length (ints l) := by
  cases A with
  | none => obtain rfl := h.none_nil; exact Lib.BytesIn.nil _ _ _
  | some a => exact Lib.BytesIn.of_cells h.cells
theorem sw_equal {w : World} {B1 B2 : Nat} {v1 v2 : Value} {l1 l2 : List UInt8} (h1 : BytV w B1 v1 l1) (h2 : BytV w B2 v2 l2) : Calls Try.prog 39 #[v1, v2] w fun e w' => e = .returned (.bool (l1 == l2)) ∧ w = w' := by
  obtain ⟨A1, n1, c1, rfl, rfl, -, -, b1⟩ := h1
  obtain ⟨A2, n2, c2, rfl, rfl, -, -, b2⟩ := h2
  refine (Try.bytes_Equal_all A1 A2 _ c1 _ c2 (ints l1) (ints l2) w (ints_len l1) (ints_len l2) (sw_in b1) (sw_in b2)).mono fun e w' ⟨he, hw⟩ => ⟨?_, hw.symm⟩
  rw [he, ints_bytes, ints_bytes]
def EqTo (l1 l2 : List Prt) (k : Nat) : Prop := ∀ j, j < k → l1[j]? = l2[j]?
theorem EqTo.all {l1 l2 : List Prt} {k : Nat} (h : EqTo l1 l2 k) (h1 : l1.length = k) (h2 : l2.length = k) : l1 = l2 := List.ext_getElem? fun j => by
  rcases Nat.lt_or_ge j k with hj | hj
  · exact h j hj
  · rw [List.getElem?_eq_none (by omega), List.getElem?_eq_none (by omega)]
theorem prt_ext {p q : Prt} (h1 : p.kind = q.kind) (h2 : p.grp = q.grp) (h3 : p.b = q.b) : p = q := by
  cases p; cases q; simp only at h1 h2 h3; rw [h1, h2, h3]
/-- What Same tells. -/
def SmP (w : World) (l1 l2 : List Prt) (e : Ending) (w' : World) : Prop := (∃ b, e = .returned (.bool b) ∧ (b = true ↔ l1 = l2)) ∧ Below w.heap.size w w'
/-- What samePart tells. -/
def SpP (w : World) (p q : Prt) (e : Ending) (w' : World) : Prop := (∃ b, e = .returned (.bool b) ∧ (b = true ↔ p = q)) ∧ Below w.heap.size w w'
theorem SpP.no {w w' : World} {p q : Prt} (h : p ≠ q) (hb : Below w.heap.size w w') : SpP w p q (.returned (.bool false)) w' := ⟨⟨false, rfl, fun e => (by cases e), fun e => absurd e h⟩, hb⟩
set_option maxHeartbeats 4000000 in
theorem samePart_any {w : World} {B : Nat} {k g k' g' : Int} {v1 v2 : Value} {b b' : List UInt8} (hB : B ≤ w.heap.size) (h1 : BytV w B v1 b) (h2 : BytV w B v2 b') :
    Calls Try.prog 32 #[.agg #[.int .i64 k, .int .i64 g, v1], .agg #[.int .i64 k', .int .i64 g', v2]] w (SpP w ⟨k, g, b⟩ ⟨k', g', b'⟩) := by
  have hb := Lib.hid (((Below.refl w.heap.size w).alloc (Nat.le_refl _) (.cells #[.int .i64 k, .int .i64 g, v1] 45)).alloc (by simp) (.cells #[.int .i64 k', .int .i64 g', v2] 45))
  have hE := Lib.hid (fun (w' : World) (hb : Below w.heap.size w w') => sw_equal (h1.below (hb.mono hB)) (h2.below (hb.mono hB)))
  obtain ⟨A1, n1, c1, rfl, -⟩ := h1
  obtain ⟨A2, n2, c2, rfl, -⟩ := h2
  by_cases hk : k = k'
  · have e0 : (k == k') = true := by rw [beq_iff_eq]; exact hk
    by_cases hg : g = g'
    · have e1 : (g == g') = true := by rw [beq_iff_eq]; exact hg
      obtain ⟨bb, hbb⟩ : ∃ bb, (b == b') = bb := ⟨_, rfl⟩
      have hfin := Lib.hid (show (bb = true ↔ (⟨k, g, b⟩ : Prt) = ⟨k', g', b'⟩) from by
        rw [← hbb, beq_iff_eq]
        exact ⟨fun e => prt_ext hk hg e, fun e => congrArg Prt.b e⟩)
      rw [hbb] at hE
      replace hk := Lib.hid hk
      replace hg := Lib.hid hg
      replace hbb := Lib.hid hbb
      clear hB
      go_enter Try.func32, Try.ntmps32
      go_wp2_with (go_at_call 39; refine (hE.out _ hb.out).mono ?_; rintro e w3 ⟨rfl, rfl⟩)
      go_ret
      exact ⟨⟨_, rfl, hfin.out⟩, hb.out⟩
    · have e1 : (g == g') = false := by rw [beq_eq_false_iff_ne]; exact hg
      have hfin := Lib.hid (show (⟨k, g, b⟩ : Prt) ≠ ⟨k', g', b'⟩ from fun e => hg (congrArg Prt.grp e))
      replace hk := Lib.hid hk
      replace hg := Lib.hid hg
      clear hB
      go_enter Try.func32, Try.ntmps32
      go_wp2
      go_ret
      exact SpP.no hfin.out hb.out
  · have e0 : (k == k') = false := by rw [beq_eq_false_iff_ne]; exact hk
    have hfin := Lib.hid (show (⟨k, g, b⟩ : Prt) ≠ ⟨k', g', b'⟩ from fun e => hk (congrArg Prt.kind e))
    replace hk := Lib.hid hk
    clear hB
    go_enter Try.func32, Try.ntmps32
    go_wp2
    go_ret
    exact SpP.no hfin.out hb.out
section
variable {w : World} {B : Nat} {A1 A2 : Option Addr} {n n2 c1 c2 : Nat} {l1 l2 : List Prt}
set_option maxHeartbeats 4000000 in
theorem equalFunc_two (hn : n = l1.length) (hn2 : n = l2.length) (hc1 : n ≤ c1) (hm1 : c1 ≤ maxLen) (hc2 : n ≤ c2) (hm2 : c2 ≤ maxLen) (hB : B ≤ w.heap.size) (h1 : Prts w B A1 l1) (h2 : Prts w B A2 l2) :
    Calls Try.prog 31 #[.slice A1 n c1, .slice A2 n c2, .func (.func 32) #[] #[]] w (SmP w l1 l2) := by
  unfold maxLen at hm1 hm2
  have eg : ∀ args w, (callFunc 32 args).run Try.prog w = .ok (.enter 32 args) w := enters_of Try.func32 (by kernel_rfl) rfl
  have hnh := Lib.hid hn
  have hnh2 := Lib.hid hn2
  have hBh := Lib.hid hB
  have h1h := Lib.hid h1
  have h2h := Lib.hid h2
  clear hn hn2 hB h1 h2
  go_enter Try.func31, Try.ntmps31
  go_wp2
  go_loopw [17] (fun i wr => ∃ k : Nat, k ≤ n ∧ i = .int .i64 (k : Nat) ∧ EqTo l1 l2 k ∧ Below w.heap.size w wr) (fun i _ => n - (intOf i).toNat)
  case atStart => exact ⟨0, Nat.zero_le _, rfl, fun j hj => absurd hj (Nat.not_lt_zero j), Below.refl _ _⟩
  case round =>
    obtain ⟨k, hk, rfl, hEq, hbr⟩ := hrel
    have hbrh := Lib.hid hbr
    have hEqh := Lib.hid hEq
    clear hbr hEq
    by_cases hlt : k < n
    · have hkx : k < l1.length := by rw [← hnh.out]; exact hlt
      have hky : k < l2.length := by rw [← hnh2.out]; exact hlt
      obtain ⟨ad, vb, rfl, had, c0, cc1, cc2, hvb⟩ := (h1h.out.below (hbrh.out.mono hBh.out)) k hkx
      obtain ⟨ad', vb', rfl, had', d0, d1, d2, hvb'⟩ := (h2h.out.below (hbrh.out.mono hBh.out)) k hky
      have hbw := Lib.hid (show B ≤ wr.heap.size from Nat.le_trans hBh.out hbrh.out.size)
      have hS := Lib.hid (fun (w' : World) (hb : Below wr.heap.size wr w') => samePart_any (k := (l1[k]'hkx).kind) (g := (l1[k]'hkx).grp) (k' := (l2[k]'hky).kind) (g' := (l2[k]'hky).grp) (Nat.le_trans hbw.out hb.size) (hvb.below (hb.mono hbw.out)) (hvb'.below (hb.mono hbw.out)))
      have hno := Lib.hid (fun (h : l1[k]'hkx ≠ l2[k]'hky) => show (false = true ↔ l1 = l2) from ⟨fun h => (by cases h), fun e => absurd (by subst e; rfl) h⟩)
      have hnx := Lib.hid (fun (h : l1[k]'hkx = l2[k]'hky) => show EqTo l1 l2 (k + 1) from fun j hj => by
        rcases Nat.lt_or_ge j k with h1 | h1
        · exact hEqh.out j h1
        · obtain rfl : j = k := by omega
          rw [List.getElem?_eq_getElem hkx, List.getElem?_eq_getElem hky, h])
      obtain ⟨Av, nv, cv, rfl, -⟩ := hvb
      obtain ⟨Av', nv', cv', rfl, -⟩ := hvb'
      have hkI : (k : Int) < (n : Int) := by omega
      have hkc1 : k < c1 := by omega
      have hw2 : IntKind.i64.wrap ((k : Int) + 1) = (k : Int) + 1 := IntWalk.i64_in _ (by omega)
      have hq : (ad'.add (k * 3)).block < wr.heap.size := by rw [block_add]; exact Nat.lt_of_lt_of_le had' hbw.out
      generalize hp : l1[k]'hkx = p at *
      generalize hq2 : l2[k]'hky = q at *
      replace hp := Lib.hid hp
      replace hq2 := Lib.hid hq2
      obtain ⟨pk, pg, pb⟩ := p
      obtain ⟨qk, qg, qb⟩ := q
      simp only at c0 cc1 cc2 d0 d1 d2 hS
      have hP := Lib.hid (held_new wr 45 #[.int .i64 pk, .int .i64 pg, .slice Av nv cv])
      have hb2 := Lib.hid ((Below.refl wr.heap.size wr).alloc (Nat.le_refl _) (.cells #[.int .i64 pk, .int .i64 pg, .slice Av nv cv] 45))
      have e0 := Lib.hid ((hb2.out.cell hq).trans d0)
      have e1 := Lib.hid ((hb2.out.cell (p := ⟨(ad'.add (k * 3)).block, (ad'.add (k * 3)).off + 1, none⟩) hq).trans d1)
      have e2 := Lib.hid ((hb2.out.cell (p := ⟨(ad'.add (k * 3)).block, (ad'.add (k * 3)).off + 2, none⟩) hq).trans d2)
      clear d0 d1 d2
      go_upto_region 6 with fail
      generalize wr.alloc (.cells #[.int .i64 pk, .int .i64 pg, .slice Av nv cv] 45) = w2 at *
      have d0 := e0.out
      have d1 := e1.out
      have d2 := e2.out
      clear e0 e1 e2 c0 cc1 cc2
      have hQ := Lib.hid (held_new w2 45 #[.int .i64 qk, .int .i64 qg, .slice Av' nv' cv'])
      have hP2 := Lib.hid (hP.out.alloc (.cells #[.int .i64 qk, .int .i64 qg, .slice Av' nv' cv'] 45))
      have hb3 := Lib.hid (hb2.out.alloc hb2.out.size (.cells #[.int .i64 qk, .int .i64 qg, .slice Av' nv' cv'] 45))
      go_upto_region 7 with fail
      generalize w2.alloc (.cells #[.int .i64 qk, .int .i64 qg, .slice Av' nv' cv'] 45) = w3 at *
      have p0 : w3.cell? ⟨wr.heap.size, 0, none⟩ = some (.int .i64 pk) := hP2.out.at_ rfl
      have p1 : w3.cell? ⟨wr.heap.size, 1, none⟩ = some (.int .i64 pg) := hP2.out.at_ rfl
      have p2 : w3.cell? ⟨wr.heap.size, 2, none⟩ = some (.slice Av nv cv) := hP2.out.at_ rfl
      have q0 : w3.cell? ⟨w2.heap.size, 0, none⟩ = some (.int .i64 qk) := hQ.out.at_ rfl
      have q1 : w3.cell? ⟨w2.heap.size, 1, none⟩ = some (.int .i64 qg) := hQ.out.at_ rfl
      have q2 : w3.cell? ⟨w2.heap.size, 2, none⟩ = some (.slice Av' nv' cv') := hQ.out.at_ rfl
      clear d0 d1 d2
      go_wp2_with (go_at_fn 32; refine (hS.out _ hb3.out).mono ?_; rintro e w4 ⟨⟨bb, rfl, hbb⟩, hb4'⟩; have hb4 := Lib.hid (hbrh.out.trans ((hb3.out.trans (hb4'.mono hb3.out.size)).mono hbrh.out.size)); have hbbh := Lib.hid hbb; clear hbb; cases bb)
      · go_ret
        exact ⟨⟨false, rfl, hno.out fun e => (by have := hbbh.out.2 e; cases this)⟩, hb4.out⟩
      · go_roundw
        case rel => exact ⟨k + 1, by omega, rfl, hnx.out (hbbh.out.1 (by first | rfl | trivial)), hb4.out⟩
        case measure => simp [intOf]; omega
    · obtain rfl : k = n := by omega
      have hfin := Lib.hid (hEqh.out.all hnh.out.symm hnh2.out.symm)
      go_wp2
      go_ret
      exact ⟨⟨true, rfl, ⟨fun _ => hfin.out, fun _ => rfl⟩⟩, hbrh.out⟩
theorem equalFunc_any (hn : n = l1.length) (hn2 : n2 = l2.length) (hc1 : n ≤ c1) (hm1 : c1 ≤ maxLen) (hc2 : n2 ≤ c2) (hm2 : c2 ≤ maxLen) (hB : B ≤ w.heap.size) (h1 : Prts w B A1 l1) (h2 : Prts w B A2 l2) :
    Calls Try.prog 31 #[.slice A1 n c1, .slice A2 n2 c2, .func (.func 32) #[] #[]] w (SmP w l1 l2) := by
  by_cases he : n = n2
  · subst he
    exact equalFunc_two hn hn2 hc1 hm1 hc2 hm2 hB h1 h2
  · have e1 : ((n : Int) != (n2 : Int)) = true := by rw [bne_iff_ne]; omega
    have hfin := Lib.hid (show (false = true ↔ l1 = l2) from ⟨fun h => (by cases h), fun e => absurd (by rw [hn, hn2, e]) he⟩)
    unfold maxLen at hm1 hm2
    clear hn hn2 h1 h2 he
    go_enter Try.func31, Try.ntmps31
    go_wp2
    go_ret
    exact ⟨⟨false, rfl, hfin.out⟩, Below.refl _ _⟩
theorem sameP_any (hn : n = l1.length) (hn2 : n2 = l2.length) (hc1 : n ≤ c1) (hm1 : c1 ≤ maxLen) (hc2 : n2 ≤ c2) (hm2 : c2 ≤ maxLen) (hB : B ≤ w.heap.size) (h1 : Prts w B A1 l1) (h2 : Prts w B A2 l2) :
    Calls Try.prog 19 #[.slice A1 n c1, .slice A2 n2 c2] w (SmP w l1 l2) := by
  have hE := Lib.hid (equalFunc_any hn hn2 hc1 hm1 hc2 hm2 hB h1 h2)
  clear h1 h2 hn hn2
  go_enter Try.func19, Try.ntmps19
  go_wp2_with (go_at_call 31; refine (hE.out).mono ?_; rintro e w1 ⟨⟨bb, rfl, hbb⟩, hb1⟩; have hbbh := Lib.hid hbb; clear hbb)
  go_ret
  exact ⟨⟨bb, rfl, hbbh.out⟩, hb1⟩
end
end Go.Proofs.Ytkfdehkembcaoaa
