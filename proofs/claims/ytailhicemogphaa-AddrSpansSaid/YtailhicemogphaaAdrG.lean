/- Contracts: Select (package addr) of two numbers, of a number and the last line, of two expressions with what is asked. -/
import Derived.Test.YtailhicemogphaaAdrE
set_option linter.unusedVariables false
set_option linter.unusedSimpArgs false
set_option maxRecDepth 100000
namespace Go.Proofs.Ytailhicemogphaa
open Go.RowKit

theorem k1_ok : (0 : Int) ≤ 1 ∧ (1 : Int) ≤ 3 := by decide
theorem k2_ok : (0 : Int) ≤ 2 ∧ (2 : Int) ≤ 3 := by decide
theorem k3_ok : (0 : Int) ≤ 3 ∧ (3 : Int) ≤ 3 := by decide
theorem select_11 {v : Value} (m1 m2 line : Int) (act last : Bool) (w : World) :
    Calls Try.prog 14 #[adV ⟨1, m1, 0⟩, adV ⟨1, m2, 0⟩, .bool act, .agg #[.int .i64 line, .bool last, v]] w fun e w' =>
      e = .returned (.tuple #[.bool (act || decide (m1 = line)), .bool ((act || decide (m1 = line)) && decide (line < m2)), .int .i64 0]) ∧ Below w.heap.size w w' := by
  cases act
  · refine (select_off (v := v) (one := ⟨1, m1, 0⟩) (two := ⟨1, m2, 0⟩) (line := line) (last := last) (w := w) (s := decide (m1 = line)) (r := none) (J := fun _ => True) k1_ok k1_ok (fun _ h => by cases h) (fun w1 _ => (holds_1 m1 line last w1).mono fun e w2 ⟨he, hq⟩ => ⟨he, grown_none hq _, trivial⟩) (fun _ _ _ _ => trivial)).mono fun e w' ⟨he, hq, _⟩ => ⟨?_, none_below hq⟩
    rw [he]; simp [goesS]
  · refine (select_on (v := v) (one := ⟨1, m1, 0⟩) (two := ⟨1, m2, 0⟩) (line := line) (last := last) (w := w) (s := decide (m2 ≤ line)) (r := none) (J := fun _ => True) k1_ok k1_ok (show (1 : Int) ≠ 0 by decide) (fun _ h => by cases h)
      (fun w1 _ => (ends_any (v := v) ⟨1, m2, 0⟩ line last w1 (s := false) (r := none) (J := fun _ => True) (fun _ h => by cases h) (fun h => absurd rfl h) (fun _ _ _ => trivial)).mono fun e w2 ⟨he, hq⟩ => ⟨by rw [he]; rfl, hq⟩) (fun _ _ _ _ => trivial)).mono fun e w' ⟨he, hq, _⟩ => ⟨?_, none_below hq⟩
    rw [he, show (!decide (m2 ≤ line)) = decide (line < m2) by rw [← decide_not, decide_eq_decide]; omega]; rfl
theorem select_12 {v : Value} (m1 line : Int) (act last : Bool) (w : World) :
    Calls Try.prog 14 #[adV ⟨1, m1, 0⟩, adV ⟨2, 0, 0⟩, .bool act, .agg #[.int .i64 line, .bool last, v]] w fun e w' =>
      e = .returned (.tuple #[.bool (act || decide (m1 = line)), .bool ((act || decide (m1 = line)) && !last), .int .i64 0]) ∧ Below w.heap.size w w' := by
  cases act
  · refine (select_off (v := v) (one := ⟨1, m1, 0⟩) (two := ⟨2, 0, 0⟩) (line := line) (last := last) (w := w) (s := decide (m1 = line)) (r := none) (J := fun _ => True) k1_ok k2_ok (fun _ h => by cases h) (fun w1 _ => (holds_1 m1 line last w1).mono fun e w2 ⟨he, hq⟩ => ⟨he, grown_none hq _, trivial⟩) (fun _ _ _ _ => trivial)).mono fun e w' ⟨he, hq, _⟩ => ⟨?_, none_below hq⟩
    rw [he]; simp [goesS]
  · refine (select_on (v := v) (one := ⟨1, m1, 0⟩) (two := ⟨2, 0, 0⟩) (line := line) (last := last) (w := w) (s := last) (r := none) (J := fun _ => True) k1_ok k2_ok (show (2 : Int) ≠ 0 by decide) (fun _ h => by cases h)
      (fun w1 _ => (ends_any (v := v) ⟨2, 0, 0⟩ line last w1 (s := last) (r := none) (J := fun _ => True) (fun _ h => by cases h) (fun _ w3 _ => (holds_2 line last w3).mono fun e w4 ⟨he, hq⟩ => ⟨he, grown_none hq _, trivial⟩) (fun h => absurd h (show ¬ (2 : Int) = 1 by decide))).mono fun e w2 ⟨he, hq⟩ => ⟨by rw [he]; rfl, hq⟩) (fun _ _ _ _ => trivial)).mono fun e w' ⟨he, hq, _⟩ => ⟨?_, none_below hq⟩
    rw [he]; rfl
theorem select_33 {w : World} {K B : Nat} {line : Int} {last : Bool} {A : Option Addr} {n c : Nat} {a b : Bool} {k : Nat} {m : Int} (act : Bool) (h : Held w K 31 (askC line last A n c k m)) (hn : n = 2) (hc : n ≤ c) (hm : c ≤ maxLen) (hb : Vals w B A [.bool a, .bool b]) (hB : B ≤ K) (hk : k < 1000) :
    Calls Try.prog 14 #[adV ⟨3, 0, 0⟩, adV ⟨3, 0, 1⟩, .bool act, lookV line last K] w fun e w' =>
      e = .returned (.tuple #[.bool (act || a), .bool (if act then !b else a), .int .i64 0]) ∧ w.grownBy w' (some K) := by
  have hlt := h.lt
  have H1 := fun (w1 : World) (hw : Below w.heap.size w w1) => holds_askG (bs := [a, b]) ⟨3, 0, 0⟩ (h.keep hw) hn hc hm (hb.below (hw.mono (by omega))) hB hk
  have H2 := fun (w1 : World) (hw : Below w.heap.size w w1) => holds_askG (bs := [a, b]) ⟨3, 0, 1⟩ (h.keep hw) hn hc hm (hb.below (hw.mono (by omega))) hB hk
  unfold lookV at *
  cases act
  · refine (select_off (one := ⟨3, 0, 0⟩) (two := ⟨3, 0, 1⟩) (line := line) (last := last) (w := w) (s := a) (r := some K) (J := fun _ => True) k3_ok k3_ok (fun _ h => by cases h; exact hlt) (fun w1 hw => (H1 w1 hw).mono fun e w2 ⟨he, _, hq⟩ => ⟨by rw [he]; simp [holdsS], hq, trivial⟩) (fun _ _ _ _ => trivial)).mono fun e w' ⟨he, hq, _⟩ => ⟨?_, hq⟩
    rw [he]; simp [goesS]
  · refine (select_on (one := ⟨3, 0, 0⟩) (two := ⟨3, 0, 1⟩) (line := line) (last := last) (w := w) (s := b) (r := some K) (J := fun _ => True) k3_ok k3_ok (show (3 : Int) ≠ 0 by decide) (fun _ h => by cases h; exact hlt)
      (fun w1 hw => (ends_any ⟨3, 0, 1⟩ line last w1 (s := b) (r := some K) (J := fun _ => True) (fun _ h => by cases h; exact Nat.lt_of_lt_of_le hlt hw.size) (fun _ w3 hw3 => (H2 w3 (hw.trans (hw3.mono hw.size))).mono fun e w4 ⟨he, _, hq⟩ => ⟨by rw [he]; simp [holdsS], hq, trivial⟩) (fun h => absurd h (show ¬ (3 : Int) = 1 by decide))).mono fun e w2 ⟨he, hq⟩ => ⟨by rw [he]; rfl, hq⟩) (fun _ _ _ _ => trivial)).mono fun e w' ⟨he, hq, _⟩ => ⟨?_, hq⟩
    rw [he]; rfl
end Go.Proofs.Ytailhicemogphaa
