/- Contracts: Right, Holds, found, isKind, ends, goesOn (package addr). -/
import Derived.Test.YtailhicemogphaaAdrC
set_option linter.unusedVariables false
set_option linter.unusedSimpArgs false
set_option maxRecDepth 100000
namespace Go.Proofs.Ytailhicemogphaa
open Go.RowKit

theorem kinds (k : Int) : k = 0 ∨ k = 1 ∨ k = 2 ∨ k = 3 ∨ (k ≠ 0 ∧ k ≠ 1 ∧ k ≠ 2 ∧ k ≠ 3) := by omega
set_option maxHeartbeats 4000000 in
theorem right_any (a : Ad) (res : Int) (w : World) :
    Calls Try.prog 8 #[adV a, .int .i64 res] w fun e w' => e = .returned (.bool (rightS a res)) ∧ Below w.heap.size w w' := by
  have hb := Lib.hid (fun x y z => (Below.refl w.heap.size w).alloc (Nat.le_refl _) (.cells #[.int .i64 x, .int .i64 y, .int .i64 z] 23))
  generalize hR : rightS a res = R
  unfold rightS at hR
  unfold adV
  obtain ⟨k, n, r⟩ := a
  rcases kinds k with rfl | rfl | rfl | rfl | ⟨h0, h1, h2, h3⟩
  all_goals (
    have hRh := Lib.hid hR
    clear hR
    go_enter Try.func8, Try.ntmps8
    go_wp2
    all_goals (go_ret; exact ⟨ret_bool (by rw [← hRh.out, Bool.eq_iff_iff]; simp [*] <;> omega), hb.out _ _ _⟩))
/-- Does an address hold where nothing can be found. -/
def holdsN (a : Ad) (line : Int) (last : Bool) : Bool × Int :=
  if a.k = 3 then (false, 0) else if a.k < 0 ∨ 3 < a.k then (false, 1)
  else ((decide (a.k = 0) || (decide (a.k = 1) && decide (a.n = line))) || (decide (a.k = 2) && last), 0)
theorem holdsN_0 {m r line : Int} {last : Bool} : holdsN ⟨0, m, r⟩ line last = (true, 0) := by simp [holdsN]
theorem holdsN_1 {m r line : Int} {last : Bool} : holdsN ⟨1, m, r⟩ line last = (decide (m = line), 0) := by simp [holdsN]
theorem holdsN_2 {m r line : Int} {last : Bool} : holdsN ⟨2, m, r⟩ line last = (last, 0) := by simp [holdsN]
theorem holdsN_3 {m r line : Int} {last : Bool} : holdsN ⟨3, m, r⟩ line last = (false, 0) := by simp [holdsN]
theorem holdsN_x {k m r line : Int} {last : Bool} (h : k < 0 ∨ 3 < k) : holdsN ⟨k, m, r⟩ line last = (false, 1) := by
  unfold holdsN; rw [if_neg (show ¬ k = 3 by omega), if_pos h]
theorem holdsS_n {a : Ad} {line : Int} {last : Bool} {bs : List Bool} (h : a.k ≠ 3) : holdsS a line last bs = holdsN a line last := by
  unfold holdsS holdsN; rw [if_neg h, if_neg h]
theorem holdsS_3 {m r line : Int} {last : Bool} {bs : List Bool} : holdsS ⟨3, m, r⟩ line last bs = if (findS bs r).2 = 0 then findS bs r else (false, (findS bs r).2) := by
  unfold holdsS findS
  rw [if_pos rfl]
  dsimp only
  split
  · rfl
  · rfl
set_option maxHeartbeats 4000000 in
theorem holds_num {v : Value} (a : Ad) (h3 : a.k ≠ 3) (line : Int) (last : Bool) (w : World) :
    Calls Try.prog 11 #[adV a, .agg #[.int .i64 line, .bool last, v]] w fun e w' => e = .returned (.tuple #[.bool (holdsN a line last).1, .int .i64 (holdsN a line last).2]) ∧ Below w.heap.size w w' := by
  have hb := Lib.hid (fun x y z x' y' z' => ((Below.refl w.heap.size w).alloc (Nat.le_refl _) (.cells #[.int .i64 x, .int .i64 y, .int .i64 z] 23)).alloc (by rw [sizeA']; exact Nat.le_succ _) (.cells #[.int .i64 x', .bool y', z'] 37))
  generalize hR : holdsN a line last = R
  unfold adV
  obtain ⟨k, m, r⟩ := a
  obtain ⟨R1, R2⟩ := R
  rcases kinds k with rfl | rfl | rfl | rfl | ⟨h0, h1, h2, h3'⟩
  · rw [holdsN_0] at hR
    have hRh := Lib.hid hR
    clear hR
    go_enter Try.func11, Try.ntmps11
    go_wp2
    go_ret2
    exact ⟨ret_be hRh.out, hb.out _ _ _ _ _ _⟩
  · rw [holdsN_1] at hR
    have hRh := Lib.hid hR
    clear hR
    go_enter Try.func11, Try.ntmps11
    go_wp2
    go_ret2
    exact ⟨ret_be hRh.out, hb.out _ _ _ _ _ _⟩
  · rw [holdsN_2] at hR
    have hRh := Lib.hid hR
    clear hR
    go_enter Try.func11, Try.ntmps11
    go_wp2
    go_ret2
    exact ⟨ret_be hRh.out, hb.out _ _ _ _ _ _⟩
  · exact absurd rfl h3
  · rw [holdsN_x (by omega)] at hR
    have hRh := Lib.hid hR
    clear hR
    go_enter Try.func11, Try.ntmps11
    go_wp2
    go_ret2
    exact ⟨ret_be hRh.out, hb.out _ _ _ _ _ _⟩
set_option maxHeartbeats 4000000 in
theorem isKind_any (k : Int) (w : World) : Calls Try.prog 17 #[.int .i64 k] w fun e w' => e = .returned (.bool (decide (0 ≤ k) && decide (k ≤ 3))) ∧ ∃ m, w' = w.drewN m := by
  generalize hR : (decide (0 ≤ k) && decide (k ≤ 3)) = R
  have hRh := Lib.hid hR
  clear hR
  go_enter Try.func17, Try.ntmps17
  go_wp2
  all_goals (go_ret; exact ⟨ret_bool (by rw [← hRh.out, Bool.eq_iff_iff]; simp [*] <;> omega), by first | exact ⟨0, rfl⟩ | exact ⟨1, rfl⟩⟩)
/-- May lines behind the one that began be two's. -/
def goesS (a : Ad) (line : Int) (last : Bool) : Bool := if a.k = 1 then decide (line < a.n) else if a.k = 2 then !last else decide (a.k = 3)
set_option maxHeartbeats 4000000 in
theorem goesOn_any {v : Value} (a : Ad) (line : Int) (last : Bool) (w : World) :
    Calls Try.prog 19 #[adV a, .agg #[.int .i64 line, .bool last, v]] w fun e w' => e = .returned (.bool (goesS a line last)) ∧ Below w.heap.size w w' := by
  have hb := Lib.hid (fun x y z x' y' z' => ((Below.refl w.heap.size w).alloc (Nat.le_refl _) (.cells #[.int .i64 x, .int .i64 y, .int .i64 z] 23)).alloc (by rw [sizeA']; exact Nat.le_succ _) (.cells #[.int .i64 x', .bool y', z'] 37))
  generalize hR : goesS a line last = R
  unfold adV
  obtain ⟨k, m, r⟩ := a
  unfold goesS at hR
  dsimp only at hR
  rcases kinds k with rfl | rfl | rfl | rfl | ⟨h0, h1, h2, h3⟩
  · rw [if_neg (by decide), if_neg (by decide), decide_eq_false (by decide)] at hR
    subst hR
    go_enter Try.func19, Try.ntmps19
    go_wp2
    all_goals (go_ret; exact ⟨rfl, hb.out _ _ _ _ _ _⟩)
  · rw [if_pos rfl] at hR
    have hRh := Lib.hid hR
    clear hR
    go_enter Try.func19, Try.ntmps19
    go_wp2
    all_goals (go_ret; exact ⟨ret_bool (by rw [← hRh.out]), hb.out _ _ _ _ _ _⟩)
  · rw [if_neg (by decide), if_pos rfl] at hR
    have hRh := Lib.hid hR
    clear hR
    cases last
    all_goals (
      go_enter Try.func19, Try.ntmps19
      go_wp2
      all_goals (go_ret; exact ⟨ret_bool (by rw [← hRh.out]; rfl), hb.out _ _ _ _ _ _⟩))
  · rw [if_neg (by decide), if_neg (by decide), decide_eq_true rfl] at hR
    subst hR
    go_enter Try.func19, Try.ntmps19
    go_wp2
    all_goals (go_ret; exact ⟨rfl, hb.out _ _ _ _ _ _⟩)
  · rw [if_neg h1, if_neg h2, decide_eq_false h3] at hR
    subst hR
    have g1 : (k == 1) = false := by simpa using h1
    have g2 : (k == 2) = false := by simpa using h2
    have g3 : (k == 3) = false := by simpa using h3
    clear h0 h1 h2 h3
    go_enter Try.func19, Try.ntmps19
    go_wp2
    all_goals (go_ret; exact ⟨ret_bool (by simp [g3]), hb.out _ _ _ _ _ _⟩)
set_option maxHeartbeats 4000000 in
theorem found_nil (line : Int) (last : Bool) (re : Int) (w : World) :
    Calls Try.prog 15 #[.agg #[.int .i64 line, .bool last, .nilFunc], .int .i64 re] w fun e w' => e = .returned (.tuple #[.bool false, .int .i64 0]) ∧ Below w.heap.size w w' := by
  have hb := Lib.hid ((Below.refl w.heap.size w).alloc (Nat.le_refl _) (.cells #[.int .i64 line, .bool last, .nilFunc] 37))
  have e1 := eql_nil_nil
  go_enter Try.func15, Try.ntmps15
  go_wp2
  go_ret2
  exact ⟨rfl, hb.out⟩
set_option maxHeartbeats 4000000 in
theorem holds_nil (a : Ad) (line : Int) (last : Bool) (w : World) :
    Calls Try.prog 11 #[adV a, .agg #[.int .i64 line, .bool last, .nilFunc]] w fun e w' => e = .returned (.tuple #[.bool (holdsN a line last).1, .int .i64 (holdsN a line last).2]) ∧ Below w.heap.size w w' := by
  by_cases h3 : a.k = 3
  · have hb := Lib.hid (fun x y z x' y' z' => ((Below.refl w.heap.size w).alloc (Nat.le_refl _) (.cells #[.int .i64 x, .int .i64 y, .int .i64 z] 23)).alloc (by rw [sizeA']; exact Nat.le_succ _) (.cells #[.int .i64 x', .bool y', z'] 37))
    have hF := Lib.hid (fun re w => found_nil line last re w)
    generalize hR : holdsN a line last = R
    unfold adV
    obtain ⟨k, m, r⟩ := a
    obtain ⟨R1, R2⟩ := R
    obtain rfl : k = 3 := h3
    rw [holdsN_3] at hR
    have hRh := Lib.hid hR
    clear hR
    go_enter Try.func11, Try.ntmps11
    go_wp2_with (go_at_call 15; refine (hF.out _ _).mono ?_; rintro e w2 ⟨rfl, hq⟩; have hqh := Lib.hid ((hb.out _ _ _ _ _ _).trans (hq.mono (hb.out _ _ _ _ _ _).size)); clear hq)
    go_ret2
    exact ⟨ret_be hRh.out, hqh.out⟩
  · exact holds_num a h3 line last w
/-- What found answers. -/
def fndS (bs : List Bool) (r : Int) : Bool × Int := if (findS bs r).2 = 0 then findS bs r else (false, (findS bs r).2)
set_option maxHeartbeats 4000000 in
theorem found_ask {w : World} {K B : Nat} {line : Int} {last : Bool} {A : Option Addr} {n c : Nat} {bs : List Bool} {k : Nat} {m : Int} (re : Int) (h : Held w K 31 (askC line last A n c k m)) (hn : n = bs.length) (hc : n ≤ c) (hm : c ≤ maxLen) (hb : Vals w B A (bs.map Value.bool)) (hB : B ≤ K) (hk : k < 1000) :
    Calls Try.prog 15 #[lookV line last K, .int .i64 re] w fun e w' => e = .returned (.tuple #[.bool (fndS bs re).1, .int .i64 (fndS bs re).2]) ∧
      Held w' K 31 (askC line last A n c (k + 1 : Nat) re) ∧ w.grownBy w' (some K) := by
  have hKw := h.lt
  have hwb := Lib.hid (fun v => (Below.refl w.heap.size w).alloc (Nat.le_refl _) (.cells #[.int .i64 line, .bool last, v] 37))
  have hF := Lib.hid (fun (w1 : World) (hb1 : Below w.heap.size w w1) => find_any re (h.keep hb1) hn hc hm (hb.below (hb1.mono (by omega))) hB hk)
  unfold fndS
  generalize findS bs re = f at *
  obtain ⟨f1, f2⟩ := f
  have e1 := eql_fn_nil
  unfold lookV
  clear h hb hn
  by_cases hf : f2 = 0
  · subst hf
    rw [if_pos rfl]
    cases f1
    all_goals (
      go_enter Try.func15, Try.ntmps15
      go_wp2_with (first | (go_at_call 16; refine (hF.out _ (hwb.out _)).mono ?_; rintro e w2 ⟨rfl, hq, hqb⟩; have hqh := Lib.hid hq; have hqbh := Lib.hid (keep_grown (hwb.out _) hqb); clear hq hqb) | go_region | fail)
      all_goals (go_ret2; exact ⟨rfl, by first | exact hqh.out | exact hqh.out.drew, by first | exact hqbh.out | exact grown_drew hqbh.out⟩))
  · rw [if_neg hf]
    have hf2 : (f2 == 0) = false := by simpa using hf
    have hfh := Lib.hid hf
    clear hf
    cases f1
    all_goals (
      go_enter Try.func15, Try.ntmps15
      go_wp2_with (first | (go_at_call 16; refine (hF.out _ (hwb.out _)).mono ?_; rintro e w2 ⟨rfl, hq, hqb⟩; have hqh := Lib.hid hq; have hqbh := Lib.hid (keep_grown (hwb.out _) hqb); clear hq hqb) | go_region | fail)
      all_goals (go_ret2; exact ⟨by first | rfl | exact ret_be (by rw [hf2]) | exact ret_be (by simp [hf2]), by first | exact hqh.out | exact hqh.out.drew, by first | exact hqbh.out | exact grown_drew hqbh.out⟩))
set_option maxHeartbeats 4000000 in
theorem holds_askG {w : World} {K B : Nat} {line : Int} {last : Bool} {A : Option Addr} {n c : Nat} {bs : List Bool} {k : Nat} {m : Int} (a : Ad) (h : Held w K 31 (askC line last A n c k m)) (hn : n = bs.length) (hc : n ≤ c) (hm : c ≤ maxLen) (hb : Vals w B A (bs.map Value.bool)) (hB : B ≤ K) (hk : k < 1000) :
    Calls Try.prog 11 #[adV a, lookV line last K] w fun e w' => e = .returned (.tuple #[.bool (holdsS a line last bs).1, .int .i64 (holdsS a line last bs).2]) ∧
      Held w' K 31 (askC line last A n c (if a.k = 3 then k + 1 else k : Nat) (if a.k = 3 then a.r else m)) ∧ w.grownBy w' (some K) := by
  have hKw := h.lt
  by_cases h3 : a.k = 3
  · obtain ⟨k1, m1, r1⟩ := a
    obtain rfl : k1 = 3 := h3
    rw [holdsS_3, if_pos rfl, if_pos rfl]
    have hwb := Lib.hid (fun x y z x' y' z' => ((Below.refl w.heap.size w).alloc (Nat.le_refl _) (.cells #[.int .i64 x, .int .i64 y, .int .i64 z] 23)).alloc (by rw [sizeA']; exact Nat.le_succ _) (.cells #[.int .i64 x', .bool y', z'] 37))
    have hF := Lib.hid (fun (w1 : World) (hb1 : Below w.heap.size w w1) => found_ask r1 (h.keep hb1) hn hc hm (hb.below (hb1.mono (by omega))) hB hk)
    unfold fndS lookV at hF
    generalize (if (findS bs r1).2 = 0 then findS bs r1 else (false, (findS bs r1).2)) = f at *
    obtain ⟨f1, f2⟩ := f
    unfold adV
    unfold lookV
    clear h hb
    subst hn
    go_enter Try.func11, Try.ntmps11
    go_wp2_with (go_at_call 15; refine (hF.out _ (hwb.out _ _ _ _ _ _)).mono ?_; rintro e w2 ⟨rfl, hq, hqb⟩; have hqh := Lib.hid hq; have hqbh := Lib.hid (keep_grown (hwb.out _ _ _ _ _ _) hqb); clear hq hqb)
    all_goals (go_ret2; exact ⟨rfl, hqh.out, hqbh.out⟩)
  · rw [holdsS_n h3, if_neg h3, if_neg h3]
    exact (holds_num a h3 line last w).mono fun e w' ⟨he, hq⟩ => ⟨he, h.keep hq, grown_none hq _⟩
theorem holds_ask {w : World} {K B : Nat} {line : Int} {last : Bool} {A : Option Addr} {n c : Nat} {bs : List Bool} {k : Nat} {m : Int} (a : Ad) (h : Held w K 31 (askC line last A n c k m)) (hn : n = bs.length) (hc : n ≤ c) (hm : c ≤ maxLen) (hb : Vals w B A (bs.map Value.bool)) (hB : B ≤ K) (hk : k < 1000) :
    Calls Try.prog 11 #[adV a, lookV line last K] w fun e w' => e = .returned (.tuple #[.bool (holdsS a line last bs).1, .int .i64 (holdsS a line last bs).2]) ∧
      Held w' K 31 (askC line last A n c (if a.k = 3 then k + 1 else k : Nat) (if a.k = 3 then a.r else m)) ∧ Below K w w' :=
  (holds_askG a h hn hc hm hb hB hk).mono fun e w' ⟨he, hq, hg⟩ => ⟨he, hq, grown_below hg h.lt⟩
/-- Is the line the last one that two takes in (two is no number: does it hold). -/
def endsS (a : Ad) (line : Int) (s : Bool) : Bool := if a.k = 1 then decide (a.n ≤ line) else s
set_option maxHeartbeats 4000000 in
theorem ends_any {v : Value} (a : Ad) (line : Int) (last : Bool) (w : World) {s : Bool} {r : Option Nat} {J : World → Prop} (hr : ∀ k, r = some k → k < w.heap.size)
    (hH : a.k ≠ 1 → ∀ w1, Below w.heap.size w w1 → Calls Try.prog 11 #[adV a, .agg #[.int .i64 line, .bool last, v]] w1 fun e w2 => e = .returned (.tuple #[.bool s, .int .i64 0]) ∧ w1.grownBy w2 r ∧ J w2)
    (hJ : a.k = 1 → ∀ w1, Below w.heap.size w w1 → J w1) :
    Calls Try.prog 18 #[adV a, .agg #[.int .i64 line, .bool last, v]] w fun e w' => e = .returned (.tuple #[.bool (endsS a line s), .int .i64 0]) ∧ w.grownBy w' r ∧ J w' := by
  have hwb := Lib.hid (fun x y z x' y' z' => ((Below.refl w.heap.size w).alloc (Nat.le_refl _) (.cells #[.int .i64 x, .int .i64 y, .int .i64 z] 23)).alloc (by rw [sizeA']; exact Nat.le_succ _) (.cells #[.int .i64 x', .bool y', z'] 37))
  obtain ⟨k, m, z⟩ := a
  unfold adV at *
  unfold endsS
  dsimp only at *
  by_cases h1 : k = 1
  · subst h1
    have hJh := Lib.hid (hJ rfl)
    rw [if_pos rfl]
    clear hH hJ hr
    generalize hR : decide (m ≤ line) = R
    have hRh := Lib.hid hR
    clear hR
    go_enter Try.func18, Try.ntmps18
    go_wp2
    all_goals (go_ret2; exact ⟨ret_be (by rw [← hRh.out]), grown_none (hwb.out _ _ _ _ _ _) _, hJh.out _ (hwb.out _ _ _ _ _ _)⟩)
  · have hHh := Lib.hid (hH h1)
    rw [if_neg h1]
    have h1b : (k == 1) = false := by simpa using h1
    have h1h := Lib.hid h1
    clear hH hJ hr h1
    go_enter Try.func18, Try.ntmps18
    go_wp2_with (go_at_call 11; refine (hHh.out _ (hwb.out _ _ _ _ _ _)).mono ?_; rintro e w2 ⟨rfl, hqb, hq⟩; have hqh := Lib.hid hq; have hqbh := Lib.hid (keep_grown (hwb.out _ _ _ _ _ _) hqb); clear hq hqb)
    all_goals (go_ret2; exact ⟨rfl, hqbh.out, hqh.out⟩)
end Go.Proofs.Ytailhicemogphaa
