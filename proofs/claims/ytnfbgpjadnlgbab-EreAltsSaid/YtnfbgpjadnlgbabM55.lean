/- A text read where it stands within another one; two texts with a | between. -/
import Derived.Test.YtnfbgpjadnlgbabM53
set_option linter.unusedVariables false
set_option maxRecDepth 100000
namespace Go.Proofs.Ytnfbgpjadnlgbab
open Go.RowKit

namespace Alts
theorem bg_app {p u s : List UInt8} (h : p.length ≤ u.length) : bg p (u ++ s) = bg p u :=
  (bg_agree (n := p.length) (by rw [List.take_append_of_le_length h]) (Nat.le_refl _)).symm
theorem dEnd_app {b s : List UInt8} {k : Nat} (hk : k ≤ b.length) (h : dEnd b k < b.length) : dEnd (b ++ s) k = dEnd b k := by
  unfold dEnd at h ⊢
  rw [List.drop_append_of_le_length hk, List.takeWhile_append, if_neg (by rw [List.length_drop]; omega)]
theorem numS_app {b s : List UInt8} {a k : Nat} {most x : Int} (h : numS b (a : Int) most = (x, (k : Int), 0)) (hk : k < b.length) : numS (b ++ s) (a : Int) most = (x, (k : Int), 0) := by
  unfold numS at h ⊢
  split at h
  · simp at h
  · rename_i h1
    rw [Int.toNat_natCast] at h ⊢
    split at h
    · simp at h
    · rename_i h2
      have hab : a ≤ b.length := by omega
      have hdk : dEnd b a = k := by
        split at h
        · simp at h
        · simp only [Prod.mk.injEq] at h; omega
      rw [if_neg (by rw [List.length_append]; omega), dEnd_app hab (by omega), if_neg h2, List.take_append_of_le_length (by omega)]
      exact h
theorem ivG_app {b s : List UInt8} {lo hi : Int} {j : Nat} (h : ivG 1 [125] b = some (lo, hi, j)) : ivG 1 [125] (b ++ s) = some (lo, hi, j) := by
  have hok := ivG_ok (by simp) h
  unfold ivG at h ⊢
  rcases hq : numS b ((1 : Nat) : Int) 255 with ⟨x, y, e⟩
  rw [hq] at h
  simp only at h
  by_cases he : e = 0
  · subst he
    obtain ⟨k, rfl, h1, h2, h3, h4⟩ := numS_ok (a := 1) hq
    rw [if_neg (by simp), Int.toNat_natCast] at h
    split at h
    · rename_i hb
      have hr := bg_room hb
      simp at hr
      have hN := numS_app (s := s) (a := 1) (k := k) (by rw [← hq]) (by omega)
      rw [hN]
      simp only
      rw [if_neg (by simp), Int.toNat_natCast, List.drop_append_of_le_length h2, bg_app (by rw [List.length_drop]; simp only [List.length_cons, List.length_nil]; omega), if_pos hb]
      exact h
    · rename_i hb
      split at h
      · rename_i hb2
        rcases hq2 : numS b ((k : Int) + 1) 255 with ⟨x2, y2, e2⟩
        rw [hq2] at h
        simp only at h
        split at h
        · cases h
        · rename_i hne
          obtain rfl : e2 = 0 := by omega
          obtain ⟨k2, rfl, g1, g2, g3, g4⟩ := numS_ok (a := k + 1) (by rw [← hq2]; rfl)
          rw [Int.toNat_natCast] at h
          split at h
          · rename_i hb3
            have hr := bg_room hb3
            simp at hr
            have hN := numS_app (s := s) (a := 1) (k := k) (by rw [← hq]) (by omega)
            have hN2 := numS_app (s := s) (a := k + 1) (k := k2) (by rw [← hq2]; rfl) (by omega)
            rw [show ((k + 1 : Nat) : Int) = (k : Int) + 1 by omega] at hN2
            rw [hN]
            simp only
            rw [hN2]
            simp only
            rw [if_neg (by simp), Int.toNat_natCast, List.drop_append_of_le_length h2, bg_app (by rw [List.length_drop]; simp only [List.length_cons, List.length_nil]; omega), if_neg hb, bg_app (by rw [List.length_drop]; simp only [List.length_cons, List.length_nil]; omega), if_pos hb2, if_neg hne, Int.toNat_natCast, List.drop_append_of_le_length g2, bg_app (by rw [List.length_drop]; simp only [List.length_cons, List.length_nil]; omega), if_pos hb3]
            exact h
          · cases h
      · rename_i hb2
        split at h
        · rename_i hb3
          have hr := bg_room hb3
          simp at hr
          have hN := numS_app (s := s) (a := 1) (k := k) (by rw [← hq]) (by omega)
          rw [hN]
          simp only
          obtain ⟨r, hd⟩ := drop_one hb3
          have e1 : bg [44, 125] ((b ++ s).drop k) = false := by rw [List.drop_append_of_le_length h2, hd]; rfl
          have e2 : bg [44] ((b ++ s).drop k) = false := by rw [List.drop_append_of_le_length h2, hd]; rfl
          rw [if_neg (by simp), Int.toNat_natCast, if_neg (by rw [e1]; decide), if_neg (by rw [e2]; decide), List.drop_append_of_le_length h2, bg_app (by rw [List.length_drop]; simp only [List.length_cons, List.length_nil]; omega), if_pos hb3]
          exact h
        · cases h
  · rw [if_pos he] at h; cases h

section
variable {p t s : List UInt8} {i : Nat}
theorem in_drop (hi : i ≤ t.length) : (p ++ (t ++ s)).drop (i + p.length) = t.drop i ++ s := by
  rw [List.drop_append, List.drop_eq_nil_of_le (by omega), List.nil_append, Nat.add_sub_cancel, List.drop_append_of_le_length hi]
theorem in_nx (hi : i < t.length) : nx (p ++ (t ++ s)) (i + p.length) = nx t i := by
  obtain ⟨c, r, hd, hn⟩ := nx_has hi
  rw [hn]
  exact nx_at (r := r ++ s) (by rw [in_drop (by omega), hd]; rfl)
theorem in_readB {f : Nat → Bool} {j : Nat} (hi : i ≤ t.length) (h : readB t i = .ok (f, j)) : readB (p ++ (t ++ s)) (i + p.length) = .ok (f, j + p.length) := by
  have hsz0 := readB_size hi h
  have hbg : bg [94] (t.drop i ++ s) = bg [94] (t.drop i) := bg_app (by rw [List.length_drop]; simp; omega)
  have hit : ∀ (m : Nat) (acc g : Nat → Bool) (q : Nat), m ≤ t.length → items true (t.drop m) m acc = .ok (g, q) → items true (t.drop m ++ s) (m + p.length) acc = .ok (g, q + p.length) := fun m acc g q hm e => by
    have hsz := items_size _ _ _ _ _ _ e
    rw [List.length_drop] at hsz
    have := items_agree true (t.drop m) m acc g q (t.drop m ++ s) e (by rw [List.take_append_of_le_length (by rw [List.length_drop]; omega)])
    rw [items_move, this]
  cases hx : bg [94] (t.drop i) with
  | true =>
    have hr := bg_room hx
    simp at hr
    rw [readB_not hx] at h
    rw [readB_not (by rw [in_drop hi, hbg]; exact hx)]
    cases he : items true (t.drop (i + 1)) (i + 1) noneF with
    | error e => rw [he] at h; cases h
    | ok pp =>
      obtain ⟨g, q⟩ := pp
      rw [he] at h
      simp only [Except.ok.injEq, Prod.mk.injEq] at h
      rw [show i + p.length + 1 = (i + 1) + p.length by omega, in_drop (by omega), hit (i + 1) noneF g q (by omega) he]
      simp only [Except.ok.injEq, Prod.mk.injEq]
      exact ⟨h.1, by omega⟩
  | false =>
    rw [readB_plain hx] at h
    rw [readB_plain (by rw [in_drop hi, hbg]; exact hx), in_drop hi]
    exact hit i noneF f j hi h
theorem in_ivE {lo hi : Int} {j : Nat} (hl : i + 1 ≤ t.length) (h : ivE t i = some (lo, hi, j)) : ivE (p ++ (t ++ s)) (i + p.length) = some (lo, hi, j + p.length) ∧ j ≤ t.length := by
  rw [← ivE_ivl hl] at h
  rw [← ivE_ivl (by simp; omega)]
  unfold ivlG at h ⊢
  obtain ⟨⟨a, b, k⟩, h1, h2⟩ := Option.map_eq_some_iff.1 h
  simp only [Prod.mk.injEq] at h2
  obtain ⟨rfl, rfl, rfl⟩ := h2
  have hok := ivG_ok (by simp) h1
  rw [List.length_drop] at hok
  rw [in_drop (by omega), ivG_app h1]
  simp only [Option.map_some, Option.some.injEq, Prod.mk.injEq, true_and]
  exact ⟨by omega, by omega⟩
theorem in_pie (hi : i < t.length) {j : Nat} {nd : Nod} (h : pieE t i = .nod j nd) : pieE (p ++ (t ++ s)) (i + p.length) = .nod (j + p.length) nd ∧ j ≤ t.length := by
  obtain ⟨c, r, hd, -⟩ := nx_has hi
  have hd' : (p ++ (t ++ s)).drop (i + p.length) = c :: (r ++ s) := by rw [in_drop (by omega), hd]; rfl
  have hlen := congrArg List.length hd
  rw [List.length_drop, List.length_cons] at hlen
  rw [pie_at hd] at h
  rw [pie_at hd']
  simp only [pieR] at h ⊢
  split at h
  · cases h
  rename_i q0
  rw [if_neg q0]
  split at h
  · cases h
  rename_i q1
  rw [if_neg q1]
  split at h
  · cases h
  rename_i q2
  rw [if_neg q2]
  split at h
  · cases h
  rename_i q3
  rw [if_neg q3]
  split at h
  · cases h
  rename_i q4
  rw [if_neg q4]
  split at h
  · rename_i q5
    rw [if_pos q5]
    cases r with
    | nil => cases h
    | cons x r =>
      rw [List.length_cons] at hlen
      rw [List.cons_append]
      simp only [escE] at h ⊢
      by_cases h4 : x = 110
      · rw [if_pos h4] at h ⊢
        simp only [ofAm, Pm.nod.injEq] at h ⊢
        exact ⟨⟨by omega, h.2⟩, by omega⟩
      rw [if_neg h4] at h ⊢
      by_cases h5 : 49 ≤ x ∧ x ≤ 57
      · rw [if_pos h5] at h; cases h
      rw [if_neg h5] at h ⊢
      by_cases h6 : isAl x = true
      · rw [if_pos h6] at h; cases h
      rw [if_neg h6] at h ⊢
      simp only [ofAm, Pm.nod.injEq] at h ⊢
      exact ⟨⟨by omega, h.2⟩, by omega⟩
  rename_i q5
  rw [if_neg q5]
  split at h
  · rename_i q6
    rw [if_pos q6]
    unfold brkA at h ⊢
    cases hr : readB t (i + 1) with
    | error e => rw [hr] at h; cases h
    | ok pp =>
      obtain ⟨f, q⟩ := pp
      have hsz := readB_size (by omega) hr
      rw [hr] at h
      simp only [ofAm, Pm.nod.injEq] at h
      rw [show i + p.length + 1 = i + 1 + p.length by omega, in_readB (by omega) hr]
      simp only [ofAm, Pm.nod.injEq]
      exact ⟨⟨by omega, h.2⟩, by omega⟩
  rename_i q6
  rw [if_neg q6]
  split at h
  · rename_i q7
    rw [if_pos q7]
    simp only [Pm.nod.injEq] at h ⊢
    exact ⟨⟨by omega, h.2⟩, by omega⟩
  · rename_i q7
    rw [if_neg q7]
    simp only [Pm.nod.injEq] at h ⊢
    exact ⟨⟨by omega, h.2⟩, by omega⟩
theorem in_anc (hi : i < t.length) {nd : Nod} (h : pieE t i = .anc nd) : pieE (p ++ (t ++ s)) (i + p.length) = .anc nd := by
  obtain ⟨c, r, hd, -⟩ := nx_has hi
  have hd' : (p ++ (t ++ s)).drop (i + p.length) = c :: (r ++ s) := by rw [in_drop (by omega), hd]; rfl
  rw [pie_at hd] at h
  rw [pie_at hd']
  simp only [pieR] at h ⊢
  split at h
  · cases h
  rename_i q0
  rw [if_neg q0]
  split at h
  · cases h
  rename_i q1
  rw [if_neg q1]
  split at h
  · rename_i q2; rw [if_pos q2]; exact h
  rename_i q2
  rw [if_neg q2]
  split at h
  · rename_i q3; rw [if_pos q3]; exact h
  exfalso
  split at h
  · cases h
  · split at h
    · cases ha : escE i r with
      | bad e => rw [ha] at h; cases h
      | opn => rw [ha] at h; cases h
      | bak q => rw [ha] at h; cases h
      | nod j n => rw [ha] at h; cases h
    · split at h
      · cases ha : brkA t i with
        | bad e => rw [ha] at h; cases h
        | opn => rw [ha] at h; cases h
        | bak q => rw [ha] at h; cases h
        | nod j n => rw [ha] at h; cases h
      · split at h <;> cases h
end
/-- The number of groups never falls. -/
theorem g_pm {c c' : Ce} {a : Pm} (h : stepPm c a = .go c') : c.g ≤ c'.g := by
  cases a with
  | bad e => cases h
  | opn =>
    simp only [stepPm] at h
    split at h
    · injection h with h; subst h; simp
    · cases h
  | bak q =>
    simp only [stepPm] at h
    split at h
    · injection h with h; subst h; simp
    · cases h
  | nod j n => injection h with h; subst h; simp
  | anc n => injection h with h; subst h; simp
theorem g_step {t : List UInt8} {c c' : Ce} (h : stepE t c = .go c') : c.g ≤ c'.g := by
  obtain ⟨ct, i, ns, g, cl, ps, bs, lv⟩ := c
  cases ct with
  | B =>
    change stepEB t _ = _ at h
    simp only [stepEB] at h
    split at h
    · cases h
    · exact g_pm h
  | P x =>
    change stepEP t _ x = _ at h
    simp only [stepEP] at h
    repeat' split at h
    all_goals first
      | (injection h with h; subst h; simp; done)
      | cases h
  | L =>
    change stepEL t _ = _ at h
    simp only [stepEL] at h
    split at h
    · cases lv <;> cases h
    · split at h
      · injection h with h; subst h; simp
      · cases lv with
        | nil => exact g_pm h
        | cons a lv =>
          obtain ⟨q, p, b⟩ := a
          simp only at h
          split at h
          · injection h with h; subst h; simp
          · exact g_pm h
theorem g_steps {t : List UInt8} {c c' : Ce} (h : StepsE t c c') : c.g ≤ c'.g := by
  induction h with
  | refl => exact Nat.le_refl _
  | head h1 _ ih => exact Nat.le_trans (g_step h1) ih
/-- A state without groups, within the text. -/
structure Flat (t : List UInt8) (c : Ce) : Prop where
  g : c.g = 0
  lv : c.lv = []
  cl : c.cl = fun _ => false
  le : c.i ≤ t.length
/-- What a step is that makes no group. -/
inductive Flt (t : List UInt8) : Ce → Ce → Prop
  | nod {ct i ns cl ps bs j n} (hct : ct = .B ∨ ct = .L) (hi : i < t.length) (hb : nx t i ≠ 124) (hp : pieE t i = .nod j n) : Flt t ⟨ct, i, ns, 0, cl, ps, bs, []⟩ ⟨.P (ns.length : Int), j, ns ++ [n], 0, cl, ps, bs, []⟩
  | anc {ct i ns cl ps bs n} (hct : ct = .B ∨ ct = .L) (hi : i < t.length) (hb : nx t i ≠ 124) (hp : pieE t i = .anc n) : Flt t ⟨ct, i, ns, 0, cl, ps, bs, []⟩ ⟨.L, i + 1, ns ++ [n], 0, cl, ps ++ [(ns.length : Int)], bs, []⟩
  | bar {i ns cl ps bs} (hi : i < t.length) (hb : nx t i = 124) : Flt t ⟨.L, i, ns, 0, cl, ps, bs, []⟩ ⟨.B, i + 1, (chn 2 ns ps).2, 0, cl, [], bs ++ [(chn 2 ns ps).1], []⟩
  | rep {x i ns cl ps bs lo hi' k} (hi : i < t.length) (hk : nx t i = k) (hr : (k = 42 ∧ lo = 0 ∧ hi' = -1) ∨ (k = 43 ∧ lo = 1 ∧ hi' = -1) ∨ (k = 63 ∧ lo = 0 ∧ hi' = 1)) : Flt t ⟨.P x, i, ns, 0, cl, ps, bs, []⟩ ⟨.P (ns.length : Int), i + 1, ns ++ [repN x lo hi'], 0, cl, ps, bs, []⟩
  | ivl {x i ns cl ps bs lo hi' j} (hi : i < t.length) (hk : nx t i = 123) (hv : ivE t i = some (lo, hi', j)) : Flt t ⟨.P x, i, ns, 0, cl, ps, bs, []⟩ ⟨.P (ns.length : Int), j, ns ++ [repN x lo hi'], 0, cl, ps, bs, []⟩
  | off {x i ns cl ps bs} (hi : i ≤ t.length) (h1 : nx t i ≠ 42) (h2 : nx t i ≠ 43) (h3 : nx t i ≠ 63) (h4 : nx t i ≠ 123) : Flt t ⟨.P x, i, ns, 0, cl, ps, bs, []⟩ ⟨.L, i, ns, 0, cl, ps ++ [x], bs, []⟩
theorem flt_of {t : List UInt8} {c c' : Ce} (hf : Flat t c) (h : stepE t c = .go c') (hg : c'.g = 0) : Flt t c c' := by
  obtain ⟨ct, i, ns, g, cl, ps, bs, lv⟩ := c
  obtain ⟨f1, f2, f3, f4⟩ := hf
  simp only at f1 f2 f3 f4
  subst f1 f2 f3
  have hpm : ∀ ct, (ct = .B ∨ ct = .L) → i < t.length → nx t i ≠ 124 → stepPm ⟨ct, i, ns, 0, fun _ => false, ps, bs, []⟩ (pieE t i) = .go c' → Flt t ⟨ct, i, ns, 0, fun _ => false, ps, bs, []⟩ c' := fun ct hct hi hb h => by
    cases ha : pieE t i with
    | bad e => rw [ha] at h; cases h
    | opn =>
      rw [ha] at h
      simp only [stepPm] at h
      split at h
      · injection h with h; subst h; simp at hg
      · cases h
    | bak q => rw [ha] at h; simp [stepPm] at h
    | nod j n => rw [ha] at h; injection h with h; subst h; exact .nod hct hi hb ha
    | anc n => rw [ha] at h; injection h with h; subst h; exact .anc hct hi hb ha
  cases ct with
  | B =>
    change stepEB t _ = _ at h
    simp only [stepEB] at h
    split at h
    · cases h
    · rename_i hno
      exact hpm .B (.inl rfl) (by by_cases hi : i < t.length; exact hi; exact absurd (.inl (by omega)) hno) (fun e => hno (.inr (.inl e))) h
  | P x =>
    change stepEP t _ x = _ at h
    simp only [stepEP] at h
    have hlt : 0 ≤ nx t i → i < t.length := nx_lt
    split at h
    · rename_i hk; injection h with h; subst h; exact .rep (hlt (by omega)) hk (.inl ⟨rfl, rfl, rfl⟩)
    · split at h
      · rename_i hk; injection h with h; subst h; exact .rep (hlt (by omega)) hk (.inr (.inl ⟨rfl, rfl, rfl⟩))
      · split at h
        · rename_i hk; injection h with h; subst h; exact .rep (hlt (by omega)) hk (.inr (.inr ⟨rfl, rfl, rfl⟩))
        · split at h
          · rename_i hk
            cases hv : ivE t i with
            | none => rw [hv] at h; cases h
            | some p =>
              obtain ⟨lo, hi, j⟩ := p
              rw [hv] at h
              simp only at h
              injection h with h
              subst h
              exact .ivl (hlt (by omega)) hk hv
          · rename_i k1 k2 k3 k4
            injection h with h
            subst h
            exact .off f4 k1 k2 k3 k4
  | L =>
    change stepEL t _ = _ at h
    simp only [stepEL] at h
    split at h
    · cases h
    · rename_i hi
      split at h
      · rename_i hb; injection h with h; subst h; exact .bar (by omega) hb
      · rename_i hb; exact hpm .L (.inr rfl) (by omega) hb h
theorem ivE_le {t : List UInt8} {i : Nat} {lo hi : Int} {j : Nat} (hl : i + 1 ≤ t.length) (h : ivE t i = some (lo, hi, j)) : j ≤ t.length := (in_ivE (p := []) (s := []) hl h).2
theorem Flt.flat {t : List UInt8} {c c' : Ce} (h : Flt t c c') (hf : Flat t c) : Flat t c' := by
  cases h with
  | nod hct hi hb hp => exact ⟨rfl, rfl, hf.cl, (in_pie (p := []) (s := []) hi hp).2⟩
  | anc hct hi hb hp => exact ⟨rfl, rfl, hf.cl, hi⟩
  | bar hi hb => exact ⟨rfl, rfl, hf.cl, hi⟩
  | rep hi hk hr => exact ⟨rfl, rfl, hf.cl, hi⟩
  | ivl hi hk hv => exact ⟨rfl, rfl, hf.cl, ivE_le hi hv⟩
  | off hi h1 h2 h3 h4 => exact ⟨rfl, rfl, hf.cl, hi⟩
/-- Steps within a text are steps within a longer one, its states moved. -/
inductive Run (t : List UInt8) : Ce → Ce → Prop
  | refl (c : Ce) : Run t c c
  | head {c c1 c2 : Ce} (h : Flt t c c1) (k : Run t c1 c2) : Run t c c2
theorem run_of {t : List UInt8} {c c' : Ce} (hs : StepsE t c c') (hf : Flat t c) (hg : c'.g = 0) : Run t c c' ∧ Flat t c' := by
  induction hs with
  | refl c => exact ⟨.refl c, hf⟩
  | head h1 k ih =>
    have hfl := flt_of hf h1 (by have := g_steps k; omega)
    obtain ⟨r1, r2⟩ := ih (hfl.flat hf) hg
    exact ⟨.head hfl r1, r2⟩
/-- A step, where the text stands. -/
theorem pieAt_in {p t s : List UInt8} {i : Nat} (hi : i < t.length) (hb : nx t i ≠ 124) : PieAt (p ++ (t ++ s)) (i + p.length) false := ⟨by simp; omega, by rw [in_nx hi]; exact hb, fun e => by cases e⟩
/-- Read from its beginning, with a | behind it. -/
theorem run_front {t s : List UInt8} {c c' : Ce} (h : Run t c c') : StepsE (t ++ 124 :: s) c c' := by
  have hnil : ∀ i, i + ([] : List UInt8).length = i := fun i => rfl
  induction h with
  | refl c => exact .refl c
  | head hf _ ih =>
    refine .head ?_ ih
    cases hf with
    | nod hct hi hb hp =>
      have h1 := pieAt_in (p := []) (s := 124 :: s) hi hb
      have h2 := (in_pie (p := []) (s := 124 :: s) hi hp).1
      simp only [List.nil_append, List.length_nil, Nat.add_zero] at h1 h2
      rw [stepE_pie h1 hct rfl, h2]; rfl
    | anc hct hi hb hp =>
      have h1 := pieAt_in (p := []) (s := 124 :: s) hi hb
      have h2 := in_anc (p := []) (s := 124 :: s) hi hp
      simp only [List.nil_append, List.length_nil, Nat.add_zero] at h1 h2
      rw [stepE_pie h1 hct rfl, h2]; rfl
    | bar hi hb =>
      have h1 := in_nx (p := []) (s := 124 :: s) hi
      simp only [List.nil_append, List.length_nil, Nat.add_zero] at h1
      show stepEL _ _ = _
      simp only [stepEL]
      rw [if_neg (by simp; omega), if_pos (h1.trans hb)]
      rfl
    | rep hi hk hr =>
      have h1 := (in_nx (p := []) (s := 124 :: s) hi).trans hk
      simp only [List.nil_append, List.length_nil, Nat.add_zero] at h1
      rcases hr with ⟨rfl, rfl, rfl⟩ | ⟨rfl, rfl, rfl⟩ | ⟨rfl, rfl, rfl⟩
      · exact stepE_star h1
      · exact stepE_plus h1
      · exact stepE_qm h1
    | ivl hi hk hv =>
      have h1 := (in_nx (p := []) (s := 124 :: s) hi).trans hk
      have h2 := (in_ivE (p := []) (s := 124 :: s) hi hv).1
      simp only [List.nil_append, List.length_nil, Nat.add_zero] at h1 h2
      exact stepE_ivl h1 h2
    | @off x i ns cl ps bs hi h1 h2 h3 h4 =>
      have hn : nx (t ++ 124 :: s) i = nx t i ∨ nx (t ++ 124 :: s) i = 124 := by
        by_cases hlt : i < t.length
        · have := in_nx (p := []) (s := 124 :: s) hlt
          simp only [List.nil_append, List.length_nil, Nat.add_zero] at this
          exact .inl this
        · obtain rfl : i = t.length := by omega
          exact .inr (nx_at (c := 124) (r := s) (by rw [List.drop_left]))
      exact stepE_off (by rcases hn with e | e <;> omega) (by rcases hn with e | e <;> omega) (by rcases hn with e | e <;> omega) (by rcases hn with e | e <;> omega)
def ctk : Ct → Nat
  | .B => 0
  | .L => 1
  | .P _ => 2
/-- A state, and one that is like it behind other nodes and branches. -/
structure Sim (N : List Nod) (X : List Int) (m : Nat) (c c' : Ce) : Prop where
  ct : ctk c'.ct = ctk c.ct
  i : c'.i = c.i + m
  ns : ∃ st, c'.ns = N ++ st ∧ st.length = c.ns.length
  g : c'.g = 0
  cl : c'.cl = c.cl
  ps : c'.ps.length = c.ps.length
  bs : ∃ bt, c'.bs = X ++ bt ∧ bt.length = c.bs.length
  lv : c'.lv = []
theorem chnF_pre (k : Int) (N : List Nod) : ∀ (r : List Int) (x : Int) (st : List Nod), ∃ st', (chnF k x (N ++ st) r).2 = N ++ st' ∧ st'.length = st.length + r.length
  | [], x, st => ⟨st, rfl, rfl⟩
  | p :: r, x, st => by
    obtain ⟨st', h1, h2⟩ := chnF_pre k N r ((N ++ st).length : Int) (st ++ [twoN k x p])
    rw [chnF_cons, List.append_assoc]
    exact ⟨st', h1, by rw [h2, List.length_append, List.length_singleton, List.length_cons]; omega⟩
theorem chn_pre (k : Int) (N : List Nod) (ps : List Int) (st : List Nod) : ∃ st', (chn k (N ++ st) ps).2 = N ++ st' ∧ (ps ≠ [] → st'.length + 1 = st.length + ps.length) ∧ (ps = [] → st'.length = st.length) := by
  cases ps with
  | nil => exact ⟨st, rfl, fun h => absurd rfl h, fun _ => rfl⟩
  | cons x r =>
    obtain ⟨st', h1, h2⟩ := chnF_pre k N r x st
    exact ⟨st', h1, fun _ => by rw [h2, List.length_cons]; omega, fun h => by cases h⟩
theorem chn_len0 (k : Int) (ns : List Nod) : (chn k ns []).2 = ns := rfl
theorem sim_step {p t : List UInt8} {N : List Nod} {X : List Int} {c c1 c' : Ce} (h : Sim N X p.length c c') (hf : Flt t c c1) : ∃ c1', stepE (p ++ (t ++ [])) c' = .go c1' ∧ Sim N X p.length c1 c1' := by
  cases hf with
  | @nod ct i ns cl ps bs j n hct hi hb hp =>
    obtain ⟨ct', i', ns', g', cl', ps', bs', lv'⟩ := c'
    obtain ⟨a1, a2, ⟨st, a3, a4⟩, a5, a6, a7, ⟨bt, a8, a9⟩, a10⟩ := h
    simp only at a1 a2 a3 a4 a5 a6 a7 a8 a9 a10
    subst a2 a3 a5 a6 a8 a10
    have hct' : ct' = .B ∨ ct' = .L := by
      rcases hct with rfl | rfl
      · cases ct' <;> simp [ctk] at a1 ⊢
      · cases ct' <;> simp [ctk] at a1 ⊢
    refine ⟨⟨.P ((N ++ st).length : Int), j + p.length, (N ++ st) ++ [n], 0, cl', ps', X ++ bt, []⟩, by rw [stepE_pie (pieAt_in hi hb) hct' rfl, (in_pie hi hp).1]; rfl, rfl, by first | rfl | omega | (simp only; omega), ⟨st ++ [n], by rw [List.append_assoc], by simp [a4]⟩, rfl, rfl, a7, ⟨bt, rfl, a9⟩, rfl⟩
  | @anc ct i ns cl ps bs n hct hi hb hp =>
    obtain ⟨ct', i', ns', g', cl', ps', bs', lv'⟩ := c'
    obtain ⟨a1, a2, ⟨st, a3, a4⟩, a5, a6, a7, ⟨bt, a8, a9⟩, a10⟩ := h
    simp only at a1 a2 a3 a4 a5 a6 a7 a8 a9 a10
    subst a2 a3 a5 a6 a8 a10
    have hct' : ct' = .B ∨ ct' = .L := by
      rcases hct with rfl | rfl
      · cases ct' <;> simp [ctk] at a1 ⊢
      · cases ct' <;> simp [ctk] at a1 ⊢
    refine ⟨⟨.L, i + p.length + 1, (N ++ st) ++ [n], 0, cl', ps' ++ [((N ++ st).length : Int)], X ++ bt, []⟩, by rw [stepE_pie (pieAt_in hi hb) hct' rfl, in_anc hi hp]; rfl, rfl, by first | rfl | omega | (simp only; omega), ⟨st ++ [n], by rw [List.append_assoc], by simp [a4]⟩, rfl, rfl, by simp [a7], ⟨bt, rfl, a9⟩, rfl⟩
  | @bar i ns cl ps bs hi hb =>
    obtain ⟨ct', i', ns', g', cl', ps', bs', lv'⟩ := c'
    obtain ⟨a1, a2, ⟨st, a3, a4⟩, a5, a6, a7, ⟨bt, a8, a9⟩, a10⟩ := h
    simp only at a1 a2 a3 a4 a5 a6 a7 a8 a9 a10
    subst a2 a3 a5 a6 a8 a10
    obtain rfl : ct' = .L := by cases ct' <;> simp [ctk] at a1 ⊢
    obtain ⟨st', h1, h2, h3⟩ := chn_pre 2 N ps' st
    refine ⟨⟨.B, i + p.length + 1, (chn 2 (N ++ st) ps').2, 0, cl', [], (X ++ bt) ++ [(chn 2 (N ++ st) ps').1], []⟩, show stepEL _ _ = _ from by
      simp only [stepEL]
      rw [if_neg (by simp; omega), if_pos ((in_nx hi).trans hb)]; rfl, rfl, by first | rfl | omega | (simp only; omega), ⟨st', h1, ?_⟩, rfl, rfl, rfl, ⟨bt ++ [(chn 2 (N ++ st) ps').1], by rw [List.append_assoc], by simp [a9]⟩, rfl⟩
    show st'.length = (chn 2 ns ps).2.length
    by_cases hps : ps = []
    · subst hps
      have : ps' = [] := List.length_eq_zero_iff.1 a7
      rw [h3 this, chn_len0, a4]
    · have hne : ps' ≠ [] := fun e => hps (List.length_eq_zero_iff.1 (by rw [← a7, e]; rfl))
      have e1 := h2 hne
      have e2 := chn_len 2 ns hps
      omega
  | @rep x i ns cl ps bs lo hi' k hi hk hr =>
    obtain ⟨ct', i', ns', g', cl', ps', bs', lv'⟩ := c'
    obtain ⟨a1, a2, ⟨st, a3, a4⟩, a5, a6, a7, ⟨bt, a8, a9⟩, a10⟩ := h
    simp only at a1 a2 a3 a4 a5 a6 a7 a8 a9 a10
    subst a2 a3 a5 a6 a8 a10
    obtain ⟨x', rfl⟩ : ∃ x', ct' = .P x' := by cases ct' <;> simp [ctk] at a1 ⊢
    have h1 := (in_nx (p := p) (s := []) hi).trans hk
    rcases hr with ⟨rfl, rfl, rfl⟩ | ⟨rfl, rfl, rfl⟩ | ⟨rfl, rfl, rfl⟩
    · exact ⟨⟨.P ((N ++ st).length : Int), i + p.length + 1, (N ++ st) ++ [repN x' 0 (-1)], 0, cl', ps', X ++ bt, []⟩, stepE_star h1, rfl, by first | rfl | omega | (simp only; omega), ⟨st ++ [repN x' 0 (-1)], by rw [List.append_assoc], by simp [a4]⟩, rfl, rfl, a7, ⟨bt, rfl, a9⟩, rfl⟩
    · exact ⟨⟨.P ((N ++ st).length : Int), i + p.length + 1, (N ++ st) ++ [repN x' 1 (-1)], 0, cl', ps', X ++ bt, []⟩, stepE_plus h1, rfl, by first | rfl | omega | (simp only; omega), ⟨st ++ [repN x' 1 (-1)], by rw [List.append_assoc], by simp [a4]⟩, rfl, rfl, a7, ⟨bt, rfl, a9⟩, rfl⟩
    · exact ⟨⟨.P ((N ++ st).length : Int), i + p.length + 1, (N ++ st) ++ [repN x' 0 1], 0, cl', ps', X ++ bt, []⟩, stepE_qm h1, rfl, by first | rfl | omega | (simp only; omega), ⟨st ++ [repN x' 0 1], by rw [List.append_assoc], by simp [a4]⟩, rfl, rfl, a7, ⟨bt, rfl, a9⟩, rfl⟩
  | @ivl x i ns cl ps bs lo hi' j hi hk hv =>
    obtain ⟨ct', i', ns', g', cl', ps', bs', lv'⟩ := c'
    obtain ⟨a1, a2, ⟨st, a3, a4⟩, a5, a6, a7, ⟨bt, a8, a9⟩, a10⟩ := h
    simp only at a1 a2 a3 a4 a5 a6 a7 a8 a9 a10
    subst a2 a3 a5 a6 a8 a10
    obtain ⟨x', rfl⟩ : ∃ x', ct' = .P x' := by cases ct' <;> simp [ctk] at a1 ⊢
    exact ⟨⟨.P ((N ++ st).length : Int), j + p.length, (N ++ st) ++ [repN x' lo hi'], 0, cl', ps', X ++ bt, []⟩, stepE_ivl ((in_nx hi).trans hk) (in_ivE hi hv).1, rfl, by first | rfl | omega | (simp only; omega), ⟨st ++ [repN x' lo hi'], by rw [List.append_assoc], by simp [a4]⟩, rfl, rfl, a7, ⟨bt, rfl, a9⟩, rfl⟩
  | @off x i ns cl ps bs hi h1 h2 h3 h4 =>
    obtain ⟨ct', i', ns', g', cl', ps', bs', lv'⟩ := c'
    obtain ⟨a1, a2, ⟨st, a3, a4⟩, a5, a6, a7, ⟨bt, a8, a9⟩, a10⟩ := h
    simp only at a1 a2 a3 a4 a5 a6 a7 a8 a9 a10
    subst a2 a3 a5 a6 a8 a10
    obtain ⟨x', rfl⟩ : ∃ x', ct' = .P x' := by cases ct' <;> simp [ctk] at a1 ⊢
    have hn : nx (p ++ (t ++ [])) (i + p.length) = nx t i := by
      by_cases hlt : i < t.length
      · exact in_nx hlt
      · rw [nx_none (l := t) (by omega), nx_none (by simp; omega)]
    exact ⟨⟨.L, i + p.length, N ++ st, 0, cl', ps' ++ [x'], X ++ bt, []⟩, stepE_off (by omega) (by omega) (by omega) (by omega), rfl, rfl, ⟨st, rfl, a4⟩, rfl, rfl, by simp [a7], ⟨bt, rfl, a9⟩, rfl⟩
theorem sim_run {p t : List UInt8} {N : List Nod} {X : List Int} {c c1 : Ce} (hr : Run t c c1) : ∀ c', Sim N X p.length c c' → ∃ c1', StepsE (p ++ (t ++ [])) c' c1' ∧ Sim N X p.length c1 c1' := by
  induction hr with
  | refl c => exact fun c' h => ⟨c', .refl c', h⟩
  | head h1 _ ih =>
    intro c' h
    obtain ⟨d, h2, h3⟩ := sim_step h h1
    obtain ⟨e, h4, h5⟩ := ih d h3
    exact ⟨e, .head h2 h4, h5⟩
/-- Where a text without groups ends. -/
theorem fin_state {t : List UInt8} (h0 : t ≠ []) {ns : List Nod} (h : EndX t (.fin ns 0)) : ∃ i ns1 ps bs, Run t ce0 ⟨.L, i, ns1, 0, fun _ => false, ps, bs, []⟩ ∧ i = t.length ∧ ns = (altsE ⟨.L, i, ns1, 0, fun _ => false, ps, bs, []⟩).2 ∧ InvE ⟨.L, i, ns1, 0, fun _ => false, ps, bs, []⟩ := by
  rcases h with ⟨h, _⟩ | ⟨_, c, hs, hst, hg⟩
  · exact absurd h h0
  have hinv := hs.inv invE0
  obtain ⟨ct, i, ns1, g, cl, ps, bs, lv⟩ := c
  have hpm : ∀ (c : Ce) (a : Pm), stepPm c a ≠ .fin ns 0 := fun c a h => by
    cases a with
    | bad e => cases h
    | opn => simp only [stepPm] at h; split at h <;> cases h
    | bak q => simp only [stepPm] at h; split at h <;> cases h
    | nod j n => cases h
    | anc n => cases h
  cases ct with
  | B =>
    change stepEB t _ = _ at hst
    simp only [stepEB] at hst
    split at hst
    · cases hst
    · exact absurd hst (hpm _ _)
  | P x =>
    change stepEP t _ x = _ at hst
    simp only [stepEP] at hst
    repeat' split at hst
    all_goals cases hst
  | L =>
    change stepEL t _ = _ at hst
    simp only [stepEL] at hst
    split at hst
    · rename_i hi
      cases lv with
      | cons a lv => cases hst
      | nil =>
        simp only at hst
        injection hst with e1 e2
        (try simp only at e2)
        subst e2
        obtain ⟨hr, hf⟩ := run_of hs ⟨rfl, rfl, rfl, by simp [ce0]⟩ rfl
        have hcl : cl = fun _ => false := hf.cl
        subst hcl
        have hle : i ≤ t.length := hf.le
        exact ⟨i, ns1, ps, bs, hr, by omega, e1.symm, hinv⟩
    · split at hst
      · cases hst
      · cases lv with
        | nil => exact absurd hst (hpm _ _)
        | cons a lv =>
          obtain ⟨q, p, b⟩ := a
          simp only at hst
          split at hst
          · cases hst
          · exact absurd hst (hpm _ _)
/-- Where the last node is no alternative there is one branch. -/
theorem one_branch {i : Nat} {ns1 ns : List Nod} {ps bs : List Int} (h : ns = (altsE ⟨.L, i, ns1, 0, fun _ => false, ps, bs, []⟩).2) (hk : ∀ nd, ns.getLast? = some nd → nd.kind ≠ 3) : bs = [] := by
  cases hb : bs.reverse with
  | nil => simpa using hb
  | cons b r =>
    exfalso
    have hbs : bs = r.reverse ++ [b] := by
      have := congrArg List.reverse hb
      simpa using this
    simp only [altsE, branE] at h
    rw [hbs] at h
    obtain ⟨z, q, hq⟩ : ∃ z q, r.reverse ++ [b] = z :: q := by
      cases hr : r.reverse with
      | nil => exact ⟨b, [], rfl⟩
      | cons z q => exact ⟨z, q ++ [b], rfl⟩
    rw [hq, List.cons_append, chn_cons, chnF_snoc] at h
    have := hk (twoN 3 (chnF 3 z (chn 2 ns1 ps).2 q).1 (chn 2 ns1 ps).1) (by rw [h]; simp)
    exact this rfl
/-- Two texts with a | between. -/
theorem alts_end {a b : List UInt8} (ha : a ≠ []) (hb : b ≠ []) {nx ny : List Nod} (hx : EndX a (.fin nx 0)) (hy : EndX b (.fin ny 0)) (kx : ∀ nd, nx.getLast? = some nd → nd.kind ≠ 3) (ky : ∀ nd, ny.getLast? = some nd → nd.kind ≠ 3) :
    ∃ st, EndX (a ++ 124 :: b) (.fin (nx ++ st ++ [twoN 3 ((nx.length : Int) - 1) ((nx.length : Int) + (ny.length : Int) - 1)]) 0) ∧ st.length = ny.length := by
  obtain ⟨i1, n1, p1, b1, hr1, hi1, he1, hv1⟩ := fin_state ha hx
  obtain ⟨i2, n2, p2, b2, hr2, hi2, he2, hv2⟩ := fin_state hb hy
  obtain rfl := one_branch he1 kx
  obtain rfl := one_branch he2 ky
  subst hi1 hi2
  obtain ⟨hne1, hl1⟩ : ∃ hne : p1 ≠ [], p1.getLast hne = (n1.length : Int) - 1 := hv1.last
  obtain ⟨hne2, hl2⟩ : ∃ hne : p2 ≠ [], p2.getLast hne = (n2.length : Int) - 1 := hv2.last
  have ht1 : Fo n1 0 (p1 ++ []) := by simpa [rootsE, headE] using hv1.tree
  obtain ⟨f1, f2, f3⟩ := chn_fo 2 (.inl rfl) ht1 hne1 hl1
  have hnx : (chn 2 n1 p1).2 = nx := he1.symm
  rw [hnx] at f2
  have h1 := run_front (s := b) hr1
  have hbar : stepE (a ++ 124 :: b) ⟨.L, a.length, n1, 0, fun _ => false, p1, [], []⟩ = .go ⟨.B, a.length + 1, nx, 0, fun _ => false, [], [(nx.length : Int) - 1], []⟩ := by
    show stepEL _ _ = _
    simp only [stepEL]
    have hn : Go.Proofs.Ytnfbgpjadnlgbab.nx (a ++ 124 :: b) a.length = 124 := nx_at (c := 124) (r := b) (by rw [List.drop_left])
    rw [if_neg (by simp), if_pos hn]
    simp only [branE, hnx, f2, List.nil_append]
  have hu : (a ++ [124]) ++ (b ++ []) = a ++ 124 :: b := by simp
  obtain ⟨c1, hs1, hm⟩ := sim_run (p := a ++ [124]) (N := nx) (X := [(nx.length : Int) - 1]) hr2 ⟨.B, a.length + 1, nx, 0, fun _ => false, [], [(nx.length : Int) - 1], []⟩
    ⟨rfl, by simp [ce0], ⟨[], by simp, rfl⟩, rfl, rfl, rfl, ⟨[], by simp, rfl⟩, rfl⟩
  rw [hu] at hs1
  have hall : StepsE (a ++ 124 :: b) ce0 c1 := (h1.snoc hbar).trans hs1
  have hinv := hall.inv invE0
  obtain ⟨ct, i, ns, g, cl, ps, bs, lv⟩ := c1
  obtain ⟨m1, m2, ⟨st, m3, m4⟩, m5, m6, m7, ⟨bt, m8, m9⟩, m10⟩ := hm
  simp only at m1 m2 m3 m4 m5 m6 m7 m8 m9 m10
  obtain rfl : ct = .L := by cases ct <;> simp [ctk] at m1 ⊢
  obtain rfl : bt = [] := List.length_eq_zero_iff.1 m9
  subst m2 m3 m5 m6 m8 m10
  obtain ⟨hne, hl⟩ : ∃ hne : ps ≠ [], ps.getLast hne = ((nx ++ st).length : Int) - 1 := hinv.last
  have ht : Fo (nx ++ st) 0 (ps ++ ([(nx.length : Int) - 1] ++ [])) := by simpa [rootsE, headE] using hinv.tree
  obtain ⟨g1, g2, g3⟩ := chn_fo 2 (.inl rfl) ht hne hl
  obtain ⟨st', q1, q2, q3⟩ := chn_pre 2 nx ps st
  have q4 := q2 hne
  have q5 := chn_len 2 n2 hne2
  have hny : (chn 2 n2 p2).2 = ny := he2.symm
  rw [hny] at q5
  have hlen : st'.length = ny.length := by omega
  rw [q1, List.length_append, hlen] at g2
  refine ⟨st', .inr ⟨by simp, hall.ends (.fin ?_)⟩, hlen⟩
  show stepEL _ _ = _
  simp only [stepEL]
  rw [if_pos (by simp; omega)]
  simp only [altsE, branE, q1]
  rw [g2]
  simp only [List.append_nil, List.cons_append, List.nil_append, chn_cons, chnF_cons, chnF_nil]
  congr 4
end Alts
end Go.Proofs.Ytnfbgpjadnlgbab
