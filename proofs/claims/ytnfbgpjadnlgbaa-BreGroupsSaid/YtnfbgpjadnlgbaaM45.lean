/- A text without groups, read within groups, with more behind it, and the whole; append onto a row that is full and may be marked (what a constant text becomes). -/
import Derived.Test.YtnfbgpjadnlgbaaM44
set_option linter.unusedVariables false
set_option maxRecDepth 100000
namespace Go.Proofs.Ytnfbgpjadnlgbaa
open Go.RowKit

def opens : Nat → List UInt8
  | 0 => []
  | k + 1 => 92 :: 40 :: opens k
theorem opens_len : ∀ k, (opens k).length = 2 * k
  | 0 => rfl
  | k + 1 => by rw [opens, List.length_cons, List.length_cons, opens_len k]; omega
/-- What may stand behind. -/
def TailOK (s : List UInt8) : Prop := s = [] ∨ ∃ x r, s = 92 :: x :: r ∧ (x = 40 ∨ x = 41)
theorem drop_opens (k : Nat) (s : List UInt8) (i : Nat) : (opens k ++ s).drop (i + 2 * k) = s.drop i := by
  rw [List.drop_append, opens_len, List.drop_eq_nil_of_le (by rw [opens_len]; omega), List.nil_append, Nat.add_sub_cancel]
theorem bg_app {p u s : List UInt8} (h : p.length ≤ u.length) : bg p (u ++ s) = bg p u :=
  (bg_agree (n := p.length) (by rw [List.take_append_of_le_length h]) (Nat.le_refl _)).symm
theorem bg_one {x : UInt8} {a s : List UInt8} (hs : TailOK s) (hx : x ≠ 92) : bg [x] (a ++ s) = bg [x] a := by
  cases a with
  | nil =>
    rcases hs with rfl | ⟨y, r, rfl, _⟩
    · rfl
    · rw [List.nil_append, bg_cons]
      have : (x == 92) = false := by rw [beq_eq_false_iff_ne]; exact hx
      rw [this]; rfl
  | cons y r => exact bg_app (by simp)
theorem bg_ivl {a s : List UInt8} (hs : TailOK s) : bg [92, 123] (a ++ s) = bg [92, 123] a := by
  match a with
  | [] =>
    rcases hs with rfl | ⟨y, r, rfl, hy⟩
    · rfl
    · rcases hy with rfl | rfl <;> rfl
  | [y] =>
    rcases hs with rfl | ⟨z, r, rfl, _⟩
    · rfl
    · show bg [92, 123] (y :: 92 :: z :: r) = bg [92, 123] [y]
      rw [bg_cons, bg_cons, bg_cons, bg_none, show ((123 : UInt8) == 92) = false by decide]; simp
  | y :: z :: r => exact bg_app (by simp)
theorem dEnd_app {b s : List UInt8} {k : Nat} (hk : k ≤ b.length) (h : dEnd b k < b.length) : dEnd (b ++ s) k = dEnd b k := by
  unfold dEnd at h ⊢
  rw [List.drop_append_of_le_length hk, List.takeWhile_append, if_neg (by rw [List.length_drop]; omega)]
theorem numS_app {b s : List UInt8} {a k : Nat} {most x : Int} (h : numS b (a : Int) most = (x, (k : Int), 0)) (hk : k < b.length) : numS (b ++ s) (a : Int) most = (x, (k : Int), 0) := by
  unfold numS at h ⊢
  split at h
  · simp at h
  · rename_i h1
    rw [Int.toNat_natCast] at h ⊢
    split at h
    · simp at h
    · rename_i h2
      have hab : a ≤ b.length := by omega
      have hdk : dEnd b a = k := by
        split at h
        · simp at h
        · simp only [Prod.mk.injEq] at h; omega
      rw [if_neg (by rw [List.length_append]; omega), dEnd_app hab (by omega), if_neg h2, List.take_append_of_le_length (by omega)]
      exact h
theorem ivB_app {b s : List UInt8} {lo hi : Int} {j : Nat} (h : ivB b = some (lo, hi, j)) : ivB (b ++ s) = some (lo, hi, j) := by
  have hok := ivB_ok h
  unfold ivB at h ⊢
  rcases hq : numS b 2 255 with ⟨x, y, e⟩
  rw [hq] at h
  simp only at h
  by_cases he : e = 0
  · subst he
    obtain ⟨k, rfl, h1, h2, h3, h4⟩ := numS_ok (a := 2) hq
    rw [if_neg (by simp), Int.toNat_natCast] at h
    split at h
    · rename_i hb
      have hr := bg_room hb
      simp at hr
      have hN := numS_app (s := s) (a := 2) (k := k) (by rw [← hq]; rfl) (by omega)
      rw [show ((2 : Nat) : Int) = 2 from rfl] at hN
      rw [hN]
      simp only
      rw [if_neg (by simp), Int.toNat_natCast, List.drop_append_of_le_length h2, bg_app (by rw [List.length_drop]; simp; omega), if_pos hb]
      exact h
    · rename_i hb
      split at h
      · rename_i hb2
        rcases hq2 : numS b ((k : Int) + 1) 255 with ⟨x2, y2, e2⟩
        rw [hq2] at h
        simp only at h
        split at h
        · cases h
        · rename_i hne
          obtain rfl : e2 = 0 := by omega
          obtain ⟨k2, rfl, g1, g2, g3, g4⟩ := numS_ok (a := k + 1) (by rw [← hq2]; rfl)
          rw [Int.toNat_natCast] at h
          split at h
          · rename_i hb3
            have hr := bg_room hb3
            simp at hr
            have hN := numS_app (s := s) (a := 2) (k := k) (by rw [← hq]; rfl) (by omega)
            rw [show ((2 : Nat) : Int) = 2 from rfl] at hN
            have hN2 := numS_app (s := s) (a := k + 1) (k := k2) (by rw [← hq2]; rfl) (by omega)
            rw [show ((k + 1 : Nat) : Int) = (k : Int) + 1 by omega] at hN2
            rw [hN]
            simp only
            rw [hN2]
            simp only
            rw [if_neg (by simp), Int.toNat_natCast, List.drop_append_of_le_length h2, bg_app (by rw [List.length_drop]; simp; omega), if_neg hb, bg_app (by rw [List.length_drop]; simp; omega), if_pos hb2, if_neg hne, Int.toNat_natCast, List.drop_append_of_le_length g2, bg_app (by rw [List.length_drop]; simp; omega), if_pos hb3]
            exact h
          · cases h
      · rename_i hb2
        split at h
        · rename_i hb3
          have hr := bg_room hb3
          simp at hr
          have hN := numS_app (s := s) (a := 2) (k := k) (by rw [← hq]; rfl) (by omega)
          rw [show ((2 : Nat) : Int) = 2 from rfl] at hN
          rw [hN]
          simp only
          obtain ⟨r, hd⟩ := drop_two hb3
          have e1 : bg [44, 92, 125] ((b ++ s).drop k) = false := by rw [List.drop_append_of_le_length h2, hd]; rfl
          have e2 : bg [44] ((b ++ s).drop k) = false := by rw [List.drop_append_of_le_length h2, hd]; rfl
          rw [if_neg (by simp), Int.toNat_natCast, if_neg (by rw [e1]; decide), if_neg (by rw [e2]; decide), List.drop_append_of_le_length h2, bg_app (by rw [List.length_drop]; simp; omega), if_pos hb3]
          exact h
        · cases h
  · rw [if_pos he] at h; cases h
theorem readB_app {t s : List UInt8} (hs : TailOK s) {k i : Nat} {f : Nat → Bool} {j : Nat} (hi : i ≤ t.length) (h : readB t i = .ok (f, j)) : readB (opens k ++ (t ++ s)) (i + 2 * k) = .ok (f, j + 2 * k) := by
  have hd : ∀ m, m ≤ t.length → (opens k ++ (t ++ s)).drop (m + 2 * k) = t.drop m ++ s := fun m hm => by rw [drop_opens, List.drop_append_of_le_length hm]
  have hit : ∀ (m : Nat) (acc g : Nat → Bool) (q : Nat), m ≤ t.length → items true (t.drop m) m acc = .ok (g, q) → items true (t.drop m ++ s) (m + 2 * k) acc = .ok (g, q + 2 * k) := fun m acc g q hm e => by
    have hsz := items_size _ _ _ _ _ _ e
    rw [List.length_drop] at hsz
    have := items_agree true (t.drop m) m acc g q (t.drop m ++ s) e (by rw [List.take_append_of_le_length (by rw [List.length_drop]; omega)])
    rw [items_move, this]
  cases hx : bg [94] (t.drop i) with
  | true =>
    have hr := bg_room hx
    simp at hr
    rw [readB_not hx] at h
    rw [readB_not (by rw [hd i hi, bg_one hs (by decide)]; exact hx)]
    cases he : items true (t.drop (i + 1)) (i + 1) noneF with
    | error e => rw [he] at h; cases h
    | ok p =>
      obtain ⟨g, q⟩ := p
      rw [he] at h
      simp only [Except.ok.injEq, Prod.mk.injEq] at h
      rw [show i + 2 * k + 1 = (i + 1) + 2 * k by omega, hd (i + 1) (by omega), hit (i + 1) noneF g q (by omega) he]
      simp only [Except.ok.injEq, Prod.mk.injEq]
      exact ⟨h.1, by omega⟩
  | false =>
    rw [readB_plain hx] at h
    rw [readB_plain (by rw [hd i hi, bg_one hs (by decide)]; exact hx), hd i hi]
    exact hit i noneF f j hi h

theorem atom_j {t : List UInt8} {i j : Nat} {nd : Nod} (h : atomA t i = .nod j nd) : i < j := by
  unfold atomA at h
  cases hd : t.drop i with
  | nil => rw [hd] at h; cases h
  | cons c r =>
    rw [hd] at h
    have hlt : i < t.length := (drop_at hd).1
    simp only [atomR] at h
    split at h
    · cases r with
      | nil => cases h
      | cons x r =>
        simp only [escA] at h
        repeat' split at h
        all_goals first
          | (simp only [Am.nod.injEq] at h; omega)
          | cases h
    · split at h
      · unfold brkA at h
        cases hb : readB t (i + 1) with
        | error e => rw [hb] at h; cases h
        | ok p =>
          obtain ⟨f, q⟩ := p
          rw [hb] at h
          simp only [Am.nod.injEq] at h
          have := readB_size (by omega) hb
          omega
      · repeat' split at h
        all_goals (simp only [Am.nod.injEq] at h; omega)
theorem escA_nod {i j : Nat} {nd : Nod} {x : UInt8} {r : List UInt8} (h : escA i (x :: r) = .nod j nd) (i' : Nat) (r' : List UInt8) : j = i + 2 ∧ escA i' (x :: r') = .nod (i' + 2) nd := by
  simp only [escA] at h ⊢
  by_cases h1 : x = 40
  · rw [if_pos h1] at h; cases h
  rw [if_neg h1] at h ⊢
  by_cases h2 : x = 41
  · rw [if_pos h2] at h; cases h
  rw [if_neg h2] at h ⊢
  by_cases h3 : x = 123
  · rw [if_pos h3] at h; cases h
  rw [if_neg h3] at h ⊢
  by_cases h4 : x = 110
  · rw [if_pos h4] at h ⊢
    simp only [Am.nod.injEq] at h ⊢
    exact ⟨h.1.symm, trivial, h.2⟩
  rw [if_neg h4] at h ⊢
  by_cases h5 : 49 ≤ x ∧ x ≤ 57
  · rw [if_pos h5] at h; cases h
  rw [if_neg h5] at h ⊢
  by_cases h6 : isAl x = true
  · rw [if_pos h6] at h; cases h
  rw [if_neg h6] at h ⊢
  simp only [Am.nod.injEq] at h ⊢
  exact ⟨h.1.symm, trivial, h.2⟩
theorem atom_end {t : List UInt8} {i j : Nat} {nd : Nod} (h : atomA t i = .nod j nd) : j ≤ t.length := by
  unfold atomA at h
  cases hd : t.drop i with
  | nil => rw [hd] at h; cases h
  | cons c r =>
    rw [hd] at h
    have hlen := congrArg List.length hd
    rw [List.length_drop, List.length_cons] at hlen
    have hlt : i < t.length := (drop_at hd).1
    simp only [atomR] at h
    split at h
    · cases r with
      | nil => cases h
      | cons x r =>
        rw [List.length_cons] at hlen
        have := (escA_nod h 0 []).1
        omega
    · split at h
      · unfold brkA at h
        cases hb : readB t (i + 1) with
        | error e => rw [hb] at h; cases h
        | ok p =>
          obtain ⟨f, q⟩ := p
          rw [hb] at h
          simp only [Am.nod.injEq] at h
          have := readB_size (by omega) hb
          omega
      · repeat' split at h
        all_goals (simp only [Am.nod.injEq] at h; omega)
/-- An atom that puts a node does so within groups, too. -/
theorem atom_sim {t s : List UInt8} (hs : TailOK s) (k : Nat) {i j : Nat} {nd : Nod} (h : atomA t i = .nod j nd) : (∃ nd', atomA (opens k ++ (t ++ s)) (i + 2 * k) = .nod (j + 2 * k) nd') ∧ bg [92, 41] (t.drop i ++ s) = false := by
  unfold atomA at h ⊢
  cases hd : t.drop i with
  | nil => rw [hd] at h; cases h
  | cons c r =>
    have hlt : i < t.length := (drop_at hd).1
    rw [hd] at h
    rw [drop_opens, List.drop_append_of_le_length (by omega), hd]
    simp only [List.cons_append]
    simp only [atomR] at h ⊢
    by_cases h92 : c = 92
    · subst h92
      rw [if_pos rfl] at h ⊢
      cases r with
      | nil => cases h
      | cons x r =>
        have h41 : x ≠ 41 := by
          rintro rfl
          simp [escA] at h
        obtain ⟨rfl, h'⟩ := escA_nod h (i + 2 * k) (r ++ s)
        refine ⟨⟨nd, by rw [List.cons_append, h', show i + 2 * k + 2 = i + 2 + 2 * k by omega]⟩, ?_⟩
        rw [List.cons_append, bg_cons, bg_cons]
        have : ((41 : UInt8) == x) = false := by rw [beq_eq_false_iff_ne]; exact fun e => h41 e.symm
        rw [this]; simp
    · have hb : bg [92, 41] (c :: (r ++ s)) = false := by
        rw [bg_cons]
        have : ((92 : UInt8) == c) = false := by rw [beq_eq_false_iff_ne]; exact fun e => h92 e.symm
        rw [this]; rfl
      rw [if_neg h92] at h ⊢
      refine ⟨?_, hb⟩
      by_cases h91 : c = 91
      · rw [if_pos h91] at h ⊢
        unfold brkA at h ⊢
        cases hr : readB t (i + 1) with
        | error e => rw [hr] at h; cases h
        | ok p =>
          obtain ⟨f, q⟩ := p
          rw [hr] at h
          simp only [Am.nod.injEq] at h
          rw [show i + 2 * k + 1 = i + 1 + 2 * k by omega, readB_app hs (by omega) hr]
          exact ⟨_, by rw [h.1]⟩
      · rw [if_neg h91] at h ⊢
        by_cases h46 : c = 46
        · rw [if_pos h46] at h ⊢
          simp only [Am.nod.injEq] at h
          exact ⟨_, by rw [← h.1, show i + 2 * k + 1 = i + 1 + 2 * k by omega]⟩
        · rw [if_neg h46] at h ⊢
          have hj : j = i + 1 := by
            split at h <;> (simp only [Am.nod.injEq] at h; omega)
          subst hj
          rw [show i + 2 * k + 1 = i + 1 + 2 * k by omega]
          split
          · exact ⟨_, rfl⟩
          · exact ⟨_, rfl⟩

/-! ### The machine within groups -/
theorem putS_g {ns : List Nod} {i : Nat} {n : Nod} {k : Int → List Nod → Rs} {c : Cf} (h : putS ns i n k = .go c) : ns.length < 1000 ∧ k (ns.length : Int) (ns ++ [n]) = .go c := putS_go h
def cntH : Ct → Nat
  | .P _ => 1
  | _ => 0
/-- A state without groups, and one that is like it within k groups. -/
structure Sim (k : Nat) (L : List (Nat × List Int)) (c c' : Cf) : Prop where
  ct : c'.ct = c.ct
  i : c'.i = c.i + 2 * k
  len : c'.ns.length = c.ns.length
  g0 : c.g = 0
  g : c'.g = k
  ps : c'.ps = c.ps
  lv0 : c.lv = []
  lv : c'.lv = L
  cl0 : ∀ q, c.cl q = false
  b1 : c.ns.length ≤ c.i
  b2 : c.ps.length + cntH c.ct ≤ c.i
theorem sim_step {t s : List UInt8} (hs : TailOK s) {k : Nat} {L : List (Nat × List Int)} {c c' c1 : Cf} (h : Sim k L c c') (hst : step t c = .go c1) (h1 : c1.g = 0) (hi : c.i ≤ t.length) :
    ∃ c1', step (opens k ++ (t ++ s)) c' = .go c1' ∧ Sim k L c1 c1' ∧ c1.i ≤ t.length := by
  obtain ⟨ct, i, ns, g, cl, ps, lv⟩ := c
  obtain ⟨ct', i', ns', g', cl', ps', lv'⟩ := c'
  obtain ⟨a1, a2, a3, a4, a5, a6, a7, a8, a9, b1, b2⟩ := h
  simp only at a1 a2 a3 a4 a5 a6 a7 a8 a9 b1 b2 hi
  subst a1 a2 a4 a5 a6 a7 a8
  have hd : (opens g' ++ (t ++ s)).drop (i + 2 * g') = t.drop i ++ s := by rw [drop_opens, List.drop_append_of_le_length hi]
  cases ct' with
  | B =>
    change stepB t _ = _ at hst
    simp only [stepB] at hst
    show ∃ c1', stepB _ _ = _ ∧ _
    simp only [stepB]
    rw [hd, bg_one hs (by decide)]
    split at hst
    · rename_i hb
      have hr := bg_room hb
      simp at hr
      obtain ⟨hl, hst⟩ := putS_go hst
      injection hst with hst
      subst hst
      rw [if_pos hb]
      simp only [putS]
      rw [if_pos (by omega)]
      exact ⟨_, rfl, ⟨rfl, by simp only; omega, by simp [a3], rfl, rfl, by rw [a3], rfl, rfl, a9, by simp; omega, by simp [cntH]⟩, hr⟩
    · rename_i hb
      injection hst with hst
      subst hst
      rw [if_neg hb]
      exact ⟨_, rfl, ⟨rfl, rfl, a3, rfl, rfl, rfl, rfl, rfl, a9, b1, by simp [cntH]⟩, hi⟩
  | P x =>
    change stepP t _ x = _ at hst
    simp only [stepP] at hst
    show ∃ c1', stepP _ _ x = _ ∧ _
    simp only [stepP]
    rw [hd, bg_one hs (by decide), bg_ivl hs]
    simp only [cntH] at b2
    split at hst
    · rename_i hb
      have hr := bg_room hb
      simp at hr
      obtain ⟨hl, hst⟩ := putS_go hst
      injection hst with hst
      subst hst
      rw [if_pos hb]
      simp only [putS]
      rw [if_pos (by omega)]
      exact ⟨_, rfl, ⟨by rw [a3], by simp only; omega, by simp [a3], rfl, rfl, rfl, rfl, rfl, a9, by simp; omega, by simp [cntH]; omega⟩, hr⟩
    · rename_i hb
      rw [if_neg hb]
      split at hst
      · rename_i hb2
        rw [if_pos hb2]
        cases hv : ivl t i with
        | none => rw [hv] at hst; cases hst
        | some p =>
          obtain ⟨lo, hi', j⟩ := p
          have hsz := ivl_size hv hi
          rw [hv] at hst
          simp only at hst
          obtain ⟨hl, hst⟩ := putS_go hst
          injection hst with hst
          subst hst
          have hv2 : ivl (opens g' ++ (t ++ s)) (i + 2 * g') = some (lo, hi', j + 2 * g') := by
            unfold ivl at hv ⊢
            obtain ⟨⟨a, b, q⟩, h3, h4⟩ := Option.map_eq_some_iff.1 hv
            simp only [Prod.mk.injEq] at h4
            obtain ⟨rfl, rfl, rfl⟩ := h4
            rw [hd, ivB_app h3]
            simp only [Option.map_some]
            rw [show i + 2 * g' + q = i + q + 2 * g' by omega]
          rw [hv2]
          simp only [putS]
          rw [if_pos (by omega)]
          exact ⟨_, rfl, ⟨by rw [a3], rfl, by simp [a3], rfl, rfl, rfl, rfl, rfl, a9, by simp; omega, by simp [cntH]; omega⟩, hsz.2.1⟩
      · rename_i hb2
        rw [if_neg hb2]
        injection hst with hst
        subst hst
        exact ⟨_, rfl, ⟨rfl, rfl, a3, rfl, rfl, rfl, rfl, rfl, a9, b1, by simp [cntH]; omega⟩, hi⟩
  | L =>
    change stepL t ⟨.L, i, ns, 0, cl, ps', []⟩ = _ at hst
    simp only [stepL] at hst
    split at hst
    · split at hst <;> cases hst
    · rename_i hni
      cases ha : atomA t i with
      | bad e => rw [ha] at hst; cases hst
      | opn =>
        rw [ha] at hst
        simp only [stepA] at hst
        split at hst
        · injection hst with hst
          subst hst
          simp at h1
        · cases hst
      | bak q =>
        rw [ha] at hst
        simp only [stepA] at hst
        rw [if_neg (by rw [a9]; decide)] at hst
        cases hst
      | nod j nd =>
        have hj := atom_j ha
        have hjt : j ≤ t.length := atom_end ha
        rw [ha] at hst
        simp only [stepA] at hst
        obtain ⟨hl, hst⟩ := putS_go hst
        injection hst with hst
        subst hst
        obtain ⟨⟨nd', hn⟩, hb⟩ := atom_sim hs g' ha
        simp only [cntH] at b2
        refine ⟨⟨.P (ns'.length : Int), j + 2 * g', ns' ++ [nd'], g', cl', ps', lv'⟩, ?_, ⟨by rw [a3], rfl, by simp [a3], rfl, rfl, rfl, rfl, rfl, a9, by simp; omega, by simp [cntH]; omega⟩, hjt⟩
        have hlen : ¬ (opens g' ++ (t ++ s)).length ≤ i + 2 * g' := by rw [List.length_append, List.length_append, opens_len]; omega
        cases lv' with
        | nil =>
          show stepL _ ⟨.L, i + 2 * g', ns', g', cl', ps', []⟩ = _
          simp only [stepL]
          rw [if_neg hlen, hn]
          simp only [stepA, putS]
          rw [if_pos (by omega)]
        | cons a lv' =>
          obtain ⟨q, p⟩ := a
          show stepL _ ⟨.L, i + 2 * g', ns', g', cl', ps', (q, p) :: lv'⟩ = _
          simp only [stepL]
          rw [if_neg hlen, hd, if_neg (by rw [hb]; decide), hn]
          simp only [stepA, putS]
          rw [if_pos (by omega)]
end Go.Proofs.Ytnfbgpjadnlgbaa

namespace Go.Proofs.Ytnfbgpjadnlgbaa
open Go.RowKit

theorem stepA_gle {c c1 : Cf} {a : Am} (h : stepA c a = .go c1) : c.g ≤ c1.g := by
  cases a with
  | bad e => cases h
  | opn =>
    simp only [stepA] at h
    split at h
    · injection h with h; subst h; exact Nat.le_succ _
    · cases h
  | bak q =>
    simp only [stepA] at h
    split at h
    · obtain ⟨_, h⟩ := putS_go h
      injection h with h; subst h; exact Nat.le_refl _
    · cases h
  | nod j n =>
    simp only [stepA] at h
    obtain ⟨_, h⟩ := putS_go h
    injection h with h; subst h; exact Nat.le_refl _
theorem step_gle {t : List UInt8} {c c1 : Cf} (h : step t c = .go c1) : c.g ≤ c1.g := by
  obtain ⟨ct, i, ns, g, cl, ps, lv⟩ := c
  cases ct with
  | B =>
    change stepB t _ = _ at h
    simp only [stepB] at h
    split at h
    · obtain ⟨_, h⟩ := putS_go h
      injection h with h; subst h; exact Nat.le_refl _
    · injection h with h; subst h; exact Nat.le_refl _
  | P x =>
    change stepP t _ x = _ at h
    simp only [stepP] at h
    split at h
    · obtain ⟨_, h⟩ := putS_go h
      injection h with h; subst h; exact Nat.le_refl _
    · split at h
      · split at h
        · cases h
        · obtain ⟨_, h⟩ := putS_go h
          injection h with h; subst h; exact Nat.le_refl _
      · injection h with h; subst h; exact Nat.le_refl _
  | L =>
    cases lv with
    | nil =>
      change stepL t ⟨.L, i, ns, g, cl, ps, []⟩ = _ at h
      simp only [stepL] at h
      split at h
      · split at h <;> cases h
      · exact stepA_gle h
    | cons a lv =>
      obtain ⟨q, p⟩ := a
      change stepL t ⟨.L, i, ns, g, cl, ps, (q, p) :: lv⟩ = _ at h
      simp only [stepL] at h
      split at h
      · cases h
      · split at h
        · split at h
          · cases h
          · obtain ⟨_, h⟩ := putS_go h
            injection h with h; subst h; exact Nat.le_refl _
        · exact stepA_gle h
theorem Steps.gle {t : List UInt8} {c c1 : Cf} (h : Steps t c c1) : c.g ≤ c1.g := by
  induction h with
  | refl => exact Nat.le_refl _
  | head h _ ih => exact Nat.le_trans (step_gle h) ih
theorem sim_steps {t s : List UInt8} (hs : TailOK s) {k : Nat} {L : List (Nat × List Int)} {c c2 : Cf} (hst : Steps t c c2) (h2 : c2.g = 0) : ∀ c' : Cf, Sim k L c c' → c.i ≤ t.length →
    ∃ c2', Steps (opens k ++ (t ++ s)) c' c2' ∧ Sim k L c2 c2' ∧ c2.i ≤ t.length := by
  induction hst with
  | refl c => exact fun c' h hi => ⟨c', .refl _, h, hi⟩
  | head h1 hr ih =>
    intro c' h hi
    obtain ⟨c1', e1, e2, e3⟩ := sim_step hs h h1 (by have := hr.gle; omega) hi
    obtain ⟨c2', f1, f2, f3⟩ := ih h2 c1' e2 e3
    exact ⟨c2', .head e1 f1, f2, f3⟩
theorem step_fin {t : List UInt8} {c : Cf} {ns : List Nod} {g : Nat} (h : step t c = .fin ns g) : c.ct = .L ∧ c.lv = [] ∧ t.length ≤ c.i ∧ c.g = g ∧ ∃ x, catS c.ns c.ps = some (x, ns) := by
  have hA : ∀ (c : Cf) (a : Am), stepA c a ≠ .fin ns g := by
    intro c a
    cases a <;> simp only [stepA, putS] <;> (repeat' split) <;> simp
  obtain ⟨ct, i, ns0, g0, cl, ps, lv⟩ := c
  cases ct with
  | B =>
    change stepB t _ = _ at h
    simp only [stepB, putS] at h
    repeat' split at h
    all_goals cases h
  | P x =>
    change stepP t _ x = _ at h
    simp only [stepP, putS] at h
    repeat' split at h
    all_goals cases h
  | L =>
    cases lv with
    | nil =>
      change stepL t ⟨.L, i, ns0, g0, cl, ps, []⟩ = _ at h
      simp only [stepL] at h
      split at h
      · rename_i hi
        cases hc : catS ns0 ps with
        | none => rw [hc] at h; cases h
        | some p =>
          obtain ⟨x, m⟩ := p
          rw [hc] at h
          injection h with h1 h2
          subst h1
          exact ⟨rfl, rfl, hi, h2, x, rfl⟩
      · exact absurd h (hA _ _)
    | cons a lv =>
      obtain ⟨q, p⟩ := a
      change stepL t ⟨.L, i, ns0, g0, cl, ps, (q, p) :: lv⟩ = _ at h
      simp only [stepL] at h
      split at h
      · cases h
      · split at h
        · split at h
          · cases h
          · simp only [putS] at h
            split at h <;> cases h
        · exact absurd h (hA _ _)
theorem catGo_same : ∀ (r : List Int) (x : Int) (ns ns' : List Nod) (y : Int) (m : List Nod), ns'.length = ns.length → catGo x ns r = some (y, m) → ∃ m', catGo x ns' r = some (y, m') ∧ m'.length = m.length ∧ m.length = ns.length + r.length
  | [], x, ns, ns', y, m, hl, h => by
    rw [catGo_nil] at h
    simp only [Option.some.injEq, Prod.mk.injEq] at h
    obtain ⟨rfl, rfl⟩ := h
    exact ⟨ns', rfl, hl, rfl⟩
  | p :: r, x, ns, ns', y, m, hl, h => by
    rw [catGo_cons] at h
    split at h
    · rename_i hlt
      obtain ⟨m', e1, e2, e3⟩ := catGo_same r _ _ (ns' ++ [twoN 2 x p]) y m (by simp [hl]) h
      refine ⟨m', by rw [catGo_cons, if_pos (by omega), hl]; exact e1, e2, by rw [e3]; simp; omega⟩
    · cases h
theorem catS_same {ns ns' : List Nod} {ps : List Int} {y : Int} {m : List Nod} (hl : ns'.length = ns.length) (h : catS ns ps = some (y, m)) : ∃ m', catS ns' ps = some (y, m') ∧ m'.length = m.length ∧ m.length ≤ ns.length + ps.length + 1 := by
  cases ps with
  | nil =>
    rw [catS_nil] at h
    split at h
    · simp only [Option.some.injEq, Prod.mk.injEq] at h
      obtain ⟨rfl, rfl⟩ := h
      exact ⟨ns' ++ [emptyN], by rw [catS_nil, if_pos (by omega), hl], by simp [hl], by simp⟩
    · cases h
  | cons x r =>
    obtain ⟨m', e1, e2, e3⟩ := catGo_same r x ns ns' y m hl h
    exact ⟨m', e1, e2, by rw [e3]; simp; omega⟩

/-! ### Opening, closing -/
def lvls : Nat → List (Nat × List Int)
  | 0 => []
  | k + 1 => (k + 1, []) :: lvls k
theorem opens_add (a b : Nat) : opens (a + b) = opens a ++ opens b := by
  induction a with
  | zero => rw [Nat.zero_add]; rfl
  | succ a ih => rw [show a + 1 + b = (a + b) + 1 by omega]; simp only [opens, List.cons_append]; rw [ih]
theorem step_opn {T : List UInt8} {i : Nat} {r : List UInt8} {ns : List Nod} {g : Nat} {cl : Nat → Bool} {ps : List Int} {lv : List (Nat × List Int)} (hd : T.drop i = 92 :: 40 :: r) (hg : g < 9) :
    step T ⟨.L, i, ns, g, cl, ps, lv⟩ = .go ⟨.B, i + 2, ns, g + 1, cl, [], (g + 1, ps) :: lv⟩ := by
  rw [step_atom (inG := !lv.isEmpty) (drop_at hd).1 (fun _ => by rw [hd]; rfl) (by simp), atom_opn (by rw [hd]; rfl)]
  simp only [stepA]
  rw [if_pos hg]
theorem step_opn_full {T : List UInt8} {i : Nat} {r : List UInt8} {ns : List Nod} {g : Nat} {cl : Nat → Bool} {ps : List Int} {lv : List (Nat × List Int)} (hd : T.drop i = 92 :: 40 :: r) (hg : ¬ g < 9) :
    step T ⟨.L, i, ns, g, cl, ps, lv⟩ = .bad i 17 := by
  rw [step_atom (inG := !lv.isEmpty) (drop_at hd).1 (fun _ => by rw [hd]; rfl) (by simp), atom_opn (by rw [hd]; rfl)]
  simp only [stepA]
  rw [if_neg hg]
theorem open_steps (k : Nat) (hk : k ≤ 9) (r : List UInt8) : ∀ j, j ≤ k → Steps (opens k ++ r) cf0 ⟨.B, 2 * j, [], j, fun _ => false, [], lvls j⟩
  | 0, _ => .refl _
  | j + 1, hj => by
    have hd : (opens k ++ r).drop (2 * j) = 92 :: 40 :: (opens (k - j - 1) ++ r) := by
      rw [show k = j + (k - j) by omega, opens_add, List.append_assoc]
      have := drop_opens j (opens (k - j) ++ r) 0
      rw [Nat.zero_add] at this
      rw [show j + (k - j) - j - 1 = k - j - 1 by omega, this, show k - j = (k - j - 1) + 1 by omega]
      rfl
    refine (open_steps k hk r j (by omega)).trans (.head (step_plain (by rw [hd]; rfl)) (.one ?_))
    exact step_opn hd (by omega)
def closes : Nat → List UInt8
  | 0 => []
  | k + 1 => 92 :: 41 :: closes k
theorem closes_len : ∀ k, (closes k).length = 2 * k
  | 0 => rfl
  | k + 1 => by rw [closes, List.length_cons, List.length_cons, closes_len k]; omega
theorem close_tail {r : List UInt8} (hr : TailOK r) : ∀ q, TailOK (closes q ++ r)
  | 0 => hr
  | q + 1 => .inr ⟨41, closes q ++ r, rfl, .inr rfl⟩
theorem drop_next {T : List UInt8} {i : Nat} {a b : UInt8} {r : List UInt8} (h : T.drop i = a :: b :: r) : T.drop (i + 2) = r := by
  have := (drop_at (drop_at h).2.2).2.2
  exact this
theorem close_steps {T r : List UInt8} (hr : TailOK r) {g : Nat} : ∀ (q i : Nat) (ns : List Nod) (cl : Nat → Bool) (ps : List Int) (x : Int) (m : List Nod), T.drop i = closes q ++ r → catS ns ps = some (x, m) → m.length + q < 1000 →
    ∃ cl' ns' ps' y m', Steps T ⟨.L, i, ns, g, cl, ps, lvls q⟩ ⟨.L, i + 2 * q, ns', g, cl', ps', []⟩ ∧ catS ns' ps' = some (y, m') ∧ m'.length = m.length + q
  | 0, i, ns, cl, ps, x, m, _, hc, _ => ⟨cl, ns, ps, x, m, .refl _, hc, rfl⟩
  | q + 1, i, ns, cl, ps, x, m, hd, hc, hl => by
    have hd' : T.drop i = 92 :: 41 :: (closes q ++ r) := hd
    have hn := drop_next hd'
    have ht := close_tail hr q
    have h1 : step T ⟨.L, i, ns, g, cl, ps, lvls (q + 1)⟩ = _ := step_close (lv := lvls q) (p := []) (q := q + 1) (g := g) (cl := cl) (by rw [hd']; rfl) hc (by omega)
    have e1 : bg [42] (T.drop (i + 2)) = false := by rw [hn]; exact bg_one (a := []) ht (by decide)
    have e2 : bg [92, 123] (T.drop (i + 2)) = false := by rw [hn]; exact bg_ivl (a := []) ht
    have h2 := step_off (ns := m ++ [groupN ((q + 1 : Nat) : Int) x]) (g := g) (cl := setQ cl (q + 1)) (ps := []) (lv := lvls q) (x := (m.length : Int)) e1 e2
    obtain ⟨cl', ns', ps', y, m', f1, f2, f3⟩ := close_steps hr (g := g) q (i + 2) (m ++ [groupN ((q + 1 : Nat) : Int) x]) (setQ cl (q + 1)) [(m.length : Int)] (m.length : Int) (m ++ [groupN ((q + 1 : Nat) : Int) x]) hn rfl (by simp; omega)
    refine ⟨cl', ns', ps', y, m', .head h1 (.head h2 ?_), f2, by rw [f3]; simp; omega⟩
    rw [show i + 2 * (q + 1) = i + 2 + 2 * q by omega]
    exact f1
/-- What a text without groups comes to within k groups. -/
theorem groups_reach {t : List UInt8} {ns : List Nod} (he : Ends t cf0 (.fin ns 0)) (hl : t.length ≤ 60) {k : Nat} (hk : k ≤ 9) {r : List UInt8} (hr : TailOK r) :
    ∃ cl' ns' ps' y m', Steps (opens k ++ (t ++ (closes k ++ r))) cf0 ⟨.L, t.length + 4 * k, ns', k, cl', ps', []⟩ ∧ catS ns' ps' = some (y, m') ∧ m'.length = ns.length + k ∧ ns.length ≤ 130 := by
  obtain ⟨c2, hst, hf, _⟩ := he
  obtain ⟨f1, f2, f3, f4, x, f5⟩ := step_fin hf
  have h0 := open_steps k hk (t ++ (closes k ++ r)) k (Nat.le_refl _)
  obtain ⟨c2', s1, s2, s3⟩ := sim_steps (s := closes k ++ r) (close_tail hr k) (k := k) (L := lvls k) hst f4 ⟨.B, 2 * k, [], k, fun _ => false, [], lvls k⟩
    ⟨rfl, by simp [cf0], rfl, rfl, rfl, rfl, rfl, rfl, fun _ => rfl, by simp [cf0], by simp [cf0, cntH]⟩ (by simp [cf0])
  obtain ⟨ct, i, ns0, g0, cl, ps, lv⟩ := c2
  obtain ⟨ct', i', ns1, g1, cl1, ps1, lv1⟩ := c2'
  obtain ⟨a1, a2, a3, a4, a5, a6, a7, a8, a9, b1, b2⟩ := s2
  simp only at f1 f2 f3 f4 f5 a1 a2 a3 a4 a5 a6 a7 a8 a9 b1 b2 s3
  subst f1 a1 a5 a6 a8
  have hit : i = t.length := by omega
  subst a2
  rw [hit] at s1 b1 b2
  simp only [cntH] at b2
  obtain ⟨m', e1, e2, e3⟩ := catS_same a3 f5
  have hd : (opens g1 ++ (t ++ (closes g1 ++ r))).drop (t.length + 2 * g1) = closes g1 ++ r := by rw [drop_opens, List.drop_left]
  obtain ⟨cl', ns', ps', y, m2, q1, q2, q3⟩ := close_steps (T := opens g1 ++ (t ++ (closes g1 ++ r))) hr (g := g1) g1 _ ns1 cl1 ps1 x m' hd e1 (by omega)
  refine ⟨cl', ns', ps', y, m2, (h0.trans s1).trans ?_, q2, by omega, by omega⟩
  rw [show t.length + 4 * g1 = t.length + 2 * g1 + 2 * g1 by omega]
  exact q1
def wrapT (k : Nat) (t : List UInt8) : List UInt8 := opens k ++ (t ++ closes k)
theorem wrap_len (k : Nat) (t : List UInt8) : (wrapT k t).length = t.length + 4 * k := by
  unfold wrapT; rw [List.length_append, List.length_append, opens_len, closes_len]; omega
theorem groups_fin {t : List UInt8} {ns : List Nod} (he : Ends t cf0 (.fin ns 0)) (hl : t.length ≤ 60) {k : Nat} (hk : k ≤ 9) : ∃ m : List Nod, m.length = ns.length + k ∧ Ends (wrapT k t) cf0 (.fin m k) := by
  obtain ⟨cl', ns', ps', y, m, h1, h2, h3, _⟩ := groups_reach he hl hk (r := []) (.inl rfl)
  rw [List.append_nil] at h1
  refine ⟨m, h3, h1.ends (.fin ?_)⟩
  show stepL (wrapT k t) ⟨.L, t.length + 4 * k, ns', k, cl', ps', []⟩ = _
  simp only [stepL]
  rw [if_pos (by rw [wrap_len]; exact Nat.le_refl _), h2]
theorem over_steps {T : List UInt8} {i : Nat} {r : List UInt8} {ns : List Nod} {cl : Nat → Bool} : ∀ (m g : Nat) (i : Nat) (ps : List Int) (lv : List (Nat × List Int)), g + m = 9 → T.drop i = opens (m + 1) ++ r → Ends T ⟨.L, i, ns, g, cl, ps, lv⟩ (.bad (i + 2 * m) 17)
  | 0, g, i, ps, lv, hg, hd => by
    have hd' : T.drop i = 92 :: 40 :: r := hd
    exact .bad (step_opn_full hd' (by omega))
  | m + 1, g, i, ps, lv, hg, hd => by
    have hd' : T.drop i = 92 :: 40 :: (opens (m + 1) ++ r) := hd
    have hn := drop_next hd'
    have h1 := step_opn (ns := ns) (g := g) (cl := cl) (ps := ps) (lv := lv) hd' (by omega)
    have h2 := step_plain (t := T) (i := i + 2) (ns := ns) (g := g + 1) (cl := cl) (ps := []) (lv := (g + 1, ps) :: lv) (by rw [hn]; rfl)
    have := over_steps (T := T) (i := i) (r := r) (ns := ns) (cl := cl) m (g + 1) (i + 2) [] ((g + 1, ps) :: lv) (by omega) hn
    rw [show i + 2 * (m + 1) = i + 2 + 2 * m by omega]
    exact (Steps.head h1 (.one h2)).ends this
theorem groups_over {t : List UInt8} {ns : List Nod} (he : Ends t cf0 (.fin ns 0)) (hl : t.length ≤ 60) {k : Nat} (hk : k ≤ 9) : Ends (wrapT k t ++ (opens 10 ++ [97])) cf0 (.bad (t.length + 4 * k + 2 * (9 - k)) 17) := by
  obtain ⟨cl', ns', ps', y, m, h1, h2, h3, _⟩ := groups_reach he hl hk (r := opens 10 ++ [97]) (.inr ⟨40, opens 9 ++ [97], rfl, .inl rfl⟩)
  have e : opens k ++ (t ++ (closes k ++ (opens 10 ++ [97]))) = wrapT k t ++ (opens 10 ++ [97]) := by unfold wrapT; simp only [List.append_assoc]
  rw [e] at h1
  have hd : (wrapT k t ++ (opens 10 ++ [97])).drop (t.length + 4 * k) = opens ((9 - k) + 1) ++ (opens k ++ [97]) := by
    rw [← wrap_len k t, List.drop_left, ← List.append_assoc, ← opens_add, show 9 - k + 1 + k = 10 by omega]
  exact h1.ends (over_steps (i := 0) (9 - k) k _ ps' [] (by omega) hd)
end Go.Proofs.Ytnfbgpjadnlgbaa

namespace Go.Proofs.Ytnfbgpjadnlgbaa
open Go.RowKit

theorem opens_in (k : Nat) : opens (k + 1) = 92 :: 40 :: opens k := rfl
theorem closes_add (a b : Nat) : closes (a + b) = closes a ++ closes b := by
  induction a with
  | zero => rw [Nat.zero_add]; rfl
  | succ a ih => rw [show a + 1 + b = (a + b) + 1 by omega]; simp only [closes, List.cons_append]; rw [ih]
theorem wrap_zero (t : List UInt8) : wrapT 0 t = t := by simp [wrapT, opens, closes]
theorem wrap_succ (k : Nat) (t : List UInt8) : wrapT (k + 1) t = [92, 40] ++ wrapT k t ++ [92, 41] := by
  unfold wrapT
  rw [closes_add k 1, opens_in]
  simp [closes]

/-- A row that is the call's own, or one that is full (and may be marked): what is held is known. -/
def LitOwn (w : World) (base : Nat) (e : TypeId) (v : Value) (n : Nat) (xs : List Value) : Prop :=
  w.ownsRow base e 1 v n xs ∨ ∃ g, v = .slice (some ⟨g, 0, none⟩) n n ∧ base ≤ g ∧ g < w.heap.size ∧ xs.length = n ∧ n ≤ maxLen ∧ ∀ j u, xs[j]? = some u → w.cell? ((⟨g, 0, none⟩ : Addr).add j) = some u
theorem LitOwn.lt {w : World} {base : Nat} {e : TypeId} {v : Value} {n : Nat} {xs : List Value} (h : LitOwn w base e v n xs) : ∀ k, v.ownBlock = some k → base ≤ k := by
  intro k hk
  rcases h with h | ⟨g, rfl, hb, _⟩
  · exact (h.lt k hk).1
  · simp [Value.ownBlock] at hk
    subst hk
    exact hb
theorem litOwn_new (w : World) (xs : List Value) (t : TypeId) (fr : Nat × Nat) (n : Nat) (hn : xs.length = n) (hm : n ≤ maxLen) : LitOwn (w.alloc (.cells xs.toArray t fr)) w.heap.size t (.slice (some ⟨w.heap.size, 0, none⟩) n n) n xs :=
  .inr ⟨w.heap.size, rfl, Nat.le_refl _, by simp, hn, hm, fun j u hj => by
    rw [show ((⟨w.heap.size, 0, none⟩ : Addr).add j) = ⟨w.heap.size, j, none⟩ from by unfold Addr.add; split <;> simp_all]
    rw [cell_of_row _ w.heap.size j xs.toArray t fr (heap_alloc_new w _)]
    simpa using hj⟩
section
variable {P : Program} {w : World}
theorem grown_own (base : Nat) (e : TypeId) (z : Value) (hzs : z.cells.size = 1) (n m old : Nat) (xs news : List Value) (hx : xs.length = n) (hl : news.length = m) (h63 : n + m ≤ maxLen) (hbase : base ≤ w.heap.size) (row : Option Nat) :
    (w.drew.alloc (.cells (xs.toArray ++ news.toArray ++ Builtin.zeroCells z.cells (grownCap w (n + m) old e - (n + m))) e)).ownsRow base e 1
      (.slice (some ⟨w.heap.size, 0, none⟩) (n + m) (grownCap w (n + m) old e)) (n + m) (xs ++ news) ∧
    w.grownBy (w.drew.alloc (.cells (xs.toArray ++ news.toArray ++ Builtin.zeroCells z.cells (grownCap w (n + m) old e - (n + m))) e)) row := by
  have hge := grownCap_ge w (n + m) old e
  have hcm : grownCap w (n + m) old e ≤ maxLen := grownCap_le_maxLen w (n + m) old e h63
  have hlen : (xs ++ news).length = (n + m) * 1 := by rw [List.length_append, hx, hl, Nat.mul_one]
  refine ⟨⟨hlen, .inr ⟨w.heap.size, _, _, rfl, hbase, heap_alloc_new w.drew _, hge, hcm, ?_, ?_⟩⟩, ⟨rfl, rfl, rfl, by simp, fun k hk _ => heap_alloc_old w.drew _ hk⟩⟩
  · simp only [Array.size_append, List.size_toArray, size_zeroCells, hzs, hx, hl]
    omega
  · simp only [Array.toList_append, List.append_assoc]
    rw [← List.append_assoc, ← hlen]
    exact List.take_left
theorem run_append_no (t ty e : TypeId) (i : TypeInfo) (ht : P.underlying t = some (.slice e)) (hi : P.info? e = some i) (g n c : Nat) (A : Option Addr) :
    (Builtin.append_ #[t, t] ty #[.slice (some ⟨g, 0, none⟩) n n, .slice A 0 c]).run P w = .ok (.slice (some ⟨g, 0, none⟩) n n) w := by
  cases A <;> simp [Builtin.append_, run_underlying ht, sizeOf, typeInfo, hi, Builtin.lenOf, Builtin.firstCells, storeCells, loadCells, loadCellsFrom]
theorem run_append_lit (base : Nat) (t ty e : TypeId) (i : TypeInfo) (z : Value) (ht : P.underlying t = some (.slice e)) (hi : P.info? e = some i) (hz : i.zero = some z)
    (hi1 : i.size = 1) (hib : i.bytes = 1) (hz1 : z.cells.size = 1) (v : Value) (n : Nat) (xs : List Value) (hown : LitOwn w base e v n xs)
    (A : Option Addr) (m c : Nat) (news : List Value) (hl : news.length = m) (hv : Src w A news) (h1 : ∀ u ∈ news, u.oneCell' = true)
    (hlen : n + m ≤ maxLen) (hbytes : n + m ≤ 140737488355328) (hbase : base ≤ w.heap.size) :
    ∃ v' w', (Builtin.append_ #[t, t] ty #[v, .slice A m c]).run P w = .ok v' w' ∧ LitOwn w' base e v' (n + m) (xs ++ news) ∧ w.grownBy w' v.ownBlock := by
  rcases hown with hown | ⟨g, rfl, hb, hg, hx, hn, hc⟩
  · obtain ⟨v', w', h2, h3, h4, -⟩ := run_append_at (P := P) base t ty e i z 1 1 ht hi hz hi1 hib hz1 (by decide) v n xs hown A m c news (by rw [Nat.mul_one]; exact hl) hv h1 hlen (by omega) hbase
    exact ⟨v', w', h2, .inl h3, h4⟩
  · by_cases hm : m = 0
    · subst hm
      obtain rfl : news = [] := List.eq_nil_of_length_eq_zero hl
      refine ⟨_, w, run_append_no t ty e i ht hi g n c A, .inr ⟨g, rfl, hb, hg, by rw [List.append_nil]; exact hx, hn, by rw [List.append_nil]; exact hc⟩, World.grownBy.refl w _⟩
    · cases A with
      | none => have := hv.nil; subst this; exact absurd hl.symm hm
      | some a =>
        have hnews : ∀ j u, news[j]? = some u → w.cell? (a.add j) = some u := fun j u hj => by
          obtain ⟨ad, h, hc⟩ := hv j u hj
          injection h with h
          subst h
          exact hc
        have hr := run_append_grow (P := P) w t ty e i z ht hi hz ⟨g, 0, none⟩ n n xs (by rw [hi1, Nat.mul_one]; exact hx) hc a m c news (by rw [hi1, Nat.mul_one]; exact hl) hnews (by omega) (by unfold maxLen at hlen; omega) (growslice_fits (by omega) (by rw [hib, Nat.mul_one]; exact hbytes))
        obtain ⟨h2, h3⟩ := grown_own (w := w) base e z hz1 n m n xs news hx hl hlen hbase (some g)
        exact ⟨_, _, hr, .inl h2, h3⟩
theorem run_append_lit_string (base : Nat) (t u ty e : TypeId) (i : TypeInfo) (ht : P.underlying t = some (.slice e)) (hu : P.underlying u = some .string) (hi : P.info? e = some i) (hz : i.zero = some (.int .u8 0))
    (hi1 : i.size = 1) (hib : i.bytes = 1) (v : Value) (n : Nat) (xs : List Value) (hown : LitOwn w base e v n xs) (s : ByteArray) (hs : 0 < s.size)
    (hlen : n + s.size ≤ maxLen) (hbytes : n + s.size ≤ 140737488355328) (hbase : base ≤ w.heap.size) :
    ∃ v' w', (Builtin.append_ #[t, u] ty #[v, .string s]).run P w = .ok v' w' ∧ w'.ownsRow base e 1 v' (n + s.size) (xs ++ Lib.strCells s) ∧ w.grownBy w' v.ownBlock := by
  rcases hown with hown | ⟨g, rfl, hb, hg, hx, hn, hc⟩
  · obtain ⟨v', w', h2, h3, h4, -⟩ := Lib.run_append_own_string (P := P) w base t u ty e i ht hu hi hz hi1 hib v n xs hown s hlen hbytes hbase
    exact ⟨v', w', h2, h3, h4⟩
  · have hr := Lib.run_append_grow_string (P := P) w t u ty e i (.int .u8 0) ht hu hi hz ⟨g, 0, none⟩ n n xs (by rw [hi1, Nat.mul_one]; exact hx) hc s (by omega) (by unfold maxLen at hlen; omega) (growslice_fits (by omega) (by rw [hib, Nat.mul_one]; exact hbytes))
    obtain ⟨h2, h3⟩ := grown_own (w := w) base e (.int .u8 0) rfl n s.size n xs (Lib.strCells s) hx (Lib.strCells_length s) hlen hbase (some g)
    exact ⟨_, _, hr, h2, h3⟩
theorem wpList_append_lit {ops : Array Oper} {rest : List Oper} {o : Oper} {a : Act} {Q : Exit → Act → World → Prop} (hg : o.guard = none) (s x : Operand) (t : TypeId)
    (ho : o.op = .call { callee := .builtin .append, args := #[s, x], argTypes := #[t, t] })
    (base : Nat) (e : TypeId) (i : TypeInfo) (z : Value) (ht : P.underlying t = some (.slice e)) (hi : P.info? e = some i) (hz : i.zero = some z)
    (hi1 : i.size = 1) (hib : i.bytes = 1) (hz1 : z.cells.size = 1) (v : Value) (n : Nat) (xs : List Value) (hs : a.eval s = v) (hown : LitOwn w base e v n xs)
    (A : Option Addr) (m c : Nat) (news : List Value) (hx : a.eval x = .slice A m c) (hl : news.length = m) (hv : Src w A news) (h1 : ∀ u ∈ news, u.oneCell' = true)
    (hlen : n + m ≤ maxLen) (hbytes : n + m ≤ 140737488355328) (hbase : base ≤ w.heap.size)
    (h : ∀ v' w', LitOwn w' base e v' (n + m) (xs ++ news) → w.grownBy w' v.ownBlock → wpList P ops Q rest (a.put o.dst v') w') : wpList P ops Q (o :: rest) a w := by
  refine wpList_plain hg fun K hK => ?_
  obtain ⟨v', w', hrun, h2, h3⟩ := run_append_lit (P := P) (w := w) base t o.type e i z ht hi hz hi1 hib hz1 v n xs hown A m c news hl hv h1 hlen hbytes hbase
  unfold Oper.wp execOp
  simp only [ho, resolve, invoke, builtin, Sem.run_bind, Sem.run_pure, Result.andThen_ok, List.map_toArray, List.map_cons, List.map_nil, hs, hx, hrun]
  exact hK _ _ (h v' w' h2 h3)
theorem wpList_append_lit_string {ops : Array Oper} {rest : List Oper} {o : Oper} {a : Act} {Q : Exit → Act → World → Prop} (hg : o.guard = none) (sl x : Operand) (t u : TypeId)
    (ho : o.op = .call { callee := .builtin .append, args := #[sl, x], argTypes := #[t, u] })
    (base : Nat) (e : TypeId) (i : TypeInfo) (ht : P.underlying t = some (.slice e)) (hu : P.underlying u = some .string) (hi : P.info? e = some i) (hz : i.zero = some (.int .u8 0))
    (hi1 : i.size = 1) (hib : i.bytes = 1) (v : Value) (n : Nat) (xs : List Value) (hs : a.eval sl = v) (hown : LitOwn w base e v n xs) (s : ByteArray) (hx : a.eval x = .string s) (m : Nat) (ys : List UInt8) (hm : s.size = m) (hy : s.data.toList = ys) (h0 : 0 < m)
    (hlen : n + m ≤ maxLen) (hbytes : n + m ≤ 140737488355328) (hbase : base ≤ w.heap.size)
    (h : ∀ v' w', w'.ownsRow base e 1 v' (n + m) (xs ++ bv ys) → w.grownBy w' v.ownBlock → wpList P ops Q rest (a.put o.dst v') w') : wpList P ops Q (o :: rest) a w := by
  subst hm
  subst hy
  refine wpList_plain hg fun K hK => ?_
  obtain ⟨v', w', hrun, h2, h3⟩ := run_append_lit_string (P := P) (w := w) base t u o.type e i ht hu hi hz hi1 hib v n xs hown s h0 hlen hbytes hbase
  unfold Oper.wp execOp
  simp only [ho, resolve, invoke, builtin, Sem.run_bind, Sem.run_pure, Result.andThen_ok, List.map_toArray, List.map_cons, List.map_nil, hs, hx, hrun]
  exact hK _ _ (h v' w' h2 h3)
end
end Go.Proofs.Ytnfbgpjadnlgbaa
