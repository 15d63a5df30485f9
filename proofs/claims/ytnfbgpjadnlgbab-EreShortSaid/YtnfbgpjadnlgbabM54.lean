/- Two extended texts that are alike up to a place: they are read alike up to it; a repetition written in two ways. -/
import Derived.Test.YtnfbgpjadnlgbabM53
set_option linter.unusedVariables false
set_option maxRecDepth 100000
namespace Go.Proofs.Ytnfbgpjadnlgbab
open Go.RowKit

/-- A byte of which what it means is told by itself. -/
def okB (c : UInt8) : Prop := c ≠ 92 ∧ c ≠ 91 ∧ c ≠ 123
theorem pie_pre {t1 t2 : List UInt8} {i : Nat} {x : UInt8} {r1 r2 : List UInt8} (h1 : t1.drop i = x :: r1) (h2 : t2.drop i = x :: r2) (hx : okB x) : pieE t1 i = pieE t2 i ∧ ∀ j nd, pieE t1 i = .nod j nd → j = i + 1 := by
  rw [pie_at h1, pie_at h2]
  simp only [pieR]
  rw [if_neg hx.1, if_neg hx.2.1, if_neg hx.1, if_neg hx.2.1]
  refine ⟨rfl, fun j nd h => ?_⟩
  repeat' split at h
  all_goals first
    | cases h; done
    | (injection h with h _; exact h.symm)
theorem pie_no_bak {t : List UInt8} {i : Nat} {x : UInt8} {r : List UInt8} (h1 : t.drop i = x :: r) (hx : okB x) (q : Nat) : pieE t i ≠ .bak q := by
  rw [pie_at h1]
  simp only [pieR]
  rw [if_neg hx.1, if_neg hx.2.1]
  repeat' split
  all_goals (intro h; cases h)
theorem stepE_pre {t1 t2 : List UInt8} {m : Nat} (hm1 : m ≤ t1.length) (hm2 : m ≤ t2.length) (ht : t1.take m = t2.take m) (hp : ∀ c ∈ t1.take m, okB c) {c : Ce} (hi : c.i < m) :
    stepE t1 c = stepE t2 c ∧ (∀ c', stepE t1 c = .go c' → c'.i ≤ m) ∧ ∀ ns g, stepE t1 c ≠ .fin ns g := by
  obtain ⟨ct, i, ns, g, cl, ps, bs, lv⟩ := c
  simp only at hi
  have e1 := List.drop_eq_getElem_cons (show i < t1.length by omega)
  have e2 := List.drop_eq_getElem_cons (show i < t2.length by omega)
  have hx : t1[i]'(by omega) = t2[i]'(by omega) := by
    have h1 : (t1.take m)[i]'(by rw [List.length_take]; omega) = t1[i]'(by omega) := List.getElem_take
    have h2 : (t2.take m)[i]'(by rw [List.length_take]; omega) = t2[i]'(by omega) := List.getElem_take
    rw [← h1, ← h2]
    simp only [ht]
  have hok : okB (t1[i]'(by omega)) := hp _ (by
    have h1 : (t1.take m)[i]'(by rw [List.length_take]; omega) = t1[i]'(by omega) := List.getElem_take
    rw [← h1]; exact List.getElem_mem _)
  rw [← hx] at e2
  generalize t1[i]'(by omega) = x at *
  obtain ⟨hpe, hj⟩ := pie_pre e1 e2 hok
  have hb := pie_no_bak e1 hok
  have hn1 : nx t1 i = (x.toNat : Int) := nx_at e1
  have hn2 : nx t2 i = (x.toNat : Int) := nx_at e2
  have hl1 : ¬ t1.length ≤ i := by omega
  have hl2 : ¬ t2.length ≤ i := by omega
  have h123 : (x.toNat : Int) ≠ 123 := fun e => hok.2.2 (UInt8.toNat_inj.1 (by show x.toNat = 123; omega))
  have hpm : ∀ ct : Ct, (∀ c', stepPm ⟨ct, i, ns, g, cl, ps, bs, lv⟩ (pieE t1 i) = .go c' → c'.i ≤ m) ∧ ∀ ns' g', stepPm ⟨ct, i, ns, g, cl, ps, bs, lv⟩ (pieE t1 i) ≠ .fin ns' g' := fun ct => by
    cases ha : pieE t1 i with
    | bad e => exact ⟨fun c' h => (by cases h), fun ns' g' h => (by cases h)⟩
    | opn =>
      simp only [stepPm]
      refine ⟨fun c' h => ?_, fun ns' g' h => ?_⟩
      · split at h
        · injection h with h; subst h; simp only; omega
        · cases h
      · split at h <;> cases h
    | bak q => exact absurd ha (hb q)
    | nod j nd =>
      obtain rfl := hj j nd ha
      exact ⟨fun c' h => (by injection h with h; subst h; simp only; omega), fun ns' g' h => (by cases h)⟩
    | anc nd => exact ⟨fun c' h => (by injection h with h; subst h; simp only; omega), fun ns' g' h => (by cases h)⟩
  cases ct with
  | B =>
    show stepEB t1 _ = stepEB t2 _ ∧ (∀ c', stepEB t1 _ = .go c' → _) ∧ ∀ ns' g', stepEB t1 _ ≠ _
    simp only [stepEB, hn1, hn2, hl1, hl2, ← hpe, false_or]
    refine ⟨by first | trivial | rfl, fun c' h => ?_, fun ns' g' h => ?_⟩
    · split at h
      · cases h
      · exact (hpm _).1 _ h
    · split at h
      · cases h
      · exact (hpm _).2 _ _ h
  | P z =>
    show stepEP t1 _ z = stepEP t2 _ z ∧ (∀ c', stepEP t1 _ z = .go c' → _) ∧ ∀ ns' g', stepEP t1 _ z ≠ _
    simp only [stepEP, hn1, hn2, if_neg h123]
    refine ⟨by first | trivial | rfl, fun c' h => ?_, fun ns' g' h => ?_⟩
    · repeat' split at h
      all_goals (injection h with h; subst h; simp only; omega)
    · repeat' split at h
      all_goals cases h
  | L =>
    show stepEL t1 _ = stepEL t2 _ ∧ (∀ c', stepEL t1 _ = .go c' → _) ∧ ∀ ns' g', stepEL t1 _ ≠ _
    simp only [stepEL, hn1, hn2, if_neg hl1, if_neg hl2, ← hpe]
    refine ⟨by first | trivial | rfl, fun c' h => ?_, fun ns' g' h => ?_⟩
    · split at h
      · injection h with h; subst h; simp only; omega
      · cases lv with
        | nil => exact (hpm _).1 _ h
        | cons a lv =>
          obtain ⟨q, p, b⟩ := a
          simp only at h
          split at h
          · injection h with h; subst h; simp only; omega
          · exact (hpm _).1 _ h
    · split at h
      · cases h
      · cases lv with
        | nil => exact (hpm _).2 _ _ h
        | cons a lv =>
          obtain ⟨q, p, b⟩ := a
          simp only at h
          split at h
          · cases h
          · exact (hpm _).2 _ _ h
/-- They end alike, or come to the place alike. -/
theorem pre_ends {t1 t2 : List UInt8} {m : Nat} (hm1 : m ≤ t1.length) (hm2 : m ≤ t2.length) (ht : t1.take m = t2.take m) (hp : ∀ c ∈ t1.take m, okB c) {c c' : Ce} {r : Rx} (hs : StepsE t1 c c') (hr : stepE t1 c' = r) (hg : ∀ c2, r ≠ .go c2) (hi : c.i ≤ m) :
    (∃ p q, r = .bad p q ∧ EndsE t2 c r) ∨ ∃ d, d.i = m ∧ StepsE t1 c d ∧ StepsE t2 c d := by
  induction hs with
  | refl c =>
    by_cases him : c.i = m
    · exact .inr ⟨c, him, .refl c, .refl c⟩
    · obtain ⟨h1, h2, h3⟩ := stepE_pre hm1 hm2 ht hp (c := c) (by omega)
      rw [hr] at h1
      cases r with
      | go c2 => exact absurd rfl (hg c2)
      | bad p q => exact .inl ⟨p, q, rfl, .bad h1.symm⟩
      | fin ns g => exact absurd hr (h3 ns g)
  | head hst hk ih =>
    rename_i ca cb cc
    by_cases him : ca.i = m
    · exact .inr ⟨ca, him, .refl ca, .refl ca⟩
    · obtain ⟨h1, h2, h3⟩ := stepE_pre hm1 hm2 ht hp (c := ca) (by omega)
      rw [hst] at h1
      rcases ih hr (h2 _ hst) with ⟨p, q, e, he⟩ | ⟨d, hd, k1, k2⟩
      · exact .inl ⟨p, q, e, (StepsE.one h1.symm).ends he⟩
      · exact .inr ⟨d, hd, .head hst k1, .head h1.symm k2⟩
/-- Where a text ends behind an atom, and all that was there is alike. -/
theorem end_P {t : List UInt8} {i : Nat} (hi : i = t.length) {ns : List Nod} {g : Nat} {cl : Nat → Bool} {ps bs : List Int} {lv : List (Nat × List Int × List Int)} {x : Int} :
    EndsE t ⟨.P x, i, ns, g, cl, ps, bs, lv⟩ (match lv with | [] => .fin (altsE ⟨.L, 0, ns, g, cl, ps ++ [x], bs, []⟩).2 g | _ :: _ => .bad i 14) := by
  subst hi
  have hn : nx t t.length = -1 := nx_none (Nat.le_refl _)
  have h1 : stepE t ⟨.P x, t.length, ns, g, cl, ps, bs, lv⟩ = .go ⟨.L, t.length, ns, g, cl, ps ++ [x], bs, lv⟩ := stepE_off (by omega) (by omega) (by omega) (by omega)
  refine (StepsE.one h1).ends ?_
  cases lv with
  | nil =>
    refine .fin ?_
    show stepEL t _ = _
    simp only [stepEL]
    rw [if_pos (Nat.le_refl _)]
    rfl
  | cons a lv =>
    refine .bad ?_
    show stepEL t _ = _
    simp only [stepEL]
    rw [if_pos (Nat.le_refl _)]
/-- A repetition is written in two ways. -/
structure TwoWays (k : UInt8) (s : List UInt8) (lo hi : Int) : Prop where
  rep : k = 42 ∨ k = 43 ∨ k = 63
  one : ∀ (t : List UInt8) (i : Nat) (x : Int) (ns : List Nod) (g : Nat) (cl : Nat → Bool) (ps bs : List Int) (lv : List (Nat × List Int × List Int)), nx t i = (k.toNat : Int) → stepE t ⟨.P x, i, ns, g, cl, ps, bs, lv⟩ = .go ⟨.P (ns.length : Int), i + 1, ns ++ [repN x lo hi], g, cl, ps, bs, lv⟩
  hd : ∃ r, s = 123 :: r
  iv : ivG 1 [125] s = some (lo, hi, s.length)
theorem two_star : TwoWays 42 [123, 48, 44, 125] 0 (-1) := ⟨.inl rfl, fun t i x ns g cl ps bs lv h => stepE_star h, ⟨_, rfl⟩, by rfl⟩
theorem two_plus : TwoWays 43 [123, 49, 44, 125] 1 (-1) := ⟨.inr (.inl rfl), fun t i x ns g cl ps bs lv h => stepE_plus h, ⟨_, rfl⟩, by rfl⟩
theorem two_qm : TwoWays 63 [123, 48, 44, 49, 125] 0 1 := ⟨.inr (.inr rfl), fun t i x ns g cl ps bs lv h => stepE_qm h, ⟨_, rfl⟩, by rfl⟩
theorem nx_app (b : List UInt8) (k : UInt8) (r : List UInt8) : nx (b ++ k :: r) b.length = (k.toNat : Int) := nx_at (r := r) (by rw [List.drop_left])
/-- Both texts end alike, but for where they lack an end of a group. -/
theorem two_ends {b : List UInt8} (hb : ∀ c ∈ b, okB c) {k : UInt8} {s : List UInt8} {lo hi : Int} (h2 : TwoWays k s lo hi) {r : Rx} (hr : EndsE (b ++ [k]) ce0 r) :
    EndsE (b ++ s) ce0 r ∨ ∃ p1 p2, r = .bad p1 14 ∧ EndsE (b ++ s) ce0 (.bad p2 14) := by
  obtain ⟨c', hs, hst, hg⟩ := hr
  obtain ⟨r2, rfl⟩ := h2.hd
  have ht : (b ++ [k]).take b.length = (b ++ 123 :: r2).take b.length := by rw [List.take_left, List.take_left]
  rcases pre_ends (m := b.length) (by simp) (by simp) ht (by rw [List.take_left]; exact hb) hs hst hg (by simp [ce0]) with ⟨p, q, e, he⟩ | ⟨d, hd, k1, k2⟩
  · exact .inl he
  · have hr1 : EndsE (b ++ [k]) ce0 r := ⟨c', hs, hst, hg⟩
    have hn1 : nx (b ++ [k]) b.length = (k.toNat : Int) := nx_app b k []
    have hn2 : nx (b ++ 123 :: r2) b.length = 123 := nx_app b 123 r2
    have hk : (k.toNat : Int) = 42 ∨ (k.toNat : Int) = 43 ∨ (k.toNat : Int) = 63 := by
      rcases h2.rep with rfl | rfl | rfl
      · exact .inl rfl
      · exact .inr (.inl rfl)
      · exact .inr (.inr rfl)
    obtain ⟨ct, i, ns, g, cl, ps, bs, lv⟩ := d
    simp only at hd
    subst hd
    have hwrong : ∀ (t : List UInt8) (z : Int), nx t b.length = z → (z = 42 ∨ z = 43 ∨ z = 63 ∨ z = 123) → ∀ ct, (ct = .B ∨ ct = .L) → EndsE t ⟨ct, b.length, ns, g, cl, ps, bs, lv⟩ (.bad b.length 13) := fun t z hz hz2 ct hct => by
      have hlt := nx_lt (l := t) (i := b.length) (by omega)
      refine .bad ?_
      rw [stepE_pie (inG := !lv.isEmpty) ⟨hlt, by omega, fun _ => by omega⟩ hct (by simp), pie_rep_of (by omega)]
      rfl
    cases ct with
    | B =>
      have h3 := k1.ends (hwrong _ _ hn1 (by omega) .B (.inl rfl))
      obtain rfl := hr1.det h3
      exact .inl (k2.ends (hwrong _ _ hn2 (by omega) .B (.inl rfl)))
    | L =>
      have h3 := k1.ends (hwrong _ _ hn1 (by omega) .L (.inr rfl))
      obtain rfl := hr1.det h3
      exact .inl (k2.ends (hwrong _ _ hn2 (by omega) .L (.inr rfl)))
    | P x =>
      have e1 := h2.one (b ++ [k]) b.length x ns g cl ps bs lv hn1
      have hiv : ivE (b ++ 123 :: r2) b.length = some (lo, hi, (b ++ 123 :: r2).length) := by
        rw [← ivE_ivl (by simp)]
        unfold ivlG
        rw [List.drop_left, h2.iv]
        simp
      have e2 := stepE_ivl (ns := ns) (g := g) (cl := cl) (ps := ps) (bs := bs) (lv := lv) (x := x) hn2 hiv
      have f1 := end_P (t := b ++ [k]) (i := b.length + 1) (by simp) (ns := ns ++ [repN x lo hi]) (g := g) (cl := cl) (ps := ps) (bs := bs) (lv := lv) (x := (ns.length : Int))
      have f2 := end_P (t := b ++ 123 :: r2) (i := (b ++ 123 :: r2).length) rfl (ns := ns ++ [repN x lo hi]) (g := g) (cl := cl) (ps := ps) (bs := bs) (lv := lv) (x := (ns.length : Int))
      have g1 := k1.ends ((StepsE.one e1).ends f1)
      have g2 := k2.ends ((StepsE.one e2).ends f2)
      obtain rfl := hr1.det g1
      cases lv with
      | nil => exact .inl g2
      | cons a lv => exact .inr ⟨_, _, rfl, g2⟩
end Go.Proofs.Ytnfbgpjadnlgbab
