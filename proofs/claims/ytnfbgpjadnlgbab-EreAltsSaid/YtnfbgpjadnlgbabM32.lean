/- Plain facts of the machine of extended texts. -/
import Derived.Test.YtnfbgpjadnlgbabM23
import Derived.Test.YtnfbgpjadnlgbabM31
import Derived.Test.YtnfbgpjadnlgbabM13
set_option linter.unusedVariables false
set_option maxRecDepth 100000
namespace Go.Proofs.Ytnfbgpjadnlgbab
open Go.RowKit

/-- Where a piece may begin. -/
structure PieAt (l : List UInt8) (i : Nat) (inG : Bool) : Prop where
  lt : i < l.length
  bar : nx l i ≠ 124
  par : inG = true → nx l i ≠ 41
theorem stepE_pie {l : List UInt8} {i : Nat} {inG : Bool} (h : PieAt l i inG) {ct : Ct} {ns : List Nod} {g : Nat} {cl : Nat → Bool} {ps bs : List Int} {lv : List (Nat × List Int × List Int)} (hct : ct = .B ∨ ct = .L) (hlv : lv.isEmpty = !inG) :
    stepE l ⟨ct, i, ns, g, cl, ps, bs, lv⟩ = stepPm ⟨ct, i, ns, g, cl, ps, bs, lv⟩ (pieE l i) := by
  have hi : ¬ l.length ≤ i := by have := h.lt; omega
  have hp : lv ≠ [] → nx l i ≠ 41 := fun hne => h.par (by cases lv with | nil => exact absurd rfl hne | cons a b => cases inG with | true => rfl | false => cases hlv)
  rcases hct with rfl | rfl
  · show stepEB l _ = _
    simp only [stepEB]
    rw [if_neg (fun h1 => h1.elim hi (fun h1 => h1.elim h.bar (fun h1 => hp h1.1 h1.2)))]
  · show stepEL l _ = _
    simp only [stepEL]
    rw [if_neg hi, if_neg h.bar]
    cases lv with
    | nil => rfl
    | cons a lv =>
      obtain ⟨q, p, b⟩ := a
      simp only
      rw [if_neg (hp (by simp))]
section
variable {t : List UInt8} {i : Nat} {ns : List Nod} {g : Nat} {cl : Nat → Bool} {ps bs : List Int} {lv : List (Nat × List Int × List Int)} {x : Int}
theorem stepE_star (h : nx t i = 42) : stepE t ⟨.P x, i, ns, g, cl, ps, bs, lv⟩ = .go ⟨.P (ns.length : Int), i + 1, ns ++ [repN x 0 (-1)], g, cl, ps, bs, lv⟩ := by
  show stepEP t _ x = _; simp only [stepEP]; rw [if_pos h]
theorem stepE_plus (h : nx t i = 43) : stepE t ⟨.P x, i, ns, g, cl, ps, bs, lv⟩ = .go ⟨.P (ns.length : Int), i + 1, ns ++ [repN x 1 (-1)], g, cl, ps, bs, lv⟩ := by
  show stepEP t _ x = _; simp only [stepEP]; rw [if_neg (by omega), if_pos h]
theorem stepE_qm (h : nx t i = 63) : stepE t ⟨.P x, i, ns, g, cl, ps, bs, lv⟩ = .go ⟨.P (ns.length : Int), i + 1, ns ++ [repN x 0 1], g, cl, ps, bs, lv⟩ := by
  show stepEP t _ x = _; simp only [stepEP]; rw [if_neg (by omega), if_neg (by omega), if_pos h]
theorem stepE_ivl (h : nx t i = 123) {lo hi : Int} {j : Nat} (hv : ivE t i = some (lo, hi, j)) : stepE t ⟨.P x, i, ns, g, cl, ps, bs, lv⟩ = .go ⟨.P (ns.length : Int), j, ns ++ [repN x lo hi], g, cl, ps, bs, lv⟩ := by
  show stepEP t _ x = _; simp only [stepEP]; rw [if_neg (by omega), if_neg (by omega), if_neg (by omega), if_pos h, hv]
theorem stepE_ivl_bad (h : nx t i = 123) (hv : ivE t i = none) : stepE t ⟨.P x, i, ns, g, cl, ps, bs, lv⟩ = .bad i 13 := by
  show stepEP t _ x = _; simp only [stepEP]; rw [if_neg (by omega), if_neg (by omega), if_neg (by omega), if_pos h, hv]
theorem stepE_off (h1 : nx t i ≠ 42) (h2 : nx t i ≠ 43) (h3 : nx t i ≠ 63) (h4 : nx t i ≠ 123) : stepE t ⟨.P x, i, ns, g, cl, ps, bs, lv⟩ = .go ⟨.L, i, ns, g, cl, ps ++ [x], bs, lv⟩ := by
  show stepEP t _ x = _; simp only [stepEP]; rw [if_neg h1, if_neg h2, if_neg h3, if_neg h4]
theorem riv_times {a : Nat} {lo hi : Int} {k : Nat} (ha : a ≤ t.length) (h : rivI t a = some (lo, hi, k)) : timesN lo hi = true := by
  unfold rivI at h
  cases h1 : numS t (a : Int) 255 with
  | mk x q =>
    obtain ⟨y, e⟩ := q
    rw [h1] at h
    simp only at h
    by_cases he : e = 0
    · subst he
      obtain ⟨k1, rfl, hk1, hk2, hx0, hx1⟩ := numS_ok h1
      rw [if_neg (by decide), Int.toNat_natCast] at h
      by_cases hc : nx t k1 = 44
      · have hk3 : k1 + 1 ≤ t.length := by have := bg_room ((nx_bg t k1 44).1 hc); simp at this; omega
        rw [if_neg (by rw [hc]; decide)] at h
        cases h3 : numS t ((k1 + 1 : Nat) : Int) 255 with
        | mk x2 q2 =>
          obtain ⟨y2, e3⟩ := q2
          rw [h3] at h
          simp only at h
          split at h
          · cases h
          · rename_i hno
            split at h
            · simp only [Option.some.injEq, Prod.mk.injEq] at h
              obtain ⟨rfl, rfl, -⟩ := h
              simp [timesN, hx0, hx1]
            · rename_i hz
              obtain rfl : e3 = 0 := by simpa using hz
              obtain ⟨k2, rfl, hk4, hk5, hx2, hx3⟩ := numS_ok h3
              simp only [Option.some.injEq, Prod.mk.injEq] at h
              obtain ⟨rfl, rfl, -⟩ := h
              have : x ≤ x2 := by simp at hno; omega
              simp [timesN, hx0, hx1, this, hx3]
      · rw [if_pos hc] at h
        simp only [Option.some.injEq, Prod.mk.injEq] at h
        obtain ⟨rfl, rfl, -⟩ := h
        simp [timesN, hx0, hx1]
    · rw [if_pos he] at h; cases h
end
theorem pie_opn {l : List UInt8} {i : Nat} (h : nx l i = 40) : pieE l i = .opn := by
  have hb := (nx_bg l i 40).1 h
  unfold pieE
  cases hd : l.drop i with
  | nil => rw [hd] at hb; cases hb
  | cons x r =>
    rw [hd, bg_cons, bg_nil, Bool.and_true, beq_iff_eq] at hb
    subst hb
    rfl
theorem nx_lt {l : List UInt8} {i : Nat} (h : 0 ≤ nx l i) : i < l.length := by
  by_cases hi : i < l.length
  · exact hi
  · rw [nx_none (by omega)] at h; omega
theorem pie_at {t : List UInt8} {i : Nat} {c : UInt8} {r : List UInt8} (h : t.drop i = c :: r) : pieE t i = pieR t i (c :: r) := by unfold pieE; rw [h]
theorem pie_rep {l : List UInt8} {i : Nat} {x : UInt8} {r : List UInt8} (hx : l.drop i = x :: r) (h : repB x) : pieE l i = .bad 13 := by
  rw [pie_at hx]; simp only [pieR]; rw [if_pos h]
theorem pie_par {l : List UInt8} {i : Nat} {r : List UInt8} (hx : l.drop i = 41 :: r) : pieE l i = .bad 14 := by rw [pie_at hx]; rfl
theorem pie_bol {l : List UInt8} {i : Nat} {r : List UInt8} (hx : l.drop i = 94 :: r) : pieE l i = .anc bolN := by rw [pie_at hx]; rfl
theorem pie_eol {l : List UInt8} {i : Nat} {r : List UInt8} (hx : l.drop i = 36 :: r) : pieE l i = .anc eolN := by rw [pie_at hx]; rfl
theorem pie_esc {l : List UInt8} {i : Nat} {r : List UInt8} (hx : l.drop i = 92 :: r) : pieE l i = ofAm (escE i r) := by rw [pie_at hx]; rfl
theorem pie_brk {l : List UInt8} {i : Nat} {r : List UInt8} (hx : l.drop i = 91 :: r) : pieE l i = ofAm (brkA l i) := by rw [pie_at hx]; rfl
theorem pie_dot {l : List UInt8} {i : Nat} {r : List UInt8} (hx : l.drop i = 46 :: r) : pieE l i = .nod (i + 1) (setN allS) := by rw [pie_at hx]; rfl
theorem pie_one {l : List UInt8} {i : Nat} {x : UInt8} {r : List UInt8} (hx : l.drop i = x :: r) (h0 : ¬ repB x) (h1 : x ≠ 41) (h2 : x ≠ 94) (h3 : x ≠ 36) (h4 : x ≠ 40) (h5 : x ≠ 92) (h6 : x ≠ 91) (h7 : x ≠ 46) : pieE l i = .nod (i + 1) (setN (oneF x)) := by
  rw [pie_at hx]; simp only [pieR]
  rw [if_neg h0, if_neg h1, if_neg h2, if_neg h3, if_neg h4, if_neg h5, if_neg h6, if_neg h7, ofL_one]
def ctOf (ps : List Int) : Ct := if ps.isEmpty then .B else .L
theorem ctOf_snoc (ps : List Int) (x : Int) : ctOf (ps ++ [x]) = .L := by unfold ctOf; cases ps <;> rfl
theorem ctOf_L {ps : List Int} (h : ps ≠ []) : ctOf ps = .L := by unfold ctOf; cases ps with | nil => exact absurd rfl h | cons a b => rfl
theorem chnF_step (k x : Int) (ns : List Nod) {r : List Int} {j : Nat} (hj : j < r.length) : chnF k x ns (r.take (j + 1)) = (((chnF k x ns (r.take j)).2.length : Int), (chnF k x ns (r.take j)).2 ++ [twoN k (chnF k x ns (r.take j)).1 (r[j]'hj)]) := by
  rw [List.take_succ_eq_append_getElem hj, chnF_snoc]
theorem ivE_ivl {t : List UInt8} {i : Nat} (h : i + 1 ≤ t.length) : ivlG 1 [125] t i = ivE t i := by
  rw [ivG_riv (by decide) h]
  unfold ivE
  cases rivI t (i + 1) with
  | none => rfl
  | some p =>
    obtain ⟨lo, hi, k⟩ := p
    simp only
    have hb : bg [125] (t.drop k) = true ↔ nx t k = 125 := (nx_bg t k 125).symm
    by_cases hn : nx t k = 125
    · rw [if_pos (hb.2 hn), if_pos hn]; rfl
    · rw [if_neg (fun e => hn (hb.1 e)), if_neg hn]
theorem bg_nx {t : List UInt8} {i : Nat} (c : UInt8) (r : Bool) (h : decide (nx t i = (c.toNat : Int)) = r) : bg [c] (t.drop i) = r := by
  cases r with
  | true => exact (nx_bg t i c).1 (of_decide_eq_true h)
  | false =>
    cases hb : bg [c] (t.drop i) with
    | false => rfl
    | true => exact absurd ((nx_bg t i c).2 hb) (of_decide_eq_false h)
theorem nx_at {t : List UInt8} {i : Nat} {c : UInt8} {r : List UInt8} (h : t.drop i = c :: r) : nx t i = (c.toNat : Int) := by
  have := nx_drop t i 0
  rw [Nat.add_zero] at this
  rw [this, h]; rfl
theorem nx_has {t : List UInt8} {i : Nat} (h : i < t.length) : ∃ c r, t.drop i = c :: r ∧ nx t i = (c.toNat : Int) := by
  have hx := List.drop_eq_getElem_cons h
  exact ⟨_, _, hx, nx_at hx⟩
theorem pie_one_of {t : List UInt8} {i : Nat} (hi : i < t.length) (h0 : nx t i ≠ 42) (h1 : nx t i ≠ 43) (h2 : nx t i ≠ 63) (h3 : nx t i ≠ 123) (h4 : nx t i ≠ 41) (h5 : nx t i ≠ 94) (h6 : nx t i ≠ 36) (h7 : nx t i ≠ 40) : pieE t i = ofAm (oneA t i) := by
  obtain ⟨c, r, hd, hn⟩ := nx_has hi
  have ne : ∀ k : UInt8, nx t i ≠ (k.toNat : Int) → c ≠ k := fun k h e => h (by rw [hn, e])
  rw [pie_at hd, one_at hd]
  simp only [pieR, oneR]
  rw [if_neg (show ¬ repB c from fun h => by
    unfold repB at h
    rcases h with h | h | h | h
    · exact ne 42 h0 h
    · exact ne 43 h1 h
    · exact ne 63 h2 h
    · exact ne 123 h3 h), if_neg (ne 41 h4), if_neg (ne 94 h5), if_neg (ne 36 h6), if_neg (ne 40 h7)]
  by_cases h92 : c = 92
  · subst h92; rfl
  · rw [if_neg h92]
    by_cases h91 : c = 91
    · subst h91; rfl
    · rw [if_neg h91]
      by_cases h46 : c = 46
      · subst h46; rfl
      · rw [if_neg h46, if_neg h46, if_neg h91, if_neg h92]; rfl
theorem pie_rep_of {t : List UInt8} {i : Nat} (h : nx t i = 42 ∨ nx t i = 43 ∨ nx t i = 63 ∨ nx t i = 123) : pieE t i = .bad 13 := by
  have hi : i < t.length := nx_lt (by rcases h with h | h | h | h <;> omega)
  obtain ⟨c, r, hd, hn⟩ := nx_has hi
  refine pie_rep hd ?_
  unfold repB
  rw [hn] at h
  rcases h with h | h | h | h
  · exact .inl (UInt8.toNat_inj.1 (by show c.toNat = 42; omega))
  · exact .inr (.inl (UInt8.toNat_inj.1 (by show c.toNat = 43; omega)))
  · exact .inr (.inr (.inl (UInt8.toNat_inj.1 (by show c.toNat = 63; omega))))
  · exact .inr (.inr (.inr (UInt8.toNat_inj.1 (by show c.toNat = 123; omega))))
theorem pie_of {t : List UInt8} {i : Nat} {k : UInt8} (h : nx t i = (k.toNat : Int)) : ∃ r, t.drop i = k :: r := by
  have hi : i < t.length := nx_lt (by omega)
  obtain ⟨c, r, hd, hn⟩ := nx_has hi
  obtain rfl : c = k := UInt8.toNat_inj.1 (by omega)
  exact ⟨r, hd⟩
/-- What Alt of the builder answers, where there is room. -/
theorem chainGo_chn (g : Nat) (k : Int) (hk : k = 2 ∨ k = 3) : ∀ (r : List Int) (x : Int) (ns : List Nod), okP (ns.length : Int) x = true → (∀ p ∈ r, okP (ns.length : Int) p = true) → ns.length + r.length ≤ 1000 → chainGo g k x ns r = chnF k x ns r
  | [], x, ns, _, _, _ => by rw [chainGo, chnF_nil]
  | p :: r, x, ns, hx, hp, hl => by
    rw [List.length_cons] at hl
    have hf : fitsN (twoN k x p) (ns.length : Int) (g : Int) = true := by rw [fits_two k hk, hx, hp p (by simp)]; rfl
    rw [chainGo, if_pos (canPut_of (by omega) hf), chnF_cons]
    exact chainGo_chn g k hk r _ _ (by rw [List.length_append]; exact okP_last _) (fun q hq => okP_more (hp q (by simp [hq])) (by rw [List.length_append]; simp; omega)) (by rw [List.length_append, List.length_singleton]; omega)
theorem altR_chn {ns : List Nod} {g : Nat} {L : List Int} (hL : L ≠ []) (hp : ∀ p ∈ L, okP (ns.length : Int) p = true) (hl : ns.length + L.length ≤ 1001) : altR ns g L = chn 3 ns L := by
  cases L with
  | nil => exact absurd rfl hL
  | cons x r =>
    unfold altR chainN
    rw [if_neg (by simp)]
    simp only [hp x (by simp), if_true]
    rw [chn_cons]
    exact chainGo_chn g 3 (.inr rfl) r x ns (hp x (by simp)) (fun p hq => hp p (by simp [hq])) (by rw [List.length_cons] at hl; omega)
end Go.Proofs.Ytnfbgpjadnlgbab
