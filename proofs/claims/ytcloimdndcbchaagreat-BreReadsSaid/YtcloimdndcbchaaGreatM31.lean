/- What the parser's calls leave, by the machine; contracts: group, escaped, given those of branch. -/
import Derived.Test.YtcloimdndcbchaaGreatM30
set_option linter.unusedVariables false
set_option maxRecDepth 100000
namespace Go.Proofs.YtcloimdndcbchaaGreat
open Go.RowKit

def toC (pc : Bool) (x : Int) : Ct := if pc then .L else .P x
def toP (pc : Bool) (x : Int) (ps : List Int) : List Int := if pc then ps ++ [x] else ps
/-- A node was read (pc: and it is a piece), or it went wrong. -/
def YNode (pc : Bool) (w : World) (B T : Nat) (A : Option Addr) (n c : Nat) (l : List UInt8) (v : Value) (ns : List Nod) (g i : Nat) (cl : Nat → Bool) (inG : Bool) (e : Ending) (w' : World) : Prop :=
  (∃ x v' ns' g' i' cl', e = .returned (.int .i64 x) ∧ okP (ns'.length : Int) x = true ∧ Psr w' B T A n c l v' ns' g' i' cl' 0 0 ∧ ChP w w' T v v' ∧ ns.length ≤ ns'.length ∧ g ≤ g' ∧ i < i' ∧
    ∀ ps lv, lv.isEmpty = !inG → Steps l ⟨.L, i, ns, g, cl, ps, lv⟩ ⟨toC pc x, i', ns', g', cl', toP pc x ps, lv⟩) ∨
  (∃ v' ns' g' i' cl' p q, q ≠ 0 ∧ e = .returned (.int .i64 (-1)) ∧ Psr w' B T A n c l v' ns' g' i' cl' p q ∧ ChP w w' T v v' ∧ ∀ ps lv, lv.isEmpty = !inG → Ends l ⟨.L, i, ns, g, cl, ps, lv⟩ (.bad p q))
/-- A branch was read, or it went wrong. -/
def YBranch (w : World) (B T : Nat) (A : Option Addr) (n c : Nat) (l : List UInt8) (v : Value) (ns : List Nod) (g i : Nat) (cl : Nat → Bool) (inG : Bool) (e : Ending) (w' : World) : Prop :=
  (∃ x v' ns' g' i' cl' ns1 ps', e = .returned (.int .i64 x) ∧ okP (ns'.length : Int) x = true ∧ Psr w' B T A n c l v' ns' g' i' cl' 0 0 ∧ ChP w w' T v v' ∧ ns.length ≤ ns'.length ∧ g ≤ g' ∧ i ≤ i' ∧ catS ns1 ps' = some (x, ns') ∧
    (if inG then bg [92, 41] (l.drop i') = true else i' = n) ∧ ∀ lv, lv.isEmpty = !inG → Steps l ⟨.B, i, ns, g, cl, [], lv⟩ ⟨.L, i', ns1, g', cl', ps', lv⟩) ∨
  (∃ v' ns' g' i' cl' p q, q ≠ 0 ∧ e = .returned (.int .i64 (-1)) ∧ Psr w' B T A n c l v' ns' g' i' cl' p q ∧ ChP w w' T v v' ∧ ∀ lv, lv.isEmpty = !inG → Ends l ⟨.B, i, ns, g, cl, [], lv⟩ (.bad p q))
/-- Branches are read of which so much is left. -/
def BrOK (k : Nat) : Prop := ∀ (inG : Bool) (w : World) (B T : Nat) (A : Option Addr) (n c : Nat) (l : List UInt8) (v : Value) (ns : List Nod) (g i : Nat) (cl : Nat → Bool), Psr w B T A n c l v ns g i cl 0 0 → n - i = k →
  Calls Tryz.prog 9 #[.pointer (some ⟨T, 0, none⟩), .bool inG] w (YBranch w B T A n c l v ns g i cl inG)

section
variable {t : List UInt8} {i : Nat} {ns : List Nod} {g : Nat} {cl : Nat → Bool} {ps : List Int} {lv : List (Nat × List Int)} {inG : Bool}
theorem step_atom (hi : i < t.length) (hc : inG = true → bg [92, 41] (t.drop i) = false) (hlv : lv.isEmpty = !inG) : step t ⟨.L, i, ns, g, cl, ps, lv⟩ = stepA ⟨.L, i, ns, g, cl, ps, lv⟩ (atomA t i) := by
  have hni : ¬ t.length ≤ i := by omega
  cases lv with
  | nil => show stepL t ⟨.L, i, ns, g, cl, ps, []⟩ = _; simp only [stepL]; rw [if_neg hni]
  | cons a lv =>
    obtain ⟨q, p⟩ := a
    have hg : inG = true := by cases inG <;> simp at hlv ⊢
    show stepL t ⟨.L, i, ns, g, cl, ps, (q, p) :: lv⟩ = _
    simp only [stepL]
    rw [if_neg hni, if_neg (by rw [hc hg]; decide)]
theorem step_close {q : Nat} {x : Int} {ns' : List Nod} {p : List Int} (hb : bg [92, 41] (t.drop i) = true) (hc : catS ns ps = some (x, ns')) (hl : ns'.length < 1000) :
    step t ⟨.L, i, ns, g, cl, ps, (q, p) :: lv⟩ = .go ⟨.P (ns'.length : Int), i + 2, ns' ++ [groupN (q : Int) x], g, setQ cl q, p, lv⟩ := by
  have hni : ¬ t.length ≤ i := by have := bg_room hb; simp at this; omega
  show stepL t ⟨.L, i, ns, g, cl, ps, (q, p) :: lv⟩ = _
  simp only [stepL, putS]
  rw [if_neg hni, if_pos hb, hc]
  simp only
  rw [if_pos hl]
theorem step_close_full {q : Nat} {x : Int} {ns' : List Nod} {p : List Int} (hb : bg [92, 41] (t.drop i) = true) (hc : catS ns ps = some (x, ns')) (hl : ¬ ns'.length < 1000) :
    step t ⟨.L, i, ns, g, cl, ps, (q, p) :: lv⟩ = .bad (i + 2) 8 := by
  have hni : ¬ t.length ≤ i := by have := bg_room hb; simp at this; omega
  show stepL t ⟨.L, i, ns, g, cl, ps, (q, p) :: lv⟩ = _
  simp only [stepL, putS]
  rw [if_neg hni, if_pos hb, hc]
  simp only
  rw [if_neg hl]
end
section
variable {w w' : World} {B T : Nat} {A : Option Addr} {n c : Nat} {l : List UInt8} {v v' : Value} {ns ns' : List Nod} {g g' i i' : Nat} {cl cl' : Nat → Bool} {inG : Bool} {e : Ending}
theorem YPut.node {j : Nat} {nd : Nod} (h : YPut w B T A n c l v ns g cl j nd e w') (hi : i < l.length) (hc : inG = true → bg [92, 41] (l.drop i) = false) (ha : atomA l i = .nod j nd) (hj : i < j) : YNode false w B T A n c l v ns g i cl inG e w' := by
  rcases h with ⟨hl, v', rfl, k, m⟩ | ⟨hl, v', rfl, k, m⟩
  · refine .inl ⟨_, v', _, _, _, _, rfl, ?_, k, m, by simp, Nat.le_refl _, hj, fun ps lv hlv => .one ?_⟩
    · rw [List.length_append]; exact okP_last _
    · rw [step_atom hi hc hlv, ha]
      simp only [stepA, putS]
      rw [if_pos hl]; rfl
  · refine .inr ⟨v', _, _, _, _, _, _, by decide, rfl, k, m, fun ps lv hlv => .bad ?_⟩
    rw [step_atom hi hc hlv, ha]
    simp only [stepA, putS]
    rw [if_neg hl]
theorem YPut.bak {q : Nat} (h : YPut w B T A n c l v ns g cl (i + 2) (backN (q : Int)) e w') (hi : i < l.length) (hc : inG = true → bg [92, 41] (l.drop i) = false) (ha : atomA l i = .bak q) (hq : cl q = true) : YNode false w B T A n c l v ns g i cl inG e w' := by
  rcases h with ⟨hl, v', rfl, k, m⟩ | ⟨hl, v', rfl, k, m⟩
  · refine .inl ⟨_, v', _, _, _, _, rfl, ?_, k, m, by simp, Nat.le_refl _, by omega, fun ps lv hlv => .one ?_⟩
    · rw [List.length_append]; exact okP_last _
    · rw [step_atom hi hc hlv, ha]
      simp only [stepA, putS]
      rw [if_pos hq, if_pos hl]; rfl
  · refine .inr ⟨v', _, _, _, _, _, _, by decide, rfl, k, m, fun ps lv hlv => .bad ?_⟩
    rw [step_atom hi hc hlv, ha]
    simp only [stepA, putS]
    rw [if_pos hq, if_neg hl]
theorem YBad.node {q : Nat} (h : YBad w B T A n c l v i q e w') (hi : i < l.length) (hc : inG = true → bg [92, 41] (l.drop i) = false) (hs : ∀ ps lv, stepA ⟨.L, i, ns, g, cl, ps, lv⟩ (atomA l i) = .bad i q) (hq : q ≠ 0) : YNode false w B T A n c l v ns g i cl inG e w' := by
  obtain ⟨v', ns', g', i', cl', rfl, k, m⟩ := h
  refine .inr ⟨v', _, _, _, _, _, _, hq, rfl, k, m, fun ps lv hlv => .bad ?_⟩
  rw [step_atom hi hc hlv, hs]
theorem YNode.ret {pc : Bool} (h : YNode pc w B T A n c l v ns g i cl inG e w') : ∃ z, e = .returned (.int .i64 z) ∧ YNode pc w B T A n c l v ns g i cl inG (.returned (.int .i64 z)) w' := by
  rcases h with ⟨x, v', ns', g', i', cl', rfl, h⟩ | ⟨v', ns', g', i', cl', p, q, hq, rfl, h⟩
  · exact ⟨_, rfl, .inl ⟨x, v', ns', g', i', cl', rfl, h⟩⟩
  · exact ⟨_, rfl, .inr ⟨v', ns', g', i', cl', p, q, hq, rfl, h⟩⟩
theorem YBad.ret {p q : Nat} (h : YBad w B T A n c l v p q e w') : e = .returned (.int .i64 (-1)) ∧ YBad w B T A n c l v p q (.returned (.int .i64 (-1))) w' := by
  obtain ⟨v', ns', g', i', cl', rfl, h⟩ := h
  exact ⟨rfl, v', ns', g', i', cl', rfl, h⟩
theorem YNode.from {pc : Bool} {w0 : World} {v0 : Value} (h : YNode pc w B T A n c l v ns g i cl inG e w') (h0 : ChP w0 w T v0 v) : YNode pc w0 B T A n c l v0 ns g i cl inG e w' := by
  rcases h with ⟨x, v', ns', g', i', cl', h1, h2, h3, h4, h5⟩ | ⟨v', ns', g', i', cl', p, q, h1, h2, h3, h4, h5⟩
  · exact .inl ⟨x, v', ns', g', i', cl', h1, h2, h3, h0.trans h4, h5⟩
  · exact .inr ⟨v', ns', g', i', cl', p, q, h1, h2, h3, h0.trans h4, h5⟩
theorem YBad.from {p q : Nat} {w0 : World} {v0 : Value} (h : YBad w B T A n c l v p q e w') (h0 : ChP w0 w T v0 v) : YBad w0 B T A n c l v0 p q e w' := by
  obtain ⟨v', ns', g', i', cl', h1, h2, h3⟩ := h
  exact ⟨v', ns', g', i', cl', h1, h2, h0.trans h3⟩
end

/-! ### group -/
theorem drop_two {t : List UInt8} {i : Nat} {a b : UInt8} (h : bg [a, b] (t.drop i) = true) : ∃ r, t.drop i = a :: b :: r := by
  cases hd : t.drop i with
  | nil => rw [hd] at h; cases h
  | cons x r =>
    cases r with
    | nil => rw [hd] at h; simp [bg_cons, bg_none] at h
    | cons y r =>
      rw [hd] at h
      simp only [bg_cons, bg_nil, Bool.and_true, Bool.and_eq_true, beq_iff_eq] at h
      exact ⟨r, by rw [h.1, h.2]⟩
theorem atom_opn {t : List UInt8} {i : Nat} (h : bg [92, 40] (t.drop i) = true) : atomA t i = .opn := by
  obtain ⟨r, hr⟩ := drop_two h
  unfold atomA
  rw [hr]; rfl

section
variable {w : World} {B T : Nat} {A : Option Addr} {n c : Nat} {l : List UInt8} {v : Value} {ns : List Nod} {g i : Nat} {cl : Nat → Bool} (h : Psr w B T A n c l v ns g i cl 0 0) {inG : Bool} (hx : bg [92, 40] (l.drop i) = true)
include h hx

set_option maxHeartbeats 4000000 in
theorem bgroup_full (hg : g = 9) : Calls Tryz.prog 63 #[.pointer (some ⟨T, 0, none⟩)] w (YNode false w B T A n c l v ns g i cl inG) := by
  have hrm := bg_room hx
  simp at hrm
  have hO := Lib.hid (open_any B T 0 v ns g w h.bldr)
  have hP := Lib.hid h
  have hx' := Lib.hid hx
  rw [show openI g = -1 by simp [openI, hg], show openG g = g by simp [openG, hg]] at hO
  have hfin := Lib.hid (fun (w' : World) (x : Ending) (y : YBad w B T A n c l v i 17 x w') => y.node (inG := inG) (ns := ns) (g := g) (cl := cl) (by omega) (fun _ => by obtain ⟨r, hr⟩ := drop_two hx; rw [hr]; rfl) (fun ps lv => by rw [atom_opn hx]; simp [stepA, hg]) (by decide))
  clear h hx hg
  go_enter Tryz.func63, Tryz.ntmps63
  go_wp2_with (first
    | (go_at_call 76; refine (hO.out).mono ?_; rintro x w1 ⟨rfl, hb, hc⟩; have h1 := Lib.hid (hP.out.built (Nat.le_refl _) hb hc); have k1 := Lib.hid hc.chp; have c3 := h1.out.c3; clear hb hc)
    | (go_at_call 19; refine (wrong_at h1.out i 17 (i : Int) 17 rfl rfl).mono ?_; intro x w2 hy; obtain ⟨rfl, hy⟩ := hy.ret; replace hy := Lib.hid (hfin.out _ _ (hy.from k1.out))))
  go_ret
  exact hy.out

set_option maxHeartbeats 8000000 in
theorem bgroup_any (hB : ∀ k, k < n - i → BrOK k) : Calls Tryz.prog 63 #[.pointer (some ⟨T, 0, none⟩)] w (YNode false w B T A n c l v ns g i cl inG) := by
  by_cases hg : g = 9
  · exact bgroup_full h hx hg
  have hg9 : g < 9 := by have := h.grp; omega
  have hrm := bg_room hx
  simp at hrm
  have hnl := h.hn
  have hns : n ≤ 100000 := h.txt.2.2.2.1
  have hi2 : i + 2 ≤ n := by omega
  have hi0 : (i : Int) ≤ 100000 := by omega
  have hO := Lib.hid (open_any B T 0 v ns g w h.bldr)
  rw [show openI g = (g : Int) + 1 by simp [openI, hg9], show openG g = g + 1 by simp [openG, hg9]] at hO
  have hP := Lib.hid h
  have hq : ((g : Int) + 1 == -1) = false := by rw [beq_eq_false_iff_ne]; omega
  have hst := Lib.hid (fun (ps : List Int) (lv : List (Nat × List Int)) (hlv : lv.isEmpty = !inG) => show step l ⟨.L, i, ns, g, cl, ps, lv⟩ = .go ⟨.B, i + 2, ns, g + 1, cl, [], (g + 1, ps) :: lv⟩ from by
    rw [step_atom (by omega) (fun _ => by obtain ⟨r, hr⟩ := drop_two hx; rw [hr]; rfl) hlv, atom_opn hx]
    simp only [stepA]
    rw [if_pos hg9])
  have hBr := Lib.hid (fun (w2 : World) (h2 : Psr w2 B T A n c l v ns (g + 1) (i + 2) cl 0 0) => hB (n - (i + 2)) (by omega) true w2 B T A n c l v ns (g + 1) (i + 2) cl h2 rfl)
  have hg0 : (g : Int) + 1 ≤ 9 := by omega
  clear h hx hg hrm hB hnl
  go_enter Tryz.func63, Tryz.ntmps63
  go_wp2_with (first
    | (go_at_call 76; refine (hO.out).mono ?_; rintro x w1 ⟨rfl, hb, hc⟩; have h1 := hP.out.built (g' := g + 1) (by omega) hb hc; have k1 := Lib.hid hc.chp; have c3 := h1.c3; have t3 := h1.thawed 3; have h1' := Lib.hid (h1.goto' hi2 (z := (i : Int) + 2) (by omega)); clear hb hc h1)
    | (go_at_call 9; refine (hBr.out _ h1'.out).mono ?_; intro x w2 hy; rcases hy with ⟨x, v2, ns2, g2, i2, cl2, ns1, ps2, rfl, ok2, h2, k2, q1, q2, q3, q4, q5, q6⟩ | ⟨v2, ns2, g2, i2, cl2, p2, e2, he2, rfl, h2, k2, q6⟩
       all_goals first
         | (rw [if_pos rfl] at q5
            have c15 := h2.c15
            have c3b := h2.c3
            have t3b := h2.thawed 3
            have hrm := bg_room q5
            have hi4 : i2 + 2 ≤ n := by
              have hnl := h2.hn
              simp at hrm; omega
            have hi5 : (i2 : Int) ≤ 100000 := by omega
            have h3 := h2.goto' hi4 (z := (i2 : Int) + 2) (by omega)
            have t4 := h3.thawed (4 + (g + 1))
            have c4 := h3.cQ (g + 1) (by omega)
            have h4 := Lib.hid (h3.ended (q := g + 1) (by omega) q2)
            have k4 := Lib.hid ((((k1.out.trans (ChP.store _ T 3 (.int .i64 ((i : Int) + 2)) v)).trans k2).trans (ChP.store _ T 3 (.int .i64 ((i2 : Int) + 2)) v2)).trans (ChP.store _ T (4 + (g + 1)) (.bool true) v2))
            have hf := Lib.hid (fits_group (q := (g : Int) + 1) (g := (g2 : Int)) ok2 (by omega) (by omega))
            have hgr := Lib.hid (group_any B T 0 v2 ns2 g2 _ h4.out.bldr ((g : Int) + 1) x)
            replace q1 := Lib.hid q1
            replace q2 := Lib.hid q2
            replace q3 := Lib.hid q3
            replace q4 := Lib.hid q4
            replace q5 := Lib.hid q5
            replace q6 := Lib.hid q6
            replace ok2 := Lib.hid ok2
            clear h2 k2 hrm h3 k1)
         | (have c15 := h2.c15
            have he : ((e2 : Int) != 0) = true := by rw [bne_iff_ne]; omega
            replace h2 := Lib.hid h2
            replace k2 := Lib.hid ((k1.out.trans (ChP.store _ T 3 (.int .i64 ((i : Int) + 2)) v)).trans k2)
            replace q6 := Lib.hid q6
            replace he2 := Lib.hid he2
            clear k1)))
  · by_cases hl : ns2.length < 1000
    · have hl' := Lib.hid hl
      go_wp2_with (first
        | (go_at_call 77; refine (hgr.out).mono ?_; intro x w5 hx2; obtain ⟨v5, rfl, h5, k5⟩ := h4.out.room hl'.out hf.out hx2; clear hx2; replace h5 := Lib.hid h5; replace k5 := Lib.hid (k4.out.trans k5))
        | (go_at_call 15; refine (put_yes T ns2.length _).mono ?_; rintro x w6 ⟨rfl, rfl⟩))
      go_ret
      refine .inl ⟨_, v5, _, g2, i2 + 2, _, rfl, ?_, h5.out, k5.out, ?_, ?_, ?_, fun ps lv hlv => ?_⟩
      · rw [List.length_append]; exact okP_last _
      · have := q1.out; rw [List.length_append]; omega
      · have := q2.out; omega
      · have := q3.out; omega
      · refine (Steps.one (hst.out ps lv hlv)).trans ((q6.out _ rfl).snoc ?_)
        exact step_close q5.out q4.out (by simpa using hl'.out)
    · have hl' := Lib.hid hl
      go_wp2_with (first
        | (go_at_call 77; refine (hgr.out).mono ?_; intro x w5 hx2; obtain ⟨v5, rfl, h5, k5⟩ := h4.out.full hl'.out hx2; clear hx2; replace h5 := Lib.hid h5; replace k5 := Lib.hid (k4.out.trans k5))
        | (go_at_call 15; refine (put_no h5.out).mono ?_; rintro x w6 ⟨rfl, h6, k6⟩; replace h6 := Lib.hid h6; replace k6 := Lib.hid (k5.out.trans k6)))
      go_ret
      refine .inr ⟨v5, _, _, _, _, _, _, by decide, rfl, h6.out, k6.out, fun ps lv hlv => ?_⟩
      refine (Steps.one (hst.out ps lv hlv)).ends ((q6.out _ rfl).ends (.bad ?_))
      exact step_close_full q5.out q4.out (by simpa using hl'.out)
  · go_ret
    exact .inr ⟨v2, ns2, g2, i2, cl2, p2, e2, he2.out, rfl, h2.out, k2.out, fun ps lv hlv => (Steps.one (hst.out ps lv hlv)).ends (q6.out _ rfl)⟩
end
end Go.Proofs.YtcloimdndcbchaaGreat
