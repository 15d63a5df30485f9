/- What the machine of extended texts puts is a forest, and a tree where it ends. -/
import Derived.Test.YtnfbgpjadnlgbabM23
import Derived.Test.YtnfbgpjadnlgbabM32
set_option linter.unusedVariables false
set_option maxRecDepth 100000
namespace Go.Proofs.Ytnfbgpjadnlgbab
open Go.RowKit

/-- A forest, of whatever length. -/
structure Fo (ns : List Nod) (g : Nat) (R : List Int) : Prop where
  fit : ∀ k (hk : k < ns.length), fitsN (ns[k]'hk) (k : Int) (g : Int) = true
  ok : ∀ p ∈ R, okP (ns.length : Int) p = true
  use : ∀ j, j < ns.length → usesN ns j + cntI R j = 1
theorem Fo.nil_ (g : Nat) : Fo [] g [] := ⟨fun k hk => by simp at hk, fun p h => by simp at h, fun j h => by simp at h⟩
section
variable {ns : List Nod} {g : Nat} {R R' : List Int}
theorem Fo.perm (h : Fo ns g R) (hp : R.Perm R') : Fo ns g R' := ⟨h.fit, fun p hm => h.ok p (hp.mem_iff.2 hm), fun j hj => by rw [← cntI_perm hp]; exact h.use j hj⟩
theorem Fo.more (h : Fo ns g R) {g' : Nat} (hg : g ≤ g') : Fo ns g' R := ⟨fun k hk => fitsN_more (h.fit k hk) (by omega), h.ok, h.use⟩
theorem Fo.parts (h : Fo ns g R) : ∀ p ∈ ns.flatMap partsN, okP (ns.length : Int) p = true := by
  intro p hp
  obtain ⟨nd, hn, hp⟩ := List.mem_flatMap.1 hp
  obtain ⟨k, hk, rfl⟩ := List.getElem_of_mem hn
  have := fits_part (h.fit k hk) hp
  rw [okP_iff]; omega
theorem Fo.node {P : List Int} (h : Fo ns g (P ++ R)) {nd : Nod} (hP : partsN nd = P) (hf : fitsN nd (ns.length : Int) (g : Int) = true) : Fo (ns ++ [nd]) g ((ns.length : Int) :: R) := by
  refine ⟨fun k hk => ?_, fun p hp => ?_, fun j hj => ?_⟩
  · rw [List.length_append, List.length_singleton] at hk
    by_cases hk' : k < ns.length
    · rw [List.getElem_append_left hk']; exact h.fit k hk'
    · obtain rfl : k = ns.length := by omega
      rw [List.getElem_append_right (Nat.le_refl _)]
      simpa using hf
  · rw [List.length_append, List.length_singleton]
    rcases List.mem_cons.1 hp with rfl | hp
    · exact okP_last _
    · exact okP_more (h.ok p (by simp [hp])) (by omega)
  · rw [List.length_append, List.length_singleton] at hj
    rw [usesN_snoc, hP, cntI_cons]
    by_cases hj' : j < ns.length
    · have := h.use j hj'
      rw [cntI_append] at this
      rw [if_neg (by omega)]; omega
    · obtain rfl : j = ns.length := by omega
      have h1 : usesN ns ns.length = 0 := cntI_zero fun x hx e => by have := h.parts x hx; rw [okP_iff] at this; omega
      have h2 : cntI P ns.length = 0 := cntI_zero fun x hx e => by have := h.ok x (by simp [hx]); rw [okP_iff] at this; omega
      have h3 : cntI R ns.length = 0 := cntI_zero fun x hx e => by have := h.ok x (by simp [hx]); rw [okP_iff] at this; omega
      rw [if_pos rfl]; omega
end
theorem grps_two {ns : List Nod} {k a b : Int} (hk : k ≠ 5) (q : Nat) : grpsN (ns ++ [twoN k a b]) q = grpsN ns q := by
  rw [grpsN_snoc, if_neg (by rintro ⟨e, _⟩; exact hk e)]; omega
theorem chnF_fo (k : Int) (hk : k = 2 ∨ k = 3) (g : Nat) (R : List Int) : ∀ (ps : List Int) (x : Int) (ns : List Nod), Fo ns g (x :: ps ++ R) → (ps = [] → x = (ns.length : Int) - 1) →
    Fo (chnF k x ns ps).2 g ((chnF k x ns ps).1 :: R) ∧ (chnF k x ns ps).1 = ((chnF k x ns ps).2.length : Int) - 1 ∧ (∀ q, grpsN (chnF k x ns ps).2 q = grpsN ns q)
  | [], x, ns, h, hl => by rw [chnF_nil]; exact ⟨h, hl rfl, fun _ => rfl⟩
  | p :: r, x, ns, h, hl => by
    have hx := h.ok x (by simp)
    have hp := h.ok p (by simp)
    have h1 : Fo (ns ++ [twoN k x p]) g ((ns.length : Int) :: (r ++ R)) := Fo.node (P := [x, p]) (R := r ++ R) h (by rcases hk with rfl | rfl <;> rfl) (by rw [fits_two k hk, hx, hp]; rfl)
    have := chnF_fo k hk g R r _ _ h1 (fun _ => by rw [List.length_append, List.length_singleton]; omega)
    rw [chnF_cons]
    exact ⟨this.1, this.2.1, fun q => by rw [this.2.2 q, grps_two (by rcases hk with rfl | rfl <;> decide)]⟩
theorem chn_fo (k : Int) (hk : k = 2 ∨ k = 3) {g : Nat} {R ps : List Int} {ns : List Nod} (h : Fo ns g (ps ++ R)) (hne : ps ≠ []) (hl : ps.getLast hne = (ns.length : Int) - 1) :
    Fo (chn k ns ps).2 g ((chn k ns ps).1 :: R) ∧ (chn k ns ps).1 = ((chn k ns ps).2.length : Int) - 1 ∧ (∀ q, grpsN (chn k ns ps).2 q = grpsN ns q) := by
  cases ps with
  | nil => exact absurd rfl hne
  | cons x r =>
    rw [chn_cons]
    exact chnF_fo k hk g R r x ns h (fun e => by subst e; simpa using hl)
def headE : Ct → List Int
  | .P x => [x]
  | _ => []
def rootsE (c : Ce) : List Int := headE c.ct ++ (c.ps ++ (c.bs ++ c.lv.flatMap fun a => a.2.1 ++ a.2.2))
def opensE (c : Ce) : List Int := c.lv.map fun a => (a.1 : Int)
structure InvE (c : Ce) : Prop where
  tree : Fo c.ns c.g (rootsE c)
  grp : ∀ q, 1 ≤ q → q ≤ c.g → grpsN c.ns q + cntI (opensE c) q = 1
  opn : ∀ q ∈ opensE c, 1 ≤ q ∧ q ≤ (c.g : Int)
  nine : c.g ≤ 9
  clg : ∀ q, c.cl q = true → 1 ≤ q ∧ q ≤ c.g
  last : match c.ct with
    | .P x => x = (c.ns.length : Int) - 1
    | .L => ∃ hne : c.ps ≠ [], c.ps.getLast hne = (c.ns.length : Int) - 1
    | .B => c.ps = []
theorem invE0 : InvE ce0 := ⟨Fo.nil_ 0, fun q h1 h2 => by simp [ce0] at h2; omega, fun q h => by simp [opensE, ce0] at h, by simp [ce0], fun q h => by simp [ce0] at h, rfl⟩
/-- Where a piece begins. -/
theorem InvE.atom {t : List UInt8} {c c' : Ce} (h : InvE c) (hct : c.ct = .B ∨ c.ct = .L) (hs : stepPm c (pieE t c.i) = .go c') : InvE c' := by
  obtain ⟨ct, i, ns, g, cl, ps, bs, lv⟩ := c
  have ht : Fo ns g (ps ++ (bs ++ lv.flatMap fun a => a.2.1 ++ a.2.2)) := by
    have := h.tree
    simp only [rootsE] at this
    rcases hct with e | e
    · simp only at e; subst e; simpa [headE] using this
    · simp only at e; subst e; simpa [headE] using this
  have hgrp := h.grp
  have hopn := h.opn
  have hnine := h.nine
  have hclg := h.clg
  simp only [opensE] at hgrp hopn hnine hclg
  have leaf : ∀ (nd : Nod) (j : Nat), partsN nd = [] → fitsN nd (ns.length : Int) (g : Int) = true → nd.kind ≠ 5 → InvE ⟨.P (ns.length : Int), j, ns ++ [nd], g, cl, ps, bs, lv⟩ := fun nd j hp hf hk =>
    ⟨Fo.node (P := []) ht hp hf, fun q h1 h2 => by rw [grpsN_snoc, if_neg (fun e => hk e.1)]; have := hgrp q h1 h2; simp only [opensE]; omega, hopn, hnine, hclg, by simp⟩
  have ham : ∀ a : Am, stepPm ⟨ct, i, ns, g, cl, ps, bs, lv⟩ (ofAm a) = .go c' → (∀ j nd, a = .nod j nd → (∃ f, nd = setN f)) → InvE c' := by
    intro a hs hn
    cases a with
    | bad e => cases hs
    | opn =>
      simp only [ofAm, stepPm] at hs
      split at hs
      · rename_i hg
        injection hs with hs
        subst hs
        refine ⟨?_, fun q q1 q2 => ?_, fun q hq => ?_, hg, fun q hq => ?_, rfl⟩
        · have := ht.more (Nat.le_succ g)
          simpa [rootsE, headE] using this
        · simp only [opensE, List.map_cons] at q2 ⊢
          rw [cntI_cons]
          by_cases hq : q = g + 1
          · subst hq
            have e1 : grpsN ns (g + 1) = 0 := cntI_zero fun x hx e => by
              obtain ⟨nd, hn, rfl⟩ := List.mem_map.1 hx
              obtain ⟨hn, hk⟩ := List.mem_filter.1 hn
              obtain ⟨k, hk2, rfl⟩ := List.getElem_of_mem hn
              have := fits_grp (ht.fit k hk2) (by simpa using hk)
              omega
            have e2 : cntI (lv.map fun a => (a.1 : Int)) (g + 1) = 0 := cntI_zero fun x hx e => by
              have := hopn x hx
              omega
            rw [if_pos rfl]; omega
          · have := hgrp q q1 (by omega)
            rw [if_neg (by omega)]; omega
        · simp only [opensE, List.map_cons, List.mem_cons] at hq
          simp only
          rcases hq with rfl | hq
          · omega
          · have := hopn q hq
            omega
        · have := hclg q hq
          simp only
          omega
      · cases hs
    | bak q =>
      simp only [ofAm, stepPm] at hs
      split at hs
      · rename_i hq
        injection hs with hs
        subst hs
        have hqg := hclg q hq
        exact leaf (backN (q : Int)) _ rfl (fits_back (by omega) (by omega)) (by simp [backN])
      · cases hs
    | nod j nd =>
      simp only [ofAm, stepPm] at hs
      injection hs with hs
      subst hs
      obtain ⟨f, rfl⟩ := hn j nd rfl
      exact leaf (setN f) _ rfl (fits_set f _ _) (by simp [setN])
  have anc : ∀ nd : Nod, stepPm ⟨ct, i, ns, g, cl, ps, bs, lv⟩ (.anc nd) = .go c' → partsN nd = [] → fitsN nd (ns.length : Int) (g : Int) = true → nd.kind ≠ 5 → InvE c' := by
    intro nd hs hp hf hk
    simp only [stepPm] at hs
    injection hs with hs
    subst hs
    refine ⟨?_, fun q h1 h2 => by rw [grpsN_snoc, if_neg (fun e => hk e.1)]; have := hgrp q h1 h2; simp only [opensE]; omega, hopn, hnine, hclg, ⟨by simp, by simp⟩⟩
    have h1 := Fo.node (P := []) ht hp hf
    refine h1.perm ?_
    show ((ns.length : Int) :: (ps ++ (bs ++ lv.flatMap fun a => a.2.1 ++ a.2.2))).Perm ([] ++ ((ps ++ [(ns.length : Int)]) ++ (bs ++ lv.flatMap fun a => a.2.1 ++ a.2.2)))
    rw [List.nil_append, ← List.cons_append]
    exact List.Perm.append_right _ (List.perm_append_comm (l₁ := [(ns.length : Int)]))
  have pie : ∀ r : List UInt8, stepPm ⟨ct, i, ns, g, cl, ps, bs, lv⟩ (pieR t i r) = .go c' → InvE c' := by
    intro r hs
    cases r with
    | nil => cases hs
    | cons x r =>
      simp only [pieR] at hs
      split at hs
      · cases hs
      · split at hs
        · cases hs
        · split at hs
          · exact anc bolN hs rfl (fits_plain 7 (.inr (.inl rfl)) _ _) (by decide)
          · split at hs
            · exact anc eolN hs rfl (fits_plain 8 (.inr (.inr rfl)) _ _) (by decide)
            · split at hs
              · exact ham .opn hs (fun j nd e => by cases e)
              · split at hs
                · refine ham _ hs fun j nd e => ?_
                  cases r with
                  | nil => cases e
                  | cons y r =>
                    simp only [escE] at e
                    repeat' split at e
                    all_goals first
                      | (simp only [Am.nod.injEq] at e; exact ⟨_, e.2.symm⟩)
                      | cases e
                · split at hs
                  · refine ham _ hs fun j nd e => ?_
                    unfold brkA at e
                    split at e
                    · cases e
                    · simp only [Am.nod.injEq] at e; exact ⟨_, e.2.symm⟩
                  · split at hs
                    · exact ham (.nod (i + 1) (setN allS)) hs (fun j nd e => by simp only [Am.nod.injEq] at e; exact ⟨_, e.2.symm⟩)
                    · exact ham (.nod (i + 1) (setN (ofL [x]))) hs (fun j nd e => by simp only [Am.nod.injEq] at e; exact ⟨_, e.2.symm⟩)
  exact pie _ hs
theorem stepE_inv {t : List UInt8} {c c' : Ce} (h : InvE c) (hs : stepE t c = .go c') : InvE c' := by
  obtain ⟨ct, i, ns, g, cl, ps, bs, lv⟩ := c
  cases ct with
  | B =>
    change stepEB t _ = _ at hs
    simp only [stepEB] at hs
    split at hs
    · cases hs
    · exact InvE.atom h (.inl rfl) hs
  | P x =>
    have hx : x = (ns.length : Int) - 1 := h.last
    have ht : Fo ns g ([x] ++ (ps ++ (bs ++ lv.flatMap fun a => a.2.1 ++ a.2.2))) := h.tree
    have hok := ht.ok x (by simp)
    have hrep : ∀ (lo hi : Int) (j : Nat), timesN lo hi = true → InvE ⟨.P (ns.length : Int), j, ns ++ [repN x lo hi], g, cl, ps, bs, lv⟩ := fun lo hi j htm =>
      ⟨Fo.node (P := [x]) ht rfl (fits_rep hok htm), fun q h1 h2 => by rw [grpsN_snoc, if_neg (by rintro ⟨e, _⟩; simp [repN] at e)]; have := h.grp q h1 h2; simp only [opensE] at this ⊢; omega, h.opn, h.nine, h.clg, by simp⟩
    change stepEP t _ x = _ at hs
    simp only [stepEP] at hs
    split at hs
    · injection hs with hs; subst hs; exact hrep 0 (-1) _ (by decide)
    · split at hs
      · injection hs with hs; subst hs; exact hrep 1 (-1) _ (by decide)
      · split at hs
        · injection hs with hs; subst hs; exact hrep 0 1 _ (by decide)
        · split at hs
          · rename_i hn
            cases hv : ivE t i with
            | none => rw [hv] at hs; cases hs
            | some p =>
              obtain ⟨lo, hi, j⟩ := p
              rw [hv] at hs
              simp only at hs
              injection hs with hs
              subst hs
              refine hrep lo hi _ ?_
              have hil := nx_lt (l := t) (i := i) (by omega)
              unfold ivE at hv
              cases hr : rivI t (i + 1) with
              | none => rw [hr] at hv; cases hv
              | some p2 =>
                obtain ⟨a, b, k⟩ := p2
                rw [hr] at hv
                simp only at hv
                split at hv
                · have := riv_times (by omega) hr
                  simp only [Option.some.injEq, Prod.mk.injEq] at hv
                  obtain ⟨rfl, rfl, -⟩ := hv
                  exact this
                · cases hv
          · injection hs with hs
            subst hs
            refine ⟨ht.perm ?_, h.grp, h.opn, h.nine, h.clg, ⟨by simp, by simp [hx]⟩⟩
            show ([x] ++ (ps ++ (bs ++ lv.flatMap fun a => a.2.1 ++ a.2.2))).Perm ([] ++ ((ps ++ [x]) ++ (bs ++ lv.flatMap fun a => a.2.1 ++ a.2.2)))
            rw [List.nil_append, ← List.append_assoc]
            exact List.Perm.append_right _ List.perm_append_comm
  | L =>
    obtain ⟨hne, hlast⟩ : ∃ hne : ps ≠ [], ps.getLast hne = (ns.length : Int) - 1 := h.last
    have ht : Fo ns g (ps ++ (bs ++ lv.flatMap fun a => a.2.1 ++ a.2.2)) := by simpa [rootsE, headE] using h.tree
    obtain ⟨k1, k2, k3⟩ := chn_fo 2 (.inl rfl) ht hne hlast
    change stepEL t _ = _ at hs
    simp only [stepEL] at hs
    split at hs
    · cases lv with
      | nil => cases hs
      | cons a lv => cases hs
    · split at hs
      · injection hs with hs
        subst hs
        refine ⟨?_, fun q h1 h2 => by have := h.grp q h1 h2; simp only [opensE, branE] at this ⊢; rw [k3]; exact this, h.opn, h.nine, h.clg, rfl⟩
        refine k1.perm ?_
        simp only [rootsE, headE, branE, List.nil_append]
        rw [← List.cons_append]
        exact List.Perm.append_right _ (List.perm_append_comm (l₁ := [(chn 2 ns ps).1]))
      · cases lv with
        | nil => exact InvE.atom h (.inr rfl) hs
        | cons a lv =>
          obtain ⟨q, p, b⟩ := a
          simp only at hs
          split at hs
          · injection hs with hs
            subst hs
            have ht2 : Fo (chn 2 ns ps).2 g ((bs ++ [(chn 2 ns ps).1]) ++ ((p ++ b) ++ lv.flatMap fun a => a.2.1 ++ a.2.2)) := by
              refine k1.perm ?_
              simp only [List.flatMap_cons]
              rw [← List.cons_append]
              exact List.Perm.append_right _ (List.perm_append_comm (l₁ := [(chn 2 ns ps).1]))
            obtain ⟨m1, m2, m3⟩ := chn_fo 3 (.inr rfl) ht2 (by simp) (by simpa using k2)
            have hqg := h.opn (q : Int) (by simp [opensE])
            simp only at hqg
            generalize hA : altsE ⟨.L, i, ns, g, cl, ps, bs, (q, p, b) :: lv⟩ = X
            have hA' : chn 3 (chn 2 ns ps).2 (bs ++ [(chn 2 ns ps).1]) = X := hA
            rw [hA'] at m1 m2 m3
            have hxo := m1.ok _ (List.mem_cons_self)
            have hq1 : 1 ≤ q := by omega
            have hq2 : q ≤ g := by omega
            refine ⟨?_, fun z h1 h2 => ?_, fun z hz => h.opn z (by simp only [opensE, List.map_cons, List.mem_cons] at hz ⊢; exact .inr hz), h.nine, fun z hz => ?_, by simp⟩
            · have := Fo.node (nd := groupN (q : Int) X.1) (P := [X.1]) m1 rfl (fits_group hxo (by omega) (by omega))
              simpa [rootsE, headE, List.append_assoc] using this
            · rw [grpsN_snoc, m3, k3]
              have := h.grp z h1 h2
              simp only [opensE, List.map_cons] at this ⊢
              rw [cntI_cons] at this
              have e5 : (groupN (q : Int) X.1).kind = 5 := rfl
              have eg : (groupN (q : Int) X.1).grp = (q : Int) := rfl
              rw [e5, eg]
              by_cases hz : (q : Int) = (z : Int)
              · rw [if_pos hz] at this
                rw [if_pos ⟨rfl, hz⟩]; omega
              · rw [if_neg hz] at this
                rw [if_neg (fun e => hz e.2)]; omega
            · simp only [setQ] at hz
              split at hz
              · rename_i e
                subst e
                exact ⟨hq1, hq2⟩
              · exact h.clg z hz
          · exact InvE.atom h (.inr rfl) hs
theorem StepsE.inv {t : List UInt8} {c c' : Ce} (hs : StepsE t c c') (h : InvE c) : InvE c' := by
  induction hs with
  | refl => exact h
  | head h1 _ ih => exact ih (stepE_inv h h1)
/-- Where nothing is open what was put is right, and its last node is the whole. -/
theorem InvE.right {i : Nat} {ns : List Nod} {g : Nat} {cl : Nat → Bool} {ps bs : List Int} {x : Int} {ns' : List Nod} (h : InvE ⟨.L, i, ns, g, cl, ps, bs, []⟩) (hc : altsE ⟨.L, i, ns, g, cl, ps, bs, []⟩ = (x, ns')) (hlen : ns'.length ≤ 1000) : rightN ns' (g : Int) = true ∧ x = (ns'.length : Int) - 1 ∧ 1 ≤ ns'.length ∧ g ≤ 9 := by
  obtain ⟨hne, hlast⟩ : ∃ hne : ps ≠ [], ps.getLast hne = (ns.length : Int) - 1 := h.last
  have ht : Fo ns g (ps ++ (bs ++ [])) := by simpa [rootsE, headE] using h.tree
  obtain ⟨k1, k2, k3⟩ := chn_fo 2 (.inl rfl) ht hne hlast
  have ht2 : Fo (chn 2 ns ps).2 g ((bs ++ [(chn 2 ns ps).1]) ++ []) := by
    refine k1.perm ?_
    rw [← List.cons_append]
    exact List.Perm.append_right _ (List.perm_append_comm (l₁ := [(chn 2 ns ps).1]))
  obtain ⟨m1, m2, m3⟩ := chn_fo 3 (.inr rfl) ht2 (by simp) (by simpa using k2)
  have hc' : chn 3 (chn 2 ns ps).2 (bs ++ [(chn 2 ns ps).1]) = (x, ns') := hc
  rw [hc'] at m1 m2 m3
  simp only at m1 m2 m3
  have hxo := m1.ok x (by simp)
  rw [okP_iff] at hxo
  have h9 : g ≤ 9 := h.nine
  have h1 : 1 ≤ ns'.length := by omega
  refine ⟨?_, m2, h1, h9⟩
  rw [rightN_end ⟨h1, hlen, by omega, by omega⟩ m1.fit]
  rw [onceL_yes, onceL_yes]
  · rfl
  · intro k hk
    rw [List.length_map, List.length_range, Int.toNat_natCast] at hk
    rw [List.getElem_map, List.getElem_range, m3, k3]
    have := h.grp (k + 1) (by omega) (by simp only; omega)
    simpa [opensE, cntI] using this
  · intro k hk
    rw [List.length_map, List.length_range] at hk
    rw [List.getElem_map, List.getElem_range]
    have := m1.use k (by omega)
    rw [cntI_cons, if_neg (by omega)] at this
    simpa [cntI] using this
end Go.Proofs.Ytnfbgpjadnlgbab
