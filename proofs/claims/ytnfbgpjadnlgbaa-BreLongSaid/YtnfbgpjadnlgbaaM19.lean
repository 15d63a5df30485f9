/- A forest of nodes: its roots are no parts, all others are a part of just one; pieces put together. -/
import Derived.Test.YtnfbgpjadnlgbaaM18
set_option linter.unusedVariables false
set_option maxRecDepth 100000
namespace Go.Proofs.Ytnfbgpjadnlgbaa
open Go.RowKit

theorem cntI_append (l m : List Int) (i : Nat) : cntI (l ++ m) i = cntI l i + cntI m i := by
  unfold cntI; rw [List.countP_append]; omega
theorem cntI_cons (x : Int) (l : List Int) (i : Nat) : cntI (x :: l) i = (if x = (i : Int) then 1 else 0) + cntI l i := by
  unfold cntI; rw [List.countP_cons]
  by_cases h : x = (i : Int)
  · simp [h]; omega
  · simp [h]
theorem cntI_perm {l m : List Int} (h : l.Perm m) (i : Nat) : cntI l i = cntI m i := by
  unfold cntI; rw [h.countP_eq]
theorem cntI_zero {l : List Int} {i : Nat} (h : ∀ x ∈ l, x ≠ (i : Int)) : cntI l i = 0 := by
  unfold cntI
  have : l.countP (fun x => decide (x = (i : Int))) = 0 := List.countP_eq_zero.2 fun x hx => by simp [h x hx]
  omega
theorem okP_iff {t p : Int} : okP t p = true ↔ 0 ≤ p ∧ p < t := by simp [okP]
/-- A forest: its roots are no parts, all others are a part of just one. -/
structure Tree (ns : List Nod) (g : Nat) (R : List Int) : Prop where
  fit : ∀ k (hk : k < ns.length), fitsN (ns[k]'hk) (k : Int) (g : Int) = true
  ok : ∀ p ∈ R, okP (ns.length : Int) p = true
  use : ∀ j, j < ns.length → usesN ns j + cntI R j = 1
  len : ns.length ≤ 1000
theorem Tree.nil_ (g : Nat) : Tree [] g [] := ⟨fun k hk => by simp at hk, fun p h => by simp at h, fun j h => by simp at h, by simp⟩
section
variable {ns : List Nod} {g : Nat} {R R' : List Int}
theorem Tree.perm (h : Tree ns g R) (hp : R.Perm R') : Tree ns g R' := ⟨h.fit, fun p hm => h.ok p (hp.mem_iff.2 hm), fun j hj => by rw [← cntI_perm hp]; exact h.use j hj, h.len⟩
theorem Tree.more (h : Tree ns g R) {g' : Nat} (hg : g ≤ g') : Tree ns g' R := ⟨fun k hk => fitsN_more (h.fit k hk) (by omega), h.ok, h.use, h.len⟩
theorem Tree.parts (h : Tree ns g R) : ∀ p ∈ ns.flatMap partsN, okP (ns.length : Int) p = true := by
  intro p hp
  obtain ⟨nd, hn, hp⟩ := List.mem_flatMap.1 hp
  obtain ⟨k, hk, rfl⟩ := List.getElem_of_mem hn
  have := fits_part (h.fit k hk) hp
  rw [okP_iff]; omega
theorem usesN_snoc (ns : List Nod) (nd : Nod) (j : Nat) : usesN (ns ++ [nd]) j = usesN ns j + cntI (partsN nd) j := by
  unfold usesN; rw [List.flatMap_append, cntI_append]; simp
theorem Tree.node {P : List Int} (h : Tree ns g (P ++ R)) {nd : Nod} (hl : ns.length < 1000) (hP : partsN nd = P) (hf : fitsN nd (ns.length : Int) (g : Int) = true) : Tree (ns ++ [nd]) g ((ns.length : Int) :: R) := by
  refine ⟨fun k hk => ?_, fun p hp => ?_, fun j hj => ?_, by rw [List.length_append, List.length_singleton]; omega⟩
  · rw [List.length_append, List.length_singleton] at hk
    by_cases hk' : k < ns.length
    · rw [List.getElem_append_left hk']; exact h.fit k hk'
    · obtain rfl : k = ns.length := by omega
      rw [List.getElem_append_right (Nat.le_refl _)]
      simpa using hf
  · rw [List.length_append, List.length_singleton]
    rcases List.mem_cons.1 hp with rfl | hp
    · exact okP_last _
    · exact okP_more (h.ok p (by simp [hp])) (by omega)
  · rw [List.length_append, List.length_singleton] at hj
    rw [usesN_snoc, hP, cntI_cons]
    by_cases hj' : j < ns.length
    · have := h.use j hj'
      rw [cntI_append] at this
      rw [if_neg (by omega)]; omega
    · obtain rfl : j = ns.length := by omega
      have h1 : usesN ns ns.length = 0 := cntI_zero fun x hx e => by have := h.parts x hx; rw [okP_iff] at this; omega
      have h2 : cntI P ns.length = 0 := cntI_zero fun x hx e => by have := h.ok x (by simp [hx]); rw [okP_iff] at this; omega
      have h3 : cntI R ns.length = 0 := cntI_zero fun x hx e => by have := h.ok x (by simp [hx]); rw [okP_iff] at this; omega
      rw [if_pos rfl]; omega
end
/-- No group among them. -/
theorem grpsN_snoc (ns : List Nod) (nd : Nod) (q : Nat) : grpsN (ns ++ [nd]) q = grpsN ns q + (if nd.kind = 5 ∧ nd.grp = (q : Int) then 1 else 0) := by
  unfold grpsN
  rw [List.filter_append, List.map_append, cntI_append]
  by_cases hk : nd.kind = 5
  · by_cases hq : nd.grp = (q : Int)
    · simp [hk, hq, cntI]
    · simp [hk, hq, cntI]
  · simp [hk, cntI]
theorem catGo_tree (g : Nat) (R : List Int) : ∀ (ps : List Int) (x : Int) (ns : List Nod) (y : Int) (ns' : List Nod), Tree ns g (x :: ps ++ R) → (ps = [] → x = (ns.length : Int) - 1) → catGo x ns ps = some (y, ns') →
    Tree ns' g (y :: R) ∧ y = (ns'.length : Int) - 1 ∧ (∀ q, grpsN ns' q = grpsN ns q)
  | [], x, ns, y, ns', h, hl, he => by
    rw [catGo_nil] at he
    simp only [Option.some.injEq, Prod.mk.injEq] at he
    obtain ⟨rfl, rfl⟩ := he
    exact ⟨h, hl rfl, fun _ => rfl⟩
  | p :: r, x, ns, y, ns', h, hl, he => by
    rw [catGo_cons] at he
    split at he
    · rename_i hlt
      have hx := h.ok x (by simp)
      have hp := h.ok p (by simp)
      have h1 : Tree (ns ++ [twoN 2 x p]) g ((ns.length : Int) :: (r ++ R)) := Tree.node (P := [x, p]) (R := r ++ R) h hlt rfl (by rw [fits_two 2 (.inl rfl), hx, hp]; rfl)
      have := catGo_tree g R r _ _ y ns' h1 (fun _ => by rw [List.length_append, List.length_singleton]; omega) he
      refine ⟨this.1, this.2.1, fun q => ?_⟩
      rw [this.2.2 q, grpsN_snoc, if_neg (by rintro ⟨e, _⟩; simp [twoN] at e)]
      omega
    · cases he
theorem catS_tree {ns : List Nod} {g : Nat} {R ps : List Int} {y : Int} {ns' : List Nod} (h : Tree ns g (ps ++ R)) (hl : ∀ hne : ps ≠ [], ps.getLast hne = (ns.length : Int) - 1) (he : catS ns ps = some (y, ns')) :
    Tree ns' g (y :: R) ∧ y = (ns'.length : Int) - 1 ∧ (∀ q, grpsN ns' q = grpsN ns q) := by
  cases ps with
  | nil =>
    rw [catS_nil] at he
    split at he
    · rename_i hlt
      simp only [Option.some.injEq, Prod.mk.injEq] at he
      obtain ⟨rfl, rfl⟩ := he
      refine ⟨Tree.node (P := []) h hlt rfl (fits_plain 0 (.inl rfl) _ _), by rw [List.length_append, List.length_singleton]; omega, fun q => ?_⟩
      rw [grpsN_snoc, if_neg (by rintro ⟨e, _⟩; exact absurd e (by decide))]; omega
    · cases he
  | cons x r =>
    rw [catS_cons] at he
    exact catGo_tree g R r x ns y ns' h (fun e => by subst e; exact hl (by simp)) he
end Go.Proofs.Ytnfbgpjadnlgbaa
