/- What a builder's call and Put behind it leave; what is left to read. -/
import Derived.Test.YtnfbgpjadnlgbabM43
import Derived.Deep.RegionWith
set_option linter.unusedVariables false
set_option maxRecDepth 100000
namespace Go.Proofs.Ytnfbgpjadnlgbab
open Go.RowKit

section
variable {w : World} {B T : Nat} {A : Option Addr} {n c : Nat} {l : List UInt8} {v : Value} {ns : List Nod} {g i : Nat} {cl : Nat → Bool} {e : Nat}
/-- A builder's call, and Put. -/
theorem put_of (h : Psr w B T A n c l v ns g i cl 0) {nd : Nod} (hf : fitsN nd (ns.length : Int) (g : Int) = true) {x : Ending} {w2 : World} (hx : BldRet w B T 0 v (putI ns g nd) (putL ns g nd) g x w2) :
    ∃ z, x = .returned (.int .i64 z) ∧ Calls Try.prog 18 #[.pointer (some ⟨T, 0, none⟩), .int .i64 z] w2 (YPut w B T A n c l v ns g cl i nd) := by
  by_cases hl : ns.length < 1000
  · obtain ⟨v2, rfl, h2, k2⟩ := h.room hl hf hx
    exact ⟨_, rfl, (put_yes T ns.length _).mono fun e w3 ⟨e1, e2⟩ => by subst e1; subst e2; exact YPut.yes hl h2 k2⟩
  · obtain ⟨v2, rfl, h2, k2⟩ := h.full hl hx
    exact ⟨_, rfl, (put_no h2).mono fun e w3 ⟨e1, h3, k3⟩ => by subst e1; exact YPut.no hl h3 (k2.trans k3)⟩
theorem YPut.size {w' : World} {j : Nat} {nd : Nod} {x : Ending} (h : YPut w B T A n c l v ns g cl j nd x w') : w.heap.size ≤ w'.heap.size := by
  rcases h with ⟨_, v', _, _, k⟩ | ⟨_, v', _, _, k⟩
  · exact k.size
  · exact k.size
/-- What is left, by the parser's own cells. -/
def leftP (n T : Nat) (w : World) : Nat :=
  match w.cell? ⟨T, 14, none⟩, w.cell? ⟨T, 3, none⟩ with
  | some (.int _ 0), some (.int _ i) => n + 1 - i.toNat
  | _, _ => 0
theorem Psr.left (h : Psr w B T A n c l v ns g i cl 0) : leftP n T w = n + 1 - i := by
  unfold leftP; rw [h.c14, h.c3]; simp
theorem Psr.left0 (h : Psr w B T A n c l v ns g i cl e) (he : e ≠ 0) : leftP n T w = 0 := by
  unfold leftP; rw [h.c14, h.c3]
  split
  · rename_i h1 _
    simp at h1; omega
  · rfl
end
theorem Pcs.keptBy {W : Nat} {w w' : World} {pv : Value} {ps : List Int} {o : Option Nat} (h : Pcs W w pv ps) (hg : w.grownBy w' o) (ho : ∀ k, pv.ownBlock = some k → o ≠ some k) : Pcs W w' pv ps := by
  refine ⟨h.own.kept hg ?_, Nat.le_trans h.base hg.size⟩
  cases hv : pv.ownBlock with
  | none => exact .inl rfl
  | some k => exact .inr fun e => ho k hv e.symm
theorem Pcs.below_of {W : Nat} {w : World} {pv : Value} {ps : List Int} (h : Pcs W w pv ps) : ∀ k, pv.ownBlock = some k → k < w.heap.size := fun k e => (h.own.lt k e).2
theorem Pcs.sl {w : World} {W : Nat} {ps : List Int} {pv : Value} (h : Pcs W w pv ps) : ∃ A m k, pv = Value.slice A m k := by
  obtain ⟨a, b, e, -⟩ := h.slice
  exact ⟨a, _, b, e⟩

section
variable {w : World} {B T : Nat} {A : Option Addr} {n c : Nat} {l : List UInt8} {v : Value} {ns : List Nod} {g i : Nat} {cl : Nat → Bool} (h : Psr w B T A n c l v ns g i cl 0)
include h
theorem comes_is (s : ByteArray) (r : Bool) (hr : bg s.data.toList (l.drop i) = r) : Calls Try.prog 28 #[.pointer (some ⟨T, 0, none⟩), .string s] w fun e w' => e = .returned (.bool r) ∧ Below w.heap.size w w' := by
  have := comes_any h s
  rwa [hr] at this
end
/-- Take, whether it stands there or not. -/
theorem take_any {w : World} {B T : Nat} {A : Option Addr} {n c : Nat} {l : List UInt8} {v : Value} {ns : List Nod} {g i : Nat} {cl : Nat → Bool} {e : Nat} (h : Psr w B T A n c l v ns g i cl e) (s : ByteArray) (r : Bool) (hs : bg s.data.toList (l.drop i) = r) (m : Nat) (hm : s.size = m) (h0 : 0 < m) :
    Calls Try.prog 17 #[.pointer (some ⟨T, 0, none⟩), .string s] w fun x w' => x = .returned (.bool r) ∧ (r = true → i + m ≤ n) ∧ Psr w' B T A n c l v ns g (if r then i + m else i) cl e ∧ ChP w w' T v v := by
  cases r with
  | true => exact (take_yes h s hs m hm h0).mono fun x w' ⟨h1, h2, h3, h4⟩ => ⟨h1, fun _ => h2, h3, h4⟩
  | false => exact (take_no h s hs).mono fun x w' ⟨h1, h2⟩ => ⟨h1, fun e => (by cases e), h.keep h2, ChP.of_below h2⟩
theorem one_bad {t : List UInt8} {i q : Nat} (hi : i < t.length) (h : oneA t i = .bad q) : q ≠ 0 := by
  rw [one_at (List.drop_eq_getElem_cons hi)] at h
  simp only [oneR] at h
  split at h
  · cases h
  · split at h
    · unfold brkA at h
      split at h
      · rename_i hv
        simp only [Am.bad.injEq] at h
        have := readB_wrong hv
        omega
      · cases h
    · split at h
      · unfold escE at h
        repeat' split at h
        all_goals first
          | (simp only [Am.bad.injEq] at h; omega)
          | cases h
      · cases h
theorem one_nod {t : List UInt8} {i j : Nat} {nd : Nod} (hi : i < t.length) (h : oneA t i = .nod j nd) : i < j := by
  rw [one_at (List.drop_eq_getElem_cons hi)] at h
  simp only [oneR] at h
  split at h
  · simp only [Am.nod.injEq] at h; omega
  · split at h
    · unfold brkA at h
      split at h
      · cases h
      · rename_i hv
        simp only [Am.nod.injEq] at h
        have := readB_size (by omega) hv
        omega
    · split at h
      · unfold escE at h
        repeat' split at h
        all_goals first
          | (simp only [Am.nod.injEq] at h; omega)
          | cases h
      · simp only [Am.nod.injEq] at h; omega
end Go.Proofs.Ytnfbgpjadnlgbab
