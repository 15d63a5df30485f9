/- What a builder's call and Put behind it leave; what is left to read. Contracts of the parser of basic texts: dollar, atom, given those of branch. -/
import Derived.Test.YtnfbgpjadnlgbaaM36
import Derived.Deep.RegionWith
import Derived.Test.YtnfbgpjadnlgbaaM37
set_option linter.unusedVariables false
set_option maxRecDepth 100000
namespace Go.Proofs.Ytnfbgpjadnlgbaa
open Go.RowKit

section
variable {w : World} {B T : Nat} {A : Option Addr} {n c : Nat} {l : List UInt8} {v : Value} {ns : List Nod} {g i : Nat} {cl : Nat → Bool} {e : Nat}
/-- A builder's call, and Put. -/
theorem put_of (h : Psr w B T A n c l v ns g i cl 0) {nd : Nod} (hf : fitsN nd (ns.length : Int) (g : Int) = true) {x : Ending} {w2 : World} (hx : BldRet w B T 0 v (putI ns g nd) (putL ns g nd) g x w2) :
    ∃ z, x = .returned (.int .i64 z) ∧ Calls Try.prog 24 #[.pointer (some ⟨T, 0, none⟩), .int .i64 z] w2 (YPut w B T A n c l v ns g cl i nd) := by
  by_cases hl : ns.length < 1000
  · obtain ⟨v2, rfl, h2, k2⟩ := h.room hl hf hx
    exact ⟨_, rfl, (put_yes T ns.length _).mono fun e w3 ⟨e1, e2⟩ => by subst e1; subst e2; exact YPut.yes hl h2 k2⟩
  · obtain ⟨v2, rfl, h2, k2⟩ := h.full hl hx
    exact ⟨_, rfl, (put_no h2).mono fun e w3 ⟨e1, h3, k3⟩ => by subst e1; exact YPut.no hl h3 (k2.trans k3)⟩
theorem YPut.size {w' : World} {j : Nat} {nd : Nod} {x : Ending} (h : YPut w B T A n c l v ns g cl j nd x w') : w.heap.size ≤ w'.heap.size := by
  rcases h with ⟨_, v', _, _, k⟩ | ⟨_, v', _, _, k⟩
  · exact k.size
  · exact k.size
/-- What is left, by the parser's own cells. -/
def leftP (n T : Nat) (w : World) : Nat :=
  match w.cell? ⟨T, 14, none⟩, w.cell? ⟨T, 3, none⟩ with
  | some (.int _ 0), some (.int _ i) => n + 1 - i.toNat
  | _, _ => 0
theorem Psr.left (h : Psr w B T A n c l v ns g i cl 0) : leftP n T w = n + 1 - i := by
  unfold leftP; rw [h.c14, h.c3]; simp
theorem Psr.left0 (h : Psr w B T A n c l v ns g i cl e) (he : e ≠ 0) : leftP n T w = 0 := by
  unfold leftP; rw [h.c14, h.c3]
  split
  · rename_i h1 _
    simp at h1; omega
  · rfl
end
theorem Pcs.keptBy {W : Nat} {w w' : World} {pv : Value} {ps : List Int} {o : Option Nat} (h : Pcs W w pv ps) (hg : w.grownBy w' o) (ho : ∀ k, pv.ownBlock = some k → o ≠ some k) : Pcs W w' pv ps := by
  refine ⟨h.own.kept hg ?_, Nat.le_trans h.base hg.size⟩
  cases hv : pv.ownBlock with
  | none => exact .inl rfl
  | some k => exact .inr fun e => ho k hv e.symm
theorem Pcs.below_of {W : Nat} {w : World} {pv : Value} {ps : List Int} (h : Pcs W w pv ps) : ∀ k, pv.ownBlock = some k → k < w.heap.size := fun k e => (h.own.lt k e).2
theorem Pcs.sl {w : World} {W : Nat} {ps : List Int} {pv : Value} (h : Pcs W w pv ps) : ∃ A m k, pv = Value.slice A m k := by
  obtain ⟨a, b, e, -⟩ := h.slice
  exact ⟨a, _, b, e⟩

section
variable {w : World} {B T : Nat} {A : Option Addr} {n c : Nat} {l : List UInt8} {v : Value} {ns : List Nod} {g i : Nat} {cl : Nat → Bool} (h : Psr w B T A n c l v ns g i cl 0)
include h
theorem comes_is (s : ByteArray) (r : Bool) (hr : bg s.data.toList (l.drop i) = r) : Calls Try.prog 26 #[.pointer (some ⟨T, 0, none⟩), .string s] w fun e w' => e = .returned (.bool r) ∧ Below w.heap.size w w' := by
  have := comes_any h s
  rwa [hr] at this
end
/-- Take, whether it stands there or not. -/
theorem take_any {w : World} {B T : Nat} {A : Option Addr} {n c : Nat} {l : List UInt8} {v : Value} {ns : List Nod} {g i : Nat} {cl : Nat → Bool} {e : Nat} (h : Psr w B T A n c l v ns g i cl e) (s : ByteArray) (r : Bool) (hs : bg s.data.toList (l.drop i) = r) (m : Nat) (hm : s.size = m) (h0 : 0 < m) :
    Calls Try.prog 23 #[.pointer (some ⟨T, 0, none⟩), .string s] w fun x w' => x = .returned (.bool r) ∧ (r = true → i + m ≤ n) ∧ Psr w' B T A n c l v ns g (if r then i + m else i) cl e ∧ ChP w w' T v v := by
  cases r with
  | true => exact (take_yes h s hs m hm h0).mono fun x w' ⟨h1, h2, h3, h4⟩ => ⟨h1, fun _ => h2, h3, h4⟩
  | false => exact (take_no h s hs).mono fun x w' ⟨h1, h2⟩ => ⟨h1, fun e => (by cases e), h.keep h2, ChP.of_below h2⟩
theorem one_bad {t : List UInt8} {i q : Nat} (hi : i < t.length) (h : oneA t i = .bad q) : q ≠ 0 := by
  rw [one_at (List.drop_eq_getElem_cons hi)] at h
  simp only [oneR] at h
  split at h
  · cases h
  · split at h
    · unfold brkA at h
      split at h
      · rename_i hv
        simp only [Am.bad.injEq] at h
        have := readB_wrong hv
        omega
      · cases h
    · split at h
      · unfold escE at h
        repeat' split at h
        all_goals first
          | (simp only [Am.bad.injEq] at h; omega)
          | cases h
      · cases h
theorem one_nod {t : List UInt8} {i j : Nat} {nd : Nod} (hi : i < t.length) (h : oneA t i = .nod j nd) : i < j := by
  rw [one_at (List.drop_eq_getElem_cons hi)] at h
  simp only [oneR] at h
  split at h
  · simp only [Am.nod.injEq] at h; omega
  · split at h
    · unfold brkA at h
      split at h
      · cases h
      · rename_i hv
        simp only [Am.nod.injEq] at h
        have := readB_size (by omega) hv
        omega
    · split at h
      · unfold escE at h
        repeat' split at h
        all_goals first
          | (simp only [Am.nod.injEq] at h; omega)
          | cases h
      · simp only [Am.nod.injEq] at h; omega
end Go.Proofs.Ytnfbgpjadnlgbaa

set_option linter.unusedVariables false
set_option maxRecDepth 100000
namespace Go.Proofs.Ytnfbgpjadnlgbaa
open Go.RowKit

section
variable {w : World} {B T : Nat} {A : Option Addr} {n c : Nat} {l : List UInt8} {v : Value} {ns : List Nod} {g i : Nat} {cl : Nat → Bool} (h : Psr w B T A n c l v ns g i cl 0)
include h
set_option maxHeartbeats 8000000 in
/-- Where a $ is the end of a line. -/
theorem dollar_eol (hr : i = n ∨ bg [92, 41] (l.drop i) = true) : Calls Try.prog 50 #[.pointer (some ⟨T, 0, none⟩)] w (YPut w B T A n c l v ns g cl i eolN) := by
  have hEn := Lib.hid (ends_any h)
  have hP := Lib.hid (fun w1 (hb : Below w.heap.size w w1) => h.keep hb)
  have hE := Lib.hid (fun w1 (hb : Below w.heap.size w w1) => eol_any B T 0 v ns g w1 (h.keep hb).bldr)
  have hW : Hid (∀ w1, Below w.heap.size w w1 → ∀ x w2, BldRet w1 B T 0 v (putI ns g eolN) (putL ns g eolN) g x w2 → ∃ z, x = .returned (.int .i64 z) ∧ Calls Try.prog 24 #[.pointer (some ⟨T, 0, none⟩), .int .i64 z] w2 (YPut w B T A n c l v ns g cl i eolN)) := by
    refine Lib.hid fun w1 hb x w2 hx => ?_
    by_cases hl : ns.length < 1000
    · obtain ⟨v2, rfl, h2, k2⟩ := (h.keep hb).room hl (fits_plain 8 (.inr (.inr rfl)) _ _) hx
      exact ⟨_, rfl, (put_yes T ns.length _).mono fun e w3 ⟨e1, e2⟩ => by subst e1; subst e2; exact YPut.yes hl h2 ((ChP.of_below hb).trans k2)⟩
    · obtain ⟨v2, rfl, h2, k2⟩ := (h.keep hb).full hl hx
      exact ⟨_, rfl, (put_no h2).mono fun e w3 ⟨e1, h3, k3⟩ => by subst e1; exact YPut.no hl h3 (((ChP.of_below hb).trans k2).trans k3)⟩
  by_cases hi : i = n
  · rw [decide_eq_true hi] at hEn
    clear h hr hi
    go_enter Try.func50, Try.ntmps50
    go_wp2_with (first
      | (go_at_call 18; refine (hEn.out).mono ?_; rintro y w3 ⟨rfl, hb3⟩; have hbd := Lib.hid hb3.drew; replace hb3 := Lib.hid hb3)
      | (go_region_with (first
          | (go_at_call 55; refine (hE.out _ hbd.out).mono ?_; intro x w7 hx0; obtain ⟨z, rfl, hx⟩ := hW.out _ hbd.out _ _ hx0; clear hx0; replace hx := Lib.hid hx)
          | (go_at_call 24; refine (hx.out).mono ?_; intro x w8 hy; obtain ⟨z, rfl, hy⟩ := hy.ret; replace hy := Lib.hid hy))))
    all_goals
      go_ret
      exact hy.out
  · rw [decide_eq_false hi] at hEn
    have hCm := Lib.hid (fun w3 (hb : Below w.heap.size w w3) => comes_is (h.keep hb) ⟨#[92, 41]⟩ true (hr.resolve_left hi))
    clear h hr hi
    go_enter Try.func50, Try.ntmps50
    go_wp2_with (first
      | (go_at_call 18; refine (hEn.out).mono ?_; rintro y w3 ⟨rfl, hb3⟩; have hbd := Lib.hid hb3.drew; replace hb3 := Lib.hid hb3)
      | (go_at_call 26; refine (hCm.out _ hb3.out).mono ?_; rintro y w4 ⟨rfl, hb4⟩; replace hb4 := hb3.out.trans (hb4.mono hb3.out.size); have hbd := Lib.hid hb4.drew; replace hb4 := Lib.hid hb4)
      | (go_region_with (first
          | (go_at_call 55; refine (hE.out _ hbd.out).mono ?_; intro x w7 hx0; obtain ⟨z, rfl, hx⟩ := hW.out _ hbd.out _ _ hx0; clear hx0; replace hx := Lib.hid hx)
          | (go_at_call 24; refine (hx.out).mono ?_; intro x w8 hy; obtain ⟨z, rfl, hy⟩ := hy.ret; replace hy := Lib.hid hy))))
    all_goals
      go_ret
      exact hy.out
set_option maxHeartbeats 8000000 in
/-- Where a $ is a byte. -/
theorem dollar_byte (hi : i ≠ n) (hr : bg [92, 41] (l.drop i) = false) : Calls Try.prog 50 #[.pointer (some ⟨T, 0, none⟩)] w (YPut w B T A n c l v ns g cl i (setN (oneF 36))) := by
  have hEn := Lib.hid (ends_any h)
  have hE := Lib.hid (fun w1 (hb : Below w.heap.size w w1) => set_any B T 0 v ns g w1 (h.keep hb).bldr (oneF 36))
  unfold setV at hE
  have hW : Hid (∀ w1, Below w.heap.size w w1 → ∀ x w2, BldRet w1 B T 0 v (putI ns g (setN (oneF 36))) (putL ns g (setN (oneF 36))) g x w2 → ∃ z, x = .returned (.int .i64 z) ∧ Calls Try.prog 24 #[.pointer (some ⟨T, 0, none⟩), .int .i64 z] w2 (YPut w B T A n c l v ns g cl i (setN (oneF 36)))) := by
    refine Lib.hid fun w1 hb x w2 hx => ?_
    by_cases hl : ns.length < 1000
    · obtain ⟨v2, rfl, h2, k2⟩ := (h.keep hb).room hl (fits_set _ _ _) hx
      exact ⟨_, rfl, (put_yes T ns.length _).mono fun e w3 ⟨e1, e2⟩ => by subst e1; subst e2; exact YPut.yes hl h2 ((ChP.of_below hb).trans k2)⟩
    · obtain ⟨v2, rfl, h2, k2⟩ := (h.keep hb).full hl hx
      exact ⟨_, rfl, (put_no h2).mono fun e w3 ⟨e1, h3, k3⟩ => by subst e1; exact YPut.no hl h3 (((ChP.of_below hb).trans k2).trans k3)⟩
  have hO : Hid (∀ w : World, Calls Try.prog 64 #[.slice (some ⟨w.heap.size, 0, none⟩) 1 1] (w.alloc (.cells #[.int .u8 36] 5)) fun e w' => e = .returned (.agg (setC (oneF 36))) ∧ Below w.heap.size w w') := Lib.hid (fun w => of_one w 36)
  rw [decide_eq_false hi] at hEn
  have hCm := Lib.hid (fun w3 (hb : Below w.heap.size w w3) => comes_is (h.keep hb) ⟨#[92, 41]⟩ false hr)
  clear h hr hi
  rw [setC_lit (oneF 36)] at hE hO
  generalize wd (oneF 36) 0 = s0 at *
  generalize wd (oneF 36) 1 = s1 at *
  generalize wd (oneF 36) 2 = s2 at *
  generalize wd (oneF 36) 3 = s3 at *
  go_enter Try.func50, Try.ntmps50
  go_wp2_with (first
    | (go_at_call 18; refine (hEn.out).mono ?_; rintro y w3 ⟨rfl, hb3⟩; have hbd := Lib.hid hb3.drew; replace hb3 := Lib.hid hb3)
    | (go_at_call 26; refine (hCm.out _ hb3.out).mono ?_; rintro y w4 ⟨rfl, hb4⟩; replace hb4 := hb3.out.trans (hb4.mono hb3.out.size); have hbd := Lib.hid hb4.drew; replace hb4 := Lib.hid hb4)
    | (go_region_with (first
        | (go_at_call 64; refine (hO.out w4.drew).mono ?_; rintro z w5 ⟨rfl, hb5⟩; replace hbd := Lib.hid (hbd.out.trans (hb5.mono hbd.out.size)))
        | (go_at_call 63; refine (hE.out _ hbd.out).mono ?_; intro x w7 hx0; obtain ⟨z, rfl, hx⟩ := hW.out _ hbd.out _ _ hx0; clear hx0; replace hx := Lib.hid hx)
        | (go_at_call 24; refine (hx.out).mono ?_; intro x w8 hy; obtain ⟨z, rfl, hy⟩ := hy.ret; replace hy := Lib.hid hy))))
  all_goals
    go_ret
    exact hy.out
end
end Go.Proofs.Ytnfbgpjadnlgbaa
