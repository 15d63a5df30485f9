/- Tables of files, as lists: what the document says of them. Nothing here speaks of a program. -/
import Derived.Test.YtkdhfjnfdcopdaaWords
namespace Go.Proofs.Ytkdhfjnfdcopdaa
open Go.RowKit

/-- A file: its name, and its bytes. -/
abbrev Fil := ByteArray × List UInt8
/-- Where the file of that name stands. -/
def posN : List Fil → ByteArray → Option Nat
  | [], _ => none
  | f :: r, nm => if f.1 = nm then some 0 else (posN r nm).map (· + 1)
def posI (fs : List Fil) (nm : ByteArray) : Int := match posN fs nm with | none => -1 | some k => (k : Int)
def okChar (c : UInt8) : Bool := decide (33 ≤ c.toNat) && decide (c.toNat ≤ 126)
def isNm (nm : ByteArray) : Bool := decide (1 ≤ nm.size) && decide (nm.size ≤ 64) && nm.data.toList.all okChar
def getF (fs : List Fil) (nm : ByteArray) : List UInt8 := match posN fs nm with | none => [] | some k => (fs[k]?.getD (nm, [])).2
def lenF (fs : List Fil) (nm : ByteArray) : Int := match posN fs nm with | none => -1 | some _ => ((getF fs nm).length : Int)
/-- Why nothing can be written to that name. -/
def refuse (fs : List Fil) (nm : ByteArray) (fits : Bool) : Int :=
  if isNm nm = false then 4 else if fits = false then 8 else if posN fs nm = none ∧ 16 ≤ fs.length then 7 else 0
def setF (fs : List Fil) (nm : ByteArray) (b : List UInt8) : List Fil := match posN fs nm with | none => fs ++ [(nm, b)] | some k => fs.set k (nm, b)
def putF (fs : List Fil) (nm : ByteArray) (b : List UInt8) : List Fil × Int :=
  let e := refuse fs nm (decide (b.length ≤ 65536))
  if e = 0 then (setF fs nm b, 0) else (fs, e)
def addF (fs : List Fil) (nm : ByteArray) (b : List UInt8) : List Fil × Int := putF fs nm (getF fs nm ++ b)
def cutF (fs : List Fil) (nm : ByteArray) (n : Int) : List Fil × Int :=
  match posN fs nm with
  | none => (fs, 6)
  | some _ => if n < 0 ∨ ((getF fs nm).length : Int) < n then (fs, 3) else (setF fs nm ((getF fs nm).take n.toNat), 0)
def newGo : List Fil → List Fil → List Fil × Int
  | out, [] => (out, 0)
  | out, f :: r => if (posN out f.1).isSome then ([], 5) else if (putF out f.1 f.2).2 = 0 then newGo (putF out f.1 f.2).1 r else ([], (putF out f.1 f.2).2)
def newF (fs : List Fil) : List Fil × Int := if 16 < fs.length then ([], 7) else newGo [] fs
/-- What holds of every table. -/
def OkF (fs : List Fil) : Prop := fs.length ≤ 16 ∧ ∀ f ∈ fs, isNm f.1 = true ∧ f.2.length ≤ 65536

theorem posN_lt {fs : List Fil} {nm : ByteArray} {k : Nat} (h : posN fs nm = some k) : ∃ hk : k < fs.length, (fs[k]'hk).1 = nm := by
  induction fs generalizing k with
  | nil => cases h
  | cons f r ih =>
    unfold posN at h
    split at h
    · next e => injection h with h; subst h; exact ⟨by simp, e⟩
    · cases hr : posN r nm with
      | none => rw [hr] at h; cases h
      | some j =>
        rw [hr] at h
        injection h with h
        subst h
        obtain ⟨hj, e⟩ := ih hr
        exact ⟨by simp only [List.length_cons]; omega, by simpa using e⟩
theorem posN_none {fs : List Fil} {nm : ByteArray} (h : posN fs nm = none) : ∀ f ∈ fs, f.1 ≠ nm := by
  induction fs with
  | nil => intro f hf; cases hf
  | cons f r ih =>
    unfold posN at h
    split at h
    · cases h
    · next e =>
      intro x hx
      rcases List.mem_cons.1 hx with rfl | hx
      · exact e
      · refine ih ?_ x hx
        cases hr : posN r nm with
        | none => rfl
        | some j => rw [hr] at h; cases h
theorem posN_none_iff {fs : List Fil} {nm : ByteArray} : posN fs nm = none ↔ ∀ f ∈ fs, f.1 ≠ nm := by
  refine ⟨posN_none, fun h => ?_⟩
  cases hp : posN fs nm with
  | none => rfl
  | some k => obtain ⟨hk, e⟩ := posN_lt hp; exact absurd e (h _ (List.getElem_mem hk))
/-- The first of that name. -/
theorem posN_first {fs : List Fil} {nm : ByteArray} {k : Nat} (hk : k < fs.length) (he : (fs[k]'hk).1 = nm) (hf : ∀ j (hj : j < fs.length), j < k → (fs[j]'hj).1 ≠ nm) : posN fs nm = some k := by
  induction fs generalizing k with
  | nil => simp at hk
  | cons f r ih =>
    unfold posN
    cases k with
    | zero => rw [if_pos (by simpa using he)]
    | succ k =>
      rw [if_neg (show f.1 ≠ nm from hf 0 (by simp) (by omega)), ih (k := k) (by simpa using hk) (by simpa using he) (fun j hj hl => by
        have := hf (j + 1) (by simp only [List.length_cons]; omega) (by omega); simpa using this)]
      rfl
theorem posN_all_ne {fs : List Fil} {nm : ByteArray} (hf : ∀ j (hj : j < fs.length), (fs[j]'hj).1 ≠ nm) : posN fs nm = none :=
  posN_none_iff.2 fun f hm => by obtain ⟨j, hj, rfl⟩ := List.mem_iff_getElem.1 hm; exact hf j hj
theorem posN_set {fs : List Fil} {nm : ByteArray} {k : Nat} (h : posN fs nm = some k) (b : List UInt8) : posN (fs.set k (nm, b)) nm = some k := by
  induction fs generalizing k with
  | nil => cases h
  | cons f r ih =>
    unfold posN at h
    split at h
    · next e => injection h with h; subst h; simp [posN]
    · next e =>
      cases hr : posN r nm with
      | none => rw [hr] at h; cases h
      | some j =>
        rw [hr] at h
        injection h with h
        subst h
        rw [List.set_cons_succ, posN, if_neg e, ih hr]
        rfl
theorem posN_snoc {fs : List Fil} {nm : ByteArray} (h : posN fs nm = none) (b : List UInt8) : posN (fs ++ [(nm, b)]) nm = some fs.length := by
  refine posN_first (by simp) (by simp) fun j hj hl => ?_
  rw [List.getElem_append_left hl]
  exact posN_none h _ (List.getElem_mem hl)
theorem posN_setF (fs : List Fil) (nm : ByteArray) (b : List UInt8) : ∃ k, posN (setF fs nm b) nm = some k ∧ (setF fs nm b)[k]? = some (nm, b) := by
  unfold setF
  cases hp : posN fs nm with
  | none => exact ⟨_, posN_snoc hp b, by simp⟩
  | some k => obtain ⟨hk, _⟩ := posN_lt hp; exact ⟨_, posN_set hp b, by simp [hk]⟩
theorem getF_setF (fs : List Fil) (nm : ByteArray) (b : List UInt8) : getF (setF fs nm b) nm = b := by
  obtain ⟨k, h1, h2⟩ := posN_setF fs nm b
  simp [getF, h1, h2]
theorem setF_setF (fs : List Fil) (nm : ByteArray) (b c : List UInt8) : setF (setF fs nm b) nm c = setF fs nm c := by
  unfold setF
  cases hp : posN fs nm with
  | none => simp only [posN_snoc hp b]; simp
  | some k => simp only [posN_set hp b]; simp
theorem setF_same {fs : List Fil} {nm : ByteArray} {k : Nat} (h : posN fs nm = some k) : setF fs nm (getF fs nm) = fs := by
  obtain ⟨hk, e⟩ := posN_lt h
  simp only [setF, getF, h, List.getElem?_eq_getElem hk, Option.getD_some]
  refine List.ext_getElem (by simp) fun i h1 h2 => ?_
  rw [List.getElem_set]
  split
  · next e2 => subst e2; exact Prod.ext e.symm rfl
  · rfl
theorem getF_some {fs : List Fil} {nm : ByteArray} {k : Nat} (h : posN fs nm = some k) (hk : k < fs.length) : getF fs nm = (fs[k]'hk).2 := by
  simp [getF, h, List.getElem?_eq_getElem hk]
theorem getF_none {fs : List Fil} {nm : ByteArray} (h : posN fs nm = none) : getF fs nm = [] := by simp [getF, h]
theorem getF_le {fs : List Fil} (h : OkF fs) (nm : ByteArray) : (getF fs nm).length ≤ 65536 := by
  cases hp : posN fs nm with
  | none => rw [getF_none hp]; simp
  | some k => obtain ⟨hk, _⟩ := posN_lt hp; rw [getF_some hp hk]; exact (h.2 _ (List.getElem_mem hk)).2
theorem name_ok {fs : List Fil} (h : OkF fs) {nm : ByteArray} {k : Nat} (hp : posN fs nm = some k) : isNm nm = true := by
  obtain ⟨hk, e⟩ := posN_lt hp
  rw [← e]; exact (h.2 _ (List.getElem_mem hk)).1
theorem refuse_zero {fs : List Fil} {nm : ByteArray} {fits : Bool} (h : refuse fs nm fits = 0) : isNm nm = true ∧ fits = true ∧ (posN fs nm = none → fs.length < 16) := by
  unfold refuse at h
  split at h
  · omega
  · next h1 =>
    split at h
    · omega
    · next h2 =>
      split at h
      · omega
      · next h3 => exact ⟨by simpa using h1, by simpa using h2, fun hp => Nat.lt_of_not_le fun hl => h3 ⟨hp, hl⟩⟩
theorem refuse_of {fs : List Fil} {nm : ByteArray} {fits : Bool} (h1 : isNm nm = true) (h2 : fits = true) (h3 : posN fs nm = none → fs.length < 16) : refuse fs nm fits = 0 := by
  unfold refuse
  rw [if_neg (by simp [h1]), if_neg (by simp [h2]), if_neg (fun h => absurd (h3 h.1) (Nat.not_lt_of_le h.2))]
theorem refuse_ge (fs : List Fil) (nm : ByteArray) (fits : Bool) : refuse fs nm fits = 0 ∨ refuse fs nm fits = 4 ∨ refuse fs nm fits = 7 ∨ refuse fs nm fits = 8 := by
  unfold refuse
  split
  · simp
  · split
    · simp
    · split <;> simp
theorem setF_ok {fs : List Fil} (h : OkF fs) {nm : ByteArray} {b : List UInt8} (h1 : isNm nm = true) (h2 : b.length ≤ 65536) (h3 : posN fs nm = none → fs.length < 16) : OkF (setF fs nm b) := by
  unfold setF
  cases hp : posN fs nm with
  | none =>
    refine ⟨by have := h3 hp; simp; omega, fun f hf => ?_⟩
    rcases List.mem_append.1 hf with hf | hf
    · exact h.2 f hf
    · obtain rfl : f = (nm, b) := by simpa using hf
      exact ⟨h1, h2⟩
  | some k =>
    refine ⟨by simpa using h.1, fun f hf => ?_⟩
    rcases List.mem_or_eq_of_mem_set hf with hf | rfl
    · exact h.2 f hf
    · exact ⟨h1, h2⟩
theorem putF_ok {fs : List Fil} (h : OkF fs) (nm : ByteArray) (b : List UInt8) : OkF (putF fs nm b).1 := by
  unfold putF
  simp only
  split
  · next e => obtain ⟨h1, h2, h3⟩ := refuse_zero e; exact setF_ok h h1 (by simpa using h2) h3
  · exact h
theorem cutF_ok {fs : List Fil} (h : OkF fs) (nm : ByteArray) (n : Int) : OkF (cutF fs nm n).1 := by
  unfold cutF
  cases hp : posN fs nm with
  | none => exact h
  | some k =>
    simp only
    split
    · exact h
    · refine setF_ok h (name_ok h hp) ?_ (fun e => by rw [hp] at e; cases e)
      have := getF_le h nm
      rw [List.length_take]; omega
/-- The reference cuts by putting. -/
theorem cutF_put {fs : List Fil} (h : OkF fs) {nm : ByteArray} {n : Nat} {k : Nat} (hp : posN fs nm = some k) (hn : n ≤ (getF fs nm).length) : putF fs nm ((getF fs nm).take n) = cutF fs nm (n : Int) := by
  have hl := getF_le h nm
  have e : refuse fs nm (decide (((getF fs nm).take n).length ≤ 65536)) = 0 := refuse_of (name_ok h hp) (by rw [List.length_take]; simp; omega) (fun e => by rw [hp] at e; cases e)
  unfold putF cutF
  simp only [e, hp]
  rw [if_pos trivial, if_neg (by omega), Int.toNat_natCast]
theorem ok_nil : OkF [] := ⟨by simp, fun _ h => by cases h⟩
theorem newGo_ok : ∀ (fs out : List Fil), OkF out → OkF (newGo out fs).1
  | [], out, h => h
  | f :: r, out, h => by
    unfold newGo
    split
    · exact ok_nil
    · split
      · exact newGo_ok r _ (putF_ok h _ _)
      · exact ok_nil
theorem newF_ok (fs : List Fil) : OkF (newF fs).1 := by
  unfold newF
  split
  · exact ok_nil
  · exact newGo_ok fs [] ok_nil
theorem newGo_zero : ∀ (fs out : List Fil), (newGo out fs).2 = 0 → (newGo out fs).1 = out ++ fs
  | [], out, _ => by simp [newGo]
  | f :: r, out, h => by
    unfold newGo at h ⊢
    split at h
    · simp at h
    · next hp =>
      rw [if_neg hp]
      split at h
      · next e =>
        rw [if_pos e, newGo_zero r _ h]
        have hp : posN out f.1 = none := by simpa using hp
        have : (putF out f.1 f.2).1 = out ++ [f] := by
          unfold putF at e ⊢
          simp only at e ⊢
          split
          · simp [setF, hp]
          · next hr => rw [if_neg hr] at e; exact absurd e hr
        rw [this]; simp
      · next e => exact absurd h e
theorem newF_zero {fs : List Fil} (h : (newF fs).2 = 0) : (newF fs).1 = fs := by
  unfold newF at h ⊢
  split at h
  · simp at h
  · next hl => rw [if_neg hl, newGo_zero fs [] h]; simp
theorem posI_neg {fs : List Fil} {nm : ByteArray} (h : posN fs nm = none) : posI fs nm = -1 := by simp [posI, h]
theorem posI_some {fs : List Fil} {nm : ByteArray} {k : Nat} (h : posN fs nm = some k) : posI fs nm = (k : Int) := by simp [posI, h]
end Go.Proofs.Ytkdhfjnfdcopdaa
