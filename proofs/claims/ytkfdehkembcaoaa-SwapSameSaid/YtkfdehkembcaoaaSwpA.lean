/- Replacements, plainly: parts, what they expand to, what a text becomes; parts and hits in memory. -/
import Derived.Test.YtkfdehkembcaoaaApp2
import Derived.Test.YtkfdehkembcaoaaHitV
set_option linter.unusedVariables false
set_option maxRecDepth 100000
namespace Go.Proofs.Ytkfdehkembcaoaa
open Go.RowKit

/-- A part: its kind, its group, its bytes. -/
structure Prt where
  kind : Int
  grp : Int
  b : List UInt8
instance : Inhabited Prt := ⟨⟨0, 0, []⟩⟩
/-- Is a span a part of a text of n bytes? -/
def inB (s : Int × Int) (n : Nat) : Bool := decide (0 ≤ s.1) && decide (s.1 ≤ s.2) && decide (s.2 ≤ (n : Int))
theorem inB_iff {s : Int × Int} {n : Nat} : inB s n = true ↔ 0 ≤ s.1 ∧ s.1 ≤ s.2 ∧ s.2 ≤ (n : Int) := by
  unfold inB; rw [Bool.and_eq_true, Bool.and_eq_true, decide_eq_true_iff, decide_eq_true_iff, decide_eq_true_iff, and_assoc]
theorem inB_not {s : Int × Int} {n : Nat} : inB s n = false ↔ s.1 < 0 ∨ s.2 < s.1 ∨ (n : Int) < s.2 := by
  rw [← Bool.not_eq_true, inB_iff]; omega
/-- The bytes from one place to another. -/
def cutL (t : List UInt8) (a b : Nat) : List UInt8 := (t.take b).drop a
def cutB (t : List UInt8) (s : Int × Int) : List UInt8 := if inB s t.length = true then cutL t s.1.toNat s.2.toNat else []
theorem cutL_len (t : List UInt8) (a b : Nat) : (cutL t a b).length = min b t.length - a := by unfold cutL; rw [List.length_drop, List.length_take]
theorem cutB_len (t : List UInt8) (s : Int × Int) : (cutB t s).length ≤ t.length := by
  unfold cutB; split
  · rw [cutL_len]; omega
  · exact Nat.zero_le _
/-- What a part becomes. -/
def expP (t : List UInt8) (s : Spn) (p : Prt) : List UInt8 := if p.kind = 0 then p.b else if p.kind = 1 ∧ 0 ≤ p.grp ∧ p.grp < 10 then cutB t (s p.grp.toNat) else []
def expL (t : List UInt8) (s : Spn) (l : List Prt) : List UInt8 := l.flatMap (expP t s)
theorem expP_len (t : List UInt8) (s : Spn) (p : Prt) : (expP t s p).length ≤ p.b.length + t.length := by
  unfold expP
  split
  · omega
  split
  · have := cutB_len t (s p.grp.toNat); omega
  · exact Nat.zero_le _
theorem expL_take (t : List UInt8) (s : Spn) (l : List Prt) {k : Nat} (h : k < l.length) : expL t s (l.take (k + 1)) = expL t s (l.take k) ++ expP t s (l[k]'h) := by
  unfold expL
  rw [List.take_add_one, List.getElem?_eq_getElem h, List.flatMap_append]
  simp
theorem expL_len (t : List UInt8) (s : Spn) (l : List Prt) (M : Nat) (hM : ∀ p ∈ l, p.b.length + t.length ≤ M) : (expL t s l).length ≤ l.length * M := by
  induction l with
  | nil => simp [expL]
  | cons p r ih =>
    have h1 := ih fun q hq => hM q (List.mem_cons_of_mem _ hq)
    have h2 := hM p List.mem_cons_self
    have h3 := expP_len t s p
    unfold expL at h1 ⊢
    rw [List.flatMap_cons, List.length_append, List.length_cons, Nat.succ_mul]
    omega
theorem expL_take_len (t : List UInt8) (s : Spn) (l : List Prt) (k : Nat) : (expL t s (l.take k)).length ≤ (expL t s l).length := by
  have : expL t s l = expL t s (l.take k) ++ expL t s (l.drop k) := by unfold expL; rw [← List.flatMap_append, List.take_append_drop]
  rw [this, List.length_append]; omega
/-- What has been written, and where the hit ahead that counted ended: one hit more. -/
def repN (l : List Prt) (t : List UInt8) (st : List UInt8 × Nat) (h : Spn) : List UInt8 × Nat :=
  if inB (h 0) t.length = true ∧ (st.2 : Int) ≤ (h 0).1 then (st.1 ++ cutL t st.2 (h 0).1.toNat ++ expL t h l, (h 0).2.toNat) else st
def repS (l : List Prt) (t : List UInt8) (hs : List Spn) : List UInt8 × Nat := hs.foldl (repN l t) ([], 0)
def repL (l : List Prt) (t : List UInt8) (hs : List Spn) : List UInt8 := (repS l t hs).1 ++ t.drop (repS l t hs).2
theorem repS_take (l : List Prt) (t : List UInt8) (hs : List Spn) {k : Nat} (h : k < hs.length) : repS l t (hs.take (k + 1)) = repN l t (repS l t (hs.take k)) (hs[k]'h) := by
  unfold repS
  rw [List.take_add_one, List.getElem?_eq_getElem h, List.foldl_append]
  rfl
theorem repN_le {l : List Prt} {t : List UInt8} {st : List UInt8 × Nat} {h : Spn} (hs : st.2 ≤ t.length) : (repN l t st h).2 ≤ t.length := by
  unfold repN
  split
  · rename_i hc
    have := (inB_iff.1 hc.1)
    show (h 0).2.toNat ≤ _
    omega
  · exact hs
theorem foldl_le {l : List Prt} {t : List UInt8} (hs : List Spn) : ∀ st : List UInt8 × Nat, st.2 ≤ t.length → (hs.foldl (repN l t) st).2 ≤ t.length := by
  induction hs with
  | nil => exact fun _ h => h
  | cons a r ih => exact fun st h => ih _ (repN_le h)
theorem repS_le (l : List Prt) (t : List UInt8) (hs : List Spn) : (repS l t hs).2 ≤ t.length := foldl_le hs _ (Nat.zero_le _)
theorem repN_len {l : List Prt} {t : List UInt8} {st : List UInt8 × Nat} {h : Spn} {M : Nat} (hM : (expL t h l).length ≤ M) : (repN l t st h).1.length ≤ st.1.length + (t.length + M) := by
  unfold repN
  split
  · show (st.1 ++ cutL t st.2 (h 0).1.toNat ++ expL t h l).length ≤ _
    rw [List.length_append, List.length_append, cutL_len]
    omega
  · omega
theorem foldl_len {l : List Prt} {t : List UInt8} {M : Nat} (hs : List Spn) (hM : ∀ h ∈ hs, (expL t h l).length ≤ M) : ∀ st : List UInt8 × Nat, (hs.foldl (repN l t) st).1.length ≤ st.1.length + hs.length * (t.length + M) := by
  induction hs with
  | nil => intro st; simp
  | cons a r ih =>
    intro st
    have h1 := ih (fun h hh => hM h (List.mem_cons_of_mem _ hh)) (repN l t st a)
    have h2 := repN_len (st := st) (hM a List.mem_cons_self)
    rw [List.foldl_cons, List.length_cons, Nat.succ_mul]
    omega
theorem repS_len (l : List Prt) (t : List UInt8) (hs : List Spn) (M : Nat) (hM : ∀ h ∈ hs, (expL t h l).length ≤ M) : (repS l t hs).1.length ≤ hs.length * (t.length + M) := by
  have := foldl_len hs hM (([], 0) : List UInt8 × Nat)
  simpa [repS] using this
theorem repS_take_len (l : List Prt) (t : List UInt8) (hs : List Spn) (M : Nat) (hM : ∀ h ∈ hs, (expL t h l).length ≤ M) (k : Nat) : (repS l t (hs.take k)).1.length ≤ hs.length * (t.length + M) := by
  have h1 := repS_len l t (hs.take k) M fun h hh => hM h (List.mem_of_mem_take hh)
  have h2 : (hs.take k).length * (t.length + M) ≤ hs.length * (t.length + M) := Nat.mul_le_mul_right _ (by rw [List.length_take]; omega)
  omega
/-- With & alone in its place a text is as it was. -/
theorem exp_amp (t : List UInt8) (h : Spn) : expL t h [⟨1, 0, []⟩] = cutB t (h 0) := by
  unfold expL expP
  simp
theorem cut_app (t : List UInt8) {a b c : Nat} (h1 : a ≤ b) (h2 : b ≤ c) (h3 : c ≤ t.length) : t.take a ++ cutL t a b ++ cutL t b c = t.take c := by
  have e : ∀ x y : Nat, x ≤ y → t.take x ++ cutL t x y = t.take y := fun x y h => by
    unfold cutL
    have : t.take x = (t.take y).take x := by rw [List.take_take, Nat.min_eq_left h]
    rw [this, List.take_append_drop]
  rw [e a b h1, e b c h2]
theorem rep_amp (t : List UInt8) (hs : List Spn) : repL [⟨1, 0, []⟩] t hs = t := by
  have key : ∀ (hs : List Spn) (st : List UInt8 × Nat), st.2 ≤ t.length → st.1 = t.take st.2 → (hs.foldl (repN [⟨1, 0, []⟩] t) st).1 = t.take (hs.foldl (repN [⟨1, 0, []⟩] t) st).2 := by
    intro hs
    induction hs with
    | nil => exact fun _ _ h => h
    | cons a r ih =>
      intro st hl h
      refine ih _ (repN_le hl) ?_
      unfold repN
      split
      · rename_i hc
        have h1 := inB_iff.1 hc.1
        show st.1 ++ _ ++ _ = t.take (a 0).2.toNat
        rw [exp_amp, h]
        unfold cutB
        rw [if_pos hc.1]
        exact cut_app t (by omega) (by omega) (by omega)
      · exact h
  have h := key hs ([], 0) (Nat.zero_le _) rfl
  unfold repL
  show (repS _ t hs).1 ++ _ = t
  rw [show (repS [⟨1, 0, []⟩] t hs).1 = t.take (repS [⟨1, 0, []⟩] t hs).2 from h, List.take_append_drop]
theorem rep_none (l : List Prt) (t : List UInt8) : repL l t [] = t := by simp [repL, repS]

/-! ### In memory -/
/-- A value that is a slice of these bytes, in blocks below B. -/
def BytV (w : World) (B : Nat) (v : Value) (l : List UInt8) : Prop := ∃ (A : Option Addr) (n c : Nat), v = .slice A n c ∧ n = l.length ∧ n ≤ c ∧ c ≤ maxLen ∧ Byt w B A l
theorem BytV.below {w w' : World} {B : Nat} {v : Value} {l : List UInt8} (h : BytV w B v l) (hb : Below B w w') : BytV w' B v l := by
  obtain ⟨A, n, c, h1, h2, h3, h4, h5⟩ := h; exact ⟨A, n, c, h1, h2, h3, h4, h5.below hb⟩
theorem BytV.more {w : World} {B B' : Nat} {v : Value} {l : List UInt8} (h : BytV w B v l) (hB : B ≤ B') : BytV w B' v l := by
  obtain ⟨A, n, c, h1, h2, h3, h4, h5⟩ := h; exact ⟨A, n, c, h1, h2, h3, h4, h5.more hB⟩
theorem BytV.nil (w : World) (B : Nat) : BytV w B (.slice none 0 0) [] := ⟨none, 0, 0, rfl, rfl, Nat.le_refl _, by simp [maxLen], Byt.none_ _ _ _⟩
/-- The slice that begins at A holds the parts l, three cells each, in blocks below B, their bytes too. -/
def Prts (w : World) (B : Nat) (A : Option Addr) (l : List Prt) : Prop :=
  ∀ (k : Nat) (h : k < l.length), ∃ ad v, A = some ad ∧ ad.block < B ∧ w.cell? (ad.add (k * 3)) = some (.int .i64 (l[k]'h).kind) ∧ w.cell? ⟨(ad.add (k * 3)).block, (ad.add (k * 3)).off + 1, none⟩ = some (.int .i64 (l[k]'h).grp) ∧ w.cell? ⟨(ad.add (k * 3)).block, (ad.add (k * 3)).off + 2, none⟩ = some v ∧ BytV w B v (l[k]'h).b
theorem Prts.below {w w' : World} {B : Nat} {A : Option Addr} {l : List Prt} (h : Prts w B A l) (hb : Below B w w') : Prts w' B A l := fun k hk => by
  obtain ⟨ad, v, h1, h2, h3, h4, h5, h6⟩ := h k hk
  exact ⟨ad, v, h1, h2, (hb.cell (by rw [block_add]; exact h2)).trans h3, (hb.cell (p := ⟨(ad.add (k * 3)).block, _, none⟩) (by show (ad.add (k * 3)).block < B; rw [block_add]; exact h2)).trans h4, (hb.cell (p := ⟨(ad.add (k * 3)).block, _, none⟩) (by show (ad.add (k * 3)).block < B; rw [block_add]; exact h2)).trans h5, h6.below hb⟩
theorem Prts.more {w : World} {B B' : Nat} {A : Option Addr} {l : List Prt} (h : Prts w B A l) (hB : B ≤ B') : Prts w B' A l := fun k hk => by
  obtain ⟨ad, v, h1, h2, h3, h4, h5, h6⟩ := h k hk
  exact ⟨ad, v, h1, Nat.lt_of_lt_of_le h2 hB, h3, h4, h5, h6.more hB⟩
theorem Prts.none_ (w : World) (B : Nat) (A : Option Addr) : Prts w B A [] := fun _ h => absurd h (by simp)
/-- The slice that begins at A holds the hits hs, twenty cells each, in a block below B. -/
def Hts (w : World) (B : Nat) (A : Option Addr) (hs : List Spn) : Prop := ∀ (k : Nat) (h : k < hs.length), ∃ ad bb oo, A = some ad ∧ ad.add (k * 20) = ⟨bb, oo, none⟩ ∧ bb < B ∧ w.rangeAt bb oo (hitL (hs[k]'h))
theorem Hts.below {w w' : World} {B : Nat} {A : Option Addr} {hs : List Spn} (h : Hts w B A hs) (hb : Below B w w') : Hts w' B A hs := fun k hk => by
  obtain ⟨ad, bb, oo, h0, h1, h2, h3⟩ := h k hk
  exact ⟨ad, bb, oo, h0, h1, h2, fun j u hj => (hb.cell (p := ⟨bb, oo + j, none⟩) h2).trans (h3 j u hj)⟩
theorem Hts.none_ (w : World) (B : Nat) (A : Option Addr) : Hts w B A [] := fun _ h => absurd h (by simp)
end Go.Proofs.Ytkfdehkembcaoaa
