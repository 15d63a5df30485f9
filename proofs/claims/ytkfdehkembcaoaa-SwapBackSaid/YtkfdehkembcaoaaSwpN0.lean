/- Parts that a call owns, told one behind the other (the reference's Parse); its Copy of bytes. -/
import Derived.Test.YtkfdehkembcaoaaSwpT
set_option linter.unusedVariables false
set_option linter.unusedSimpArgs false
set_option maxRecDepth 100000
namespace Go.Proofs.Ytkfdehkembcaoaa
open Go.RowKit

/-- Parts that a call owns. -/
def OutAt (w : World) (base : Nat) (v : Value) (l : List Prt) : Prop := ∃ xs : List (Prt × Value), xs.map Prod.fst = l ∧ w.ownsRow base 45 3 v xs.length (prtsL xs) ∧ ∀ y ∈ xs, OwnB w base y.2 y.1.b
theorem OutAt.nil (w : World) (base : Nat) : OutAt w base (.slice none 0 0) [] := ⟨[], rfl, World.ownsRow_nil _ _ _ _, fun _ h => by cases h⟩
theorem OutAt.keep {w w' : World} {base : Nat} {l : List Prt} {v : Value} (h : OutAt w base v l) (hb : Below w.heap.size w w') : OutAt w' base v l := by
  obtain ⟨xs, h1, h2, h3⟩ := h
  exact ⟨xs, h1, own_below h2 hb, fun y hy => (h3 y hy).keep hb⟩
theorem OutAt.prts {w : World} {base : Nat} {l : List Prt} {v : Value} (h : OutAt w base v l) : ∃ A c, v = .slice A l.length c ∧ l.length ≤ c ∧ c ≤ maxLen ∧ Prts w w.heap.size A l := by
  obtain ⟨xs, rfl, h2, hall⟩ := h
  rw [List.length_map]
  obtain ⟨hl, ⟨rfl, h0⟩ | ⟨g, cap, cur, rfl, hbg, hg, hnc, hcm, hcs, htake⟩⟩ := id h2
  · have : xs.length = 0 := h0
    have : xs = [] := List.length_eq_zero_iff.1 this
    subst this
    exact ⟨none, 0, rfl, Nat.le_refl _, by simp [maxLen], Prts.none_ _ _ _⟩
  · refine ⟨some ⟨g, 0, none⟩, cap, rfl, hnc, hcm, fun k hk => ?_⟩
    rw [List.length_map] at hk
    have hlt := (h2.lt g rfl).2
    have hc : ∀ j, j < 3 → w.cell? ⟨g, k * 3 + j, none⟩ = (prtL (xs[k]'hk))[j]? := fun j hj => by
      rw [h2.cellAt (k * 3 + j) (by have : (k + 1) * 3 ≤ xs.length * 3 := Nat.mul_le_mul_right 3 hk; omega), prtsL_at xs k hk j hj]
    refine ⟨_, (xs[k]'hk).2, rfl, hlt, ?_, ?_, ?_, ?_⟩
    · rw [add_zero_off, List.getElem_map]; exact hc 0 (by omega)
    · rw [add_zero_off, List.getElem_map]; exact hc 1 (by omega)
    · rw [add_zero_off]; exact hc 2 (by omega)
    · rw [List.getElem_map]; exact (hall _ (List.getElem_mem hk)).byt
/-- A part put behind. -/
theorem OutAt.pushed {w w1 : World} {base : Nat} {xs : List (Prt × Value)} {v v' : Value} {p : Prt} {A : Option Addr} {n c : Nat} (hbase : base ≤ w.heap.size) (hown : w.ownsRow base 45 3 v xs.length (prtsL xs)) (hls : ∀ y ∈ xs, OwnB w base y.2 y.1.b) (hp : OwnB w base (.slice A n c) p.b)
    (h1 : w1.ownsRow base 45 3 v' (xs ++ [(p, Value.slice A n c)]).length (prtsL (xs ++ [(p, Value.slice A n c)]))) (h2 : w.grownBy w1 v.ownBlock) :
    OutAt w1 base v' (xs.map Prod.fst ++ [p]) ∧ ∀ w0, Below base w0 w → Below base w0 w1 := by
  have mv : ∀ b0 u l, OwnB w b0 u l → OwnB w1 b0 u l := fun b0 u l ho => World.ownsRow.kept ho h2 (sw_ne ho hown (by decide))
  refine ⟨⟨_, by simp, h1, fun y hy => ?_⟩, fun w0 h0 => below_append h0 hown hbase h2⟩
  rcases List.mem_append.1 hy with hy | hy
  · exact mv _ _ _ (hls y hy)
  · rw [List.mem_singleton] at hy
    subst hy
    exact mv _ _ _ hp
theorem prtsL_set3 (ys : List (Prt × Value)) (q : Prt) (u : Value) (a b c : Value) : (((prtsL (ys ++ [(q, u)])).set (ys.length * 3) a).set (ys.length * 3 + 1) b).set (ys.length * 3 + 2) c = prtsL ys ++ [a, b, c] := by
  rw [prtsL_app, List.set_append_right _ _ (by rw [prtsL_len]; omega), List.set_append_right _ _ (by rw [prtsL_len]; omega), List.set_append_right _ _ (by rw [prtsL_len]; omega), prtsL_len, show ys.length * 3 + 2 - ys.length * 3 = 2 by omega, show ys.length * 3 + 1 - ys.length * 3 = 1 by omega, Nat.sub_self]
  rfl
/-- The last part, stored anew with other bytes. -/
theorem OutAt.merged {w : World} {base G m n cap : Nat} {ys : List (Prt × Value)} {q : Prt} {u u' : Value} {b : List UInt8} (hn : n = (ys ++ [(q, u)]).length) (hm : ys.length = m) (hown : w.ownsRow base 45 3 (.slice (some ⟨G, 0, none⟩) n cap) (ys ++ [(q, u)]).length (prtsL (ys ++ [(q, u)]))) (h4 : ∀ y ∈ ys ++ [(q, u)], OwnB w base y.2 y.1.b) (hu : OwnB w base u' b) :
    OutAt (((w.setCell ⟨G, m * 3, none⟩ (.int .i64 0)).setCell ⟨G, m * 3 + 1, none⟩ (.int .i64 0)).setCell ⟨G, m * 3 + 2, none⟩ u') base (.slice (some ⟨G, 0, none⟩) n cap) (ys.map Prod.fst ++ [⟨0, 0, b⟩]) ∧ ∀ w0, Below base w0 w → Below base w0 (((w.setCell ⟨G, m * 3, none⟩ (.int .i64 0)).setCell ⟨G, m * 3 + 1, none⟩ (.int .i64 0)).setCell ⟨G, m * 3 + 2, none⟩ u') := by
  subst hm
  subst hn
  have hGb := World.ownsRow.lt hown G rfl
  obtain ⟨cur, hG⟩ : ∃ cur, Held w G 45 cur := by
    rcases hown.2 with ⟨h, _⟩ | ⟨g, c, cur, h, _, hg, _⟩
    · cases h
    · have e : g = G := by injection h with h; injection h with h; injection h with h; exact h.symm
      subst e; exact ⟨cur, hg⟩
  have mv : ∀ b0 x l, OwnB w b0 x l → OwnB (((w.setCell ⟨G, ys.length * 3, none⟩ (.int .i64 0)).setCell ⟨G, ys.length * 3 + 1, none⟩ (.int .i64 0)).setCell ⟨G, ys.length * 3 + 2, none⟩ u') b0 x l := fun b0 x l ho =>
    sw_far ((hG.put _ _).put _ _) (by decide) (sw_far (hG.put _ _) (by decide) (sw_far hG (by decide) ho _ _) _ _) _ _
  have s1 := (World.ownsRow.stored hown (ys.length * 3) (.int .i64 0)).1
  have s2 := (World.ownsRow.stored s1 (ys.length * 3 + 1) (.int .i64 0)).1
  have s3 := (World.ownsRow.stored s2 (ys.length * 3 + 2) u').1
  rw [prtsL_set3] at s3
  refine ⟨⟨ys ++ [(⟨0, 0, b⟩, u')], by simp, ?_, fun y hy => ?_⟩, fun w0 h0 => ((h0.setCell (p := ⟨G, _, none⟩) hGb.1 _).setCell (p := ⟨G, _, none⟩) hGb.1 _).setCell (p := ⟨G, _, none⟩) hGb.1 _⟩
  · have e : (ys ++ [(({ kind := 0, grp := 0, b := b } : Prt), u')]).length = (ys ++ [(q, u)]).length := by simp
    rw [e, prtsL_app]
    exact s3
  · rcases List.mem_append.1 hy with hy | hy
    · exact mv _ _ _ (h4 y (List.mem_append_left _ hy))
    · rw [List.mem_singleton] at hy
      subst hy
      exact mv _ _ _ hu
/-- A part in a box. -/
def BoxAt (w : World) (base X : Nat) (p : Prt) : Prop := ∃ A n c, Held w X 45 #[.int .i64 p.kind, .int .i64 p.grp, .slice A n c] ∧ OwnB w base (.slice A n c) p.b
theorem BoxAt.keep {w w' : World} {base X : Nat} {p : Prt} (h : BoxAt w base X p) (hb : Below w.heap.size w w') : BoxAt w' base X p := by
  obtain ⟨A, n, c, h1, h2⟩ := h
  exact ⟨A, n, c, h1.keep hb, h2.keep hb⟩
/-- No text bears a group's number. -/
def Grp0 (l : List Prt) : Prop := ∀ q ∈ l, q.kind = 0 → q.grp = 0
theorem Grp0.join {l : List Prt} {p : Prt} (h : Grp0 l) (hp : p.kind = 0 → p.grp = 0) : Grp0 (joinP l p) := by
  rcases List.eq_nil_or_concat l with rfl | ⟨i, q, rfl⟩
  · intro x hx; rw [joinP_nil, List.mem_singleton] at hx; subst hx; exact hp
  · rw [List.concat_eq_append] at h ⊢
    by_cases hk : p.kind = 0 ∧ q.kind = 0
    · rw [joinP_one hk.1 hk.2]
      intro x hx hx0
      rcases List.mem_append.1 hx with hx | hx
      · exact h x (List.mem_append_left _ hx) hx0
      · rw [List.mem_singleton] at hx
        subst hx
        exact h q (List.mem_append_right _ (List.mem_singleton.2 rfl)) hx0
    · rw [joinP_two hk]
      intro x hx hx0
      rcases List.mem_append.1 hx with hx | hx
      · exact h x hx hx0
      · rw [List.mem_singleton] at hx
        subst hx
        exact hp hx0
theorem fstP_grp {g : Int} {b : List UInt8} {p : Prt} {n : Nat} (h : fstP g b = .ok p n) : p.kind = 0 → p.grp = 0 := by
  unfold fstP at h
  split at h
  · cases h
  split at h
  · cases h; exact fun e => rfl
  split at h
  · cases h; exact fun e => rfl
  split at h
  · cases h
  split at h
  · cases h
  · rename_i hp
    cases h
    rcases escP_text hp with ⟨_, h, _⟩ | ⟨h, _⟩
    · exact fun _ => h
    · intro e; rw [h] at e; cases e
theorem rCopyS_any {w : World} {B : Nat} {A : Option Addr} {n c : Nat} {l : List UInt8} (hn : n = l.length) (hnc : n ≤ c) (hm : c ≤ maxLen) (hbig : n ≤ 1000000000) (h : Byt w B A l) (hB : B ≤ w.heap.size) :
    Calls Try.prog 25 #[.slice A n c] w fun e w' => (∃ v, e = .returned v ∧ OwnB w' w.heap.size v l) ∧ Below w.heap.size w w' := by
  have hb1 := Lib.hid ((Below.refl w.heap.size w).alloc (Nat.le_refl _) (.cells #[] 5))
  have hown := Lib.hid (show OwnB (w.alloc (.cells #[] 5)) w.heap.size (.slice (some ⟨w.heap.size, 0, none⟩) 0 0) [] from World.ownsRow_made w #[] 0 (Nat.le_refl _) (by simp [maxLen]) rfl)
  have hv := Lib.hid (show BytV (w.alloc (.cells #[] 5)) B (.slice A n c) l from ⟨A, n, c, rfl, hn, hnc, hm, h.below (hb1.out.mono hB)⟩)
  have hl := Lib.hid (show ([] : List UInt8).length + l.length ≤ 1000000000 from by rw [List.length_nil, ← hn]; omega)
  clear h hn
  go_enter Try.func25, Try.ntmps25
  go_wp2_with (at_builtin; refine wpList_app rfl (.tmp 3) (.tmp 4) rfl rfl hown.out rfl hv.out hl.out hb1.out.size ?_; intro v4 w4 h1 h2; obtain ⟨A4, n4, c4, rfl⟩ := h1.slice)
  go_ret
  exact ⟨⟨_, rfl, h1⟩, h2.below _ hb1.out⟩
end Go.Proofs.Ytkfdehkembcaoaa
