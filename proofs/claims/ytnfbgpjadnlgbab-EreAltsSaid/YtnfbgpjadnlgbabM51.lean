/- The contract of ere.Parse; ere.Parse of a text whose end is known. -/
import Derived.Test.YtnfbgpjadnlgbabM33
import Derived.Test.YtnfbgpjadnlgbabM49
import Derived.Test.YtnfbgpjadnlgbabM50
set_option linter.unusedVariables false
set_option maxRecDepth 100000
namespace Go.Proofs.Ytnfbgpjadnlgbab
open Go.RowKit

/-- How an extended text ends. -/
def EndX (l : List UInt8) (r : Rx) : Prop := (l = [] ∧ r = .fin [emptyN] 0) ∨ (l ≠ [] ∧ EndsE l ce0 r)
theorem EndX.det {l : List UInt8} {r s : Rx} (h : EndX l r) (k : EndX l s) : r = s := by
  rcases h with ⟨h1, h2⟩ | ⟨h1, h2⟩
  · rcases k with ⟨k1, k2⟩ | ⟨k1, k2⟩
    · rw [h2, k2]
    · exact absurd h1 k1
  · rcases k with ⟨k1, k2⟩ | ⟨k1, k2⟩
    · exact absurd k1 h1
    · exact h2.det k2
/-- What Parse answers. -/
def PResE (w : World) (l : List UInt8) (e : Ending) (w' : World) : Prop :=
  (∃ v ns g, e = .returned (.tuple #[.agg #[v, .int .i64 ((g : Nat) : Int)], .int .i64 0, .int .i64 0]) ∧ EndX l (.fin ns g) ∧ rightN ns (g : Int) = true ∧ w'.ownsRow w.heap.size 34 10 v ns.length (nodsL ns) ∧ Below w.heap.size w w') ∨
  (∃ p q : Nat, q ≠ 0 ∧ e = .returned (.tuple #[.agg #[.slice none 0 0, .int .i64 0], .int .i64 (p : Int), .int .i64 (q : Int)]) ∧ EndX l (.bad p q) ∧ Below w.heap.size w w')
theorem right_empty : rightN [emptyN] (0 : Int) = true := by
  have h := Fo.node (nd := emptyN) (P := []) (R := []) (Fo.nil_ 0) rfl (fits_plain 0 (.inl rfl) _ _)
  have h2 := rightN_end (ns := [emptyN]) (g := (0 : Int)) ⟨by simp, by simp, by omega, by omega⟩ h.fit
  rw [h2, onceL_yes, onceL_yes]
  · rfl
  · intro k hk
    simp at hk
  · intro k hk
    rw [List.length_map, List.length_range] at hk
    simp at hk
set_option maxHeartbeats 8000000 in
theorem eparse_nil {A : Option Addr} {n c : Nat} {l : List UInt8} {w : World} (h : Inp w A n c l) (h0 : n = 0) :
    Calls Try.prog 6 #[.slice A n c] w (PResE w l) := by
  have hb1 : Below w.heap.size w (w.alloc (.cells #[.slice none 0 0, .int .i64 0] 26)) := (Below.refl _ _).alloc (Nat.le_refl _) _
  have hR := Lib.hid (held_new w 26 #[.slice none 0 0, .int .i64 0])
  have hN := Lib.hid (new_any A n c (w.alloc (.cells #[.slice none 0 0, .int .i64 0] 26)))
  have hsz : w.heap.size < (w.alloc (.cells #[.slice none 0 0, .int .i64 0] 26)).heap.size := by simp
  have hPn := Lib.hid (fun (w1 : World) (hb : Below w.heap.size w w1) => psr_new h hb 46 (by decide) (by decide))
  have hEn := Lib.hid (fun (w2 : World) (B T : Nat) (hP : Psr w2 B T A n c l (.slice none 0 0) [] 0 0 noCl 0) => ends_any hP)
  have hl0 : l = [] := List.length_eq_zero_iff.1 (by have := h.1; omega)
  have hEm := Lib.hid (fun (w2 : World) (B T : Nat) (hP : Psr w2 B T A n c l (.slice none 0 0) [] 0 0 noCl 0) => empty_any B T 0 _ [] 0 w2 hP.bldr)
  have hfin := Lib.hid (show EndX l (.fin [emptyN] 0) from .inl ⟨hl0, rfl⟩)
  rw [decide_eq_true (show 0 = n from h0.symm)] at hEn
  replace hb1 := Lib.hid hb1
  clear h hl0 h0
  unfold psrC noCl at hN hPn
  go_enter Try.func6, Try.ntmps6
  go_wp2_with (first
    | (go_at_call 8; refine (hN.out).mono ?_; rintro e w1 ⟨rfl, hb⟩; have hbw := hb1.out.trans (hb.mono hb1.out.size); have hP1 := Lib.hid (hPn.out w1 hbw); have hTR : w.heap.size < w1.heap.size := Nat.lt_of_lt_of_le hsz hb.size; have hRk := Lib.hid ((hR.out.keep hb).alloc (.cells #[.slice none 0 0, .int .i64 0, .slice A n c, .int .i64 0, .bool false, .bool false, .bool false, .bool false, .bool false, .bool false, .bool false, .bool false, .bool false, .bool false, .int .i64 0] 46)); replace hbw := Lib.hid (hbw.alloc hbw.size (.cells #[.slice none 0 0, .int .i64 0, .slice A n c, .int .i64 0, .bool false, .bool false, .bool false, .bool false, .bool false, .bool false, .bool false, .bool false, .bool false, .bool false, .int .i64 0] 46)); clear hb)
    | (go_at_call 9; refine (hEn.out _ _ _ hP1.out).mono ?_; rintro e w2 ⟨rfl, hb⟩; replace hP1 := Lib.hid (hP1.out.keep hb); replace hRk := Lib.hid (hRk.out.keep hb); replace hbw := Lib.hid (hbw.out.trans (hb.mono hbw.out.size)); clear hb)
    | (go_at_call 11; refine (hEm.out _ _ _ hP1.out).mono ?_; intro x w3 hx2; obtain ⟨v2, rfl, h2, k2⟩ := hP1.out.room (by decide) (fits_plain 0 (.inl rfl) _ _) hx2; clear hx2; have hTo := Lib.hid (told_ok h2 right_empty (by decide) 0 rfl); have hR3 := Lib.hid (hRk.out.chp k2 (by omega) (by intro e; cases e)); have hb3 := Lib.hid (hbw.out.trans (k2.below (by have := hbw.out.size; omega) (by omega) (fun k e => by cases e))); clear h2 k2)
    | (go_at_call 10; refine (hTo.out).mono ?_; intro y w4 hy; first
       | (obtain ⟨v4, rfl, ho4, hb4⟩ := hy; obtain ⟨A4, c4, rfl, -, -, -, -⟩ := own_nods ho4; replace ho4 := Lib.hid ho4; have hR4 := Lib.hid (hR3.out.keep hb4); have z := hR4.out.at_ (i := 0) rfl; have z1 := hR4.out.at_ (i := 1) rfl; have y0 := hR4.out.thawed 0; have y1 := hR4.out.thawed 1; replace hb4 := Lib.hid (hb3.out.trans (hb4.mono hb3.out.size)))
       | (obtain ⟨rfl, hb4⟩ := hy; have hR4 := Lib.hid (hR3.out.keep hb4); have z := hR4.out.at_ (i := 0) rfl; have z1 := hR4.out.at_ (i := 1) rfl; have y0 := hR4.out.thawed 0; have y1 := hR4.out.thawed 1; replace hb4 := Lib.hid (hb3.out.trans (hb4.mono hb3.out.size)))))
  have hown : (w4.setCell ⟨w.heap.size, 0, none⟩ (.slice A4 1 c4)).setCell ⟨w.heap.size, 1, none⟩ (.int .i64 0) |>.ownsRow w.heap.size 34 10 (.slice A4 1 c4) 1 (nodsL [emptyN]) :=
    own_low (own_far (hR4.out.put 0 (.slice A4 1 c4)) (by decide) (own_far hR4.out (by decide) ho4.out 0 _) 1 _) hb3.out.size
  exact bodyPost_ret (v := .tuple #[.agg #[.slice A4 1 c4, .int .i64 0], .int .i64 0, .int .i64 0]) (results_cell_three Try.results6 _ _ w.heap.size 26 #[.slice A4 1 c4, .int .i64 0] (0, 0) _ rfl rfl rfl ((hR4.out.put 0 _).put 1 _) Try.underlying26 rfl (by kernel_rfl)) rfl
    (.inl ⟨_, [emptyN], 0, rfl, hfin.out, right_empty, hown, (hb4.out.setCell (p := ⟨w.heap.size, 0, none⟩) (Nat.le_refl _) _).setCell (p := ⟨w.heap.size, 1, none⟩) (Nat.le_refl _) _⟩)

set_option maxHeartbeats 8000000 in
theorem eparse_any {A : Option Addr} {n c : Nat} {l : List UInt8} {w : World} (h : Inp w A n c l) (hsm : n ≤ 300) :
    Calls Try.prog 6 #[.slice A n c] w (PResE w l) := by
  by_cases h0 : n = 0
  · exact eparse_nil h h0
  have hb1 : Below w.heap.size w (w.alloc (.cells #[.slice none 0 0, .int .i64 0] 26)) := (Below.refl _ _).alloc (Nat.le_refl _) _
  have hR := Lib.hid (held_new w 26 #[.slice none 0 0, .int .i64 0])
  have hN := Lib.hid (new_any A n c (w.alloc (.cells #[.slice none 0 0, .int .i64 0] 26)))
  have hsz : w.heap.size < (w.alloc (.cells #[.slice none 0 0, .int .i64 0] 26)).heap.size := by simp
  have hPn := Lib.hid (fun (w1 : World) (hb : Below w.heap.size w w1) => psr_new h hb 46 (by decide) (by decide))
  have hEn := Lib.hid (fun (w2 : World) (B T : Nat) (hP : Psr w2 B T A n c l (.slice none 0 0) [] 0 0 noCl 0) => ends_any hP)
  have hl0 : l ≠ [] := fun e => h0 (by have := h.1; rw [e] at this; simpa using this)
  have hBr := Lib.hid (fun (w2 : World) (B T : Nat) (hP : Psr w2 B T A n c l (.slice none 0 0) [] 0 0 noCl 0) => calt_all n false w2 B T A n c l _ [] 0 0 noCl hP hsm (by simp) (by omega))
  have hn := Lib.hid h.1
  rw [decide_eq_false (show ¬ 0 = n from fun e => h0 e.symm)] at hEn
  replace hb1 := Lib.hid hb1
  replace hl0 := Lib.hid hl0
  clear h h0
  unfold psrC noCl at hN hPn
  go_enter Try.func6, Try.ntmps6
  go_wp2_with (first
    | (go_at_call 8; refine (hN.out).mono ?_; rintro e w1 ⟨rfl, hb⟩; have hbw := hb1.out.trans (hb.mono hb1.out.size); have hP1 := Lib.hid (hPn.out w1 hbw); have hTR : w.heap.size < w1.heap.size := Nat.lt_of_lt_of_le hsz hb.size; have hRk := Lib.hid ((hR.out.keep hb).alloc (.cells #[.slice none 0 0, .int .i64 0, .slice A n c, .int .i64 0, .bool false, .bool false, .bool false, .bool false, .bool false, .bool false, .bool false, .bool false, .bool false, .bool false, .int .i64 0] 46)); replace hbw := Lib.hid (hbw.alloc hbw.size (.cells #[.slice none 0 0, .int .i64 0, .slice A n c, .int .i64 0, .bool false, .bool false, .bool false, .bool false, .bool false, .bool false, .bool false, .bool false, .bool false, .bool false, .int .i64 0] 46)); clear hb)
    | (go_at_call 9; refine (hEn.out _ _ _ hP1.out).mono ?_; rintro e w2 ⟨rfl, hb⟩; replace hP1 := Lib.hid (hP1.out.keep hb); replace hRk := Lib.hid (hRk.out.keep hb); replace hbw := Lib.hid (hbw.out.trans (hb.mono hbw.out.size)); clear hb)
    | (go_at_call 12; refine (hBr.out _ _ _ hP1.out).mono ?_; intro y w3 hy; rcases hy with ⟨x, v2, ns2, g2, i2, cl2, ns1, ps1, bs1, rfl, ok2, h2, k2, q1, q2, q3, q4, q5, q6⟩ | ⟨x, v2, ns2, g2, i2, cl2, e2, he2, rfl, h2, k2, q6⟩
       all_goals first
         | (obtain ⟨hal, hst⟩ := q6 [] rfl
            have hir := (hst.inv invE0).right hal h2.len
            have hen := Lib.hid (show EndX l (.fin ns2 g2) from .inr ⟨hl0.out, hst.ends (.fin (by
              show stepEL l _ = _
              have hq5 : i2 = n := by simpa using q5
              simp only [stepEL]
              rw [if_pos (by rw [hq5, hn.out]; exact Nat.le_refl _), hal]))⟩)
            have hr := Lib.hid hir.1
            have hTo := Lib.hid (told_ok h2 hir.1 hir.2.2.1 x hir.2.1)
            have hR3 := Lib.hid (hRk.out.chp k2 (by omega) (by intro e; cases e))
            have hb3 := Lib.hid (hbw.out.trans (k2.below (by have := hbw.out.size; omega) (by omega) (fun k e => by cases e)))
            clear h2 k2 q1 q2 q3 q4 q5 q6 hst hir ok2 hal)
         | (have hTo := Lib.hid (told_bad h2 he2 x)
            have hR3 := Lib.hid (hRk.out.chp k2 (by omega) (by intro e; cases e))
            have hb3 := Lib.hid (hbw.out.trans (k2.below (by have := hbw.out.size; omega) (by omega) (fun k e => by cases e)))
            have hen := Lib.hid (show EndX l (.bad i2 e2) from .inr ⟨hl0.out, q6 [] rfl⟩)
            replace he2 := Lib.hid he2
            clear h2 k2 q6))
    | (go_at_call 10; refine (hTo.out).mono ?_; intro y w4 hy; first
       | (obtain ⟨v4, rfl, ho4, hb4⟩ := hy; obtain ⟨A4, c4, rfl, -, -, -, -⟩ := own_nods ho4; replace ho4 := Lib.hid ho4; have hR4 := Lib.hid (hR3.out.keep hb4); have z := hR4.out.at_ (i := 0) rfl; have z1 := hR4.out.at_ (i := 1) rfl; have y0 := hR4.out.thawed 0; have y1 := hR4.out.thawed 1; replace hb4 := Lib.hid (hb3.out.trans (hb4.mono hb3.out.size)))
       | (obtain ⟨rfl, hb4⟩ := hy; have hR4 := Lib.hid (hR3.out.keep hb4); have z := hR4.out.at_ (i := 0) rfl; have z1 := hR4.out.at_ (i := 1) rfl; have y0 := hR4.out.thawed 0; have y1 := hR4.out.thawed 1; replace hb4 := Lib.hid (hb3.out.trans (hb4.mono hb3.out.size)))))
  · have hown : (w4.setCell ⟨w.heap.size, 0, none⟩ (.slice A4 ns2.length c4)).setCell ⟨w.heap.size, 1, none⟩ (.int .i64 (g2 : Int)) |>.ownsRow w.heap.size 34 10 (.slice A4 ns2.length c4) ns2.length (nodsL ns2) :=
      own_low (own_far (hR4.out.put 0 (.slice A4 ns2.length c4)) (by decide) (own_far hR4.out (by decide) ho4.out 0 _) 1 _) hb3.out.size
    exact bodyPost_ret (v := .tuple #[.agg #[.slice A4 ns2.length c4, .int .i64 (g2 : Int)], .int .i64 0, .int .i64 0]) (results_cell_three Try.results6 _ _ w.heap.size 26 #[.slice A4 ns2.length c4, .int .i64 (g2 : Int)] (0, 0) _ rfl rfl rfl ((hR4.out.put 0 _).put 1 _) Try.underlying26 rfl (by kernel_rfl)) rfl
      (.inl ⟨_, ns2, g2, rfl, hen.out, hr.out, hown, (hb4.out.setCell (p := ⟨w.heap.size, 0, none⟩) (Nat.le_refl _) _).setCell (p := ⟨w.heap.size, 1, none⟩) (Nat.le_refl _) _⟩)
  · exact bodyPost_ret (v := .tuple #[.agg #[.slice none 0 0, .int .i64 0], .int .i64 (i2 : Int), .int .i64 (e2 : Int)]) (results_cell_three Try.results6 _ _ w.heap.size 26 #[.slice none 0 0, .int .i64 0] (0, 0) _ rfl rfl rfl ((hR4.out.put 0 _).put 1 _) Try.underlying26 rfl (by kernel_rfl)) rfl
      (.inr ⟨i2, e2, he2.out, rfl, hen.out, (hb4.out.setCell (p := ⟨w.heap.size, 0, none⟩) (Nat.le_refl _) _).setCell (p := ⟨w.heap.size, 1, none⟩) (Nat.le_refl _) _⟩)
def runE : Nat → List UInt8 → Ce → Rx
  | 0, _, c => .go c
  | k + 1, t, c => match stepE t c with
    | .go c' => runE k t c'
    | .bad i e => .bad i e
    | .fin ns g => .fin ns g
theorem runE_ends : ∀ (k : Nat) (t : List UInt8) (c : Ce) (r : Rx), runE k t c = r → (∀ c2, r ≠ .go c2) → EndsE t c r
  | 0, t, c, r, h, hr => absurd h.symm (hr c)
  | k + 1, t, c, r, h, hr => by
    unfold runE at h
    cases hs : stepE t c with
    | go c' =>
      rw [hs] at h
      obtain ⟨c2, h1, h2, h3⟩ := runE_ends k t c' r h hr
      exact ⟨c2, .head hs h1, h2, h3⟩
    | bad i e => rw [hs] at h; exact ⟨c, .refl c, by rw [hs]; exact h, hr⟩
    | fin ns g => rw [hs] at h; exact ⟨c, .refl c, by rw [hs]; exact h, hr⟩
theorem endX_fin {k : Nat} {t : List UInt8} {ns : List Nod} {g : Nat} (ht : t ≠ []) (h : runE k t ce0 = .fin ns g) : EndX t (.fin ns g) := .inr ⟨ht, runE_ends k t ce0 _ h fun _ => by simp⟩
theorem endX_bad {k : Nat} {t : List UInt8} {p q : Nat} (ht : t ≠ []) (h : runE k t ce0 = .bad p q) : EndX t (.bad p q) := .inr ⟨ht, runE_ends k t ce0 _ h fun _ => by simp⟩
theorem eparse_fin {A : Option Addr} {n c : Nat} {l : List UInt8} {w : World} (h : Inp w A n c l) (hsm : n ≤ 300) {ns : List Nod} {g k : Nat} (he : EndX l (.fin ns g)) (hk : ns.length = k) :
    Calls Try.prog 6 #[.slice A n c] w (FinR w ns g k) := by
  subst hk
  refine (eparse_any h hsm).mono fun e w' hh => ?_
  rcases hh with ⟨v, ns', g', e1, h1, h2, h3, h4⟩ | ⟨p, q, _, _, h1, _⟩
  · have := h1.det he
    injection this with e2 e3
    subst e2
    subst e3
    obtain ⟨q, cap, rfl, _, h5, h6⟩ := own_at h3 (rightN_len h2).1
    exact ⟨q, cap, e1, h3, h4, h5, h6⟩
  · cases h1.det he
theorem eparse_bad {A : Option Addr} {n c : Nat} {l : List UInt8} {w : World} (h : Inp w A n c l) (hsm : n ≤ 300) {p q : Nat} (he : EndX l (.bad p q)) :
    Calls Try.prog 6 #[.slice A n c] w fun e w' => e = .returned (.tuple #[.agg #[.slice none 0 0, .int .i64 0], .int .i64 (p : Int), .int .i64 (q : Int)]) ∧ Below w.heap.size w w' := by
  refine (eparse_any h hsm).mono fun e w' hh => ?_
  rcases hh with ⟨v, ns', g', e1, h1, h2, h3, h4⟩ | ⟨p', q', _, e1, h1, hb⟩
  · cases h1.det he
  · have := h1.det he
    injection this with e2 e3
    subst e2
    subst e3
    exact ⟨e1, hb⟩
end Go.Proofs.Ytnfbgpjadnlgbab
