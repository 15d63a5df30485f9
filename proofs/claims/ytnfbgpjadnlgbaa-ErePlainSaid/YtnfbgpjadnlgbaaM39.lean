/- Contract of the parser of basic texts: atom, given those of branch. -/
import Derived.Test.YtnfbgpjadnlgbaaM38
set_option linter.unusedVariables false
set_option maxRecDepth 100000
namespace Go.Proofs.Ytnfbgpjadnlgbaa
open Go.RowKit

theorem atom_par {t : List UInt8} {i : Nat} (h : bg [92, 41] (t.drop i) = true) : atomA t i = .bad 14 := by
  obtain ⟨r, hr⟩ := drop_two h
  unfold atomA; rw [hr]; rfl
theorem atom_ivl {t : List UInt8} {i : Nat} (h : bg [92, 123] (t.drop i) = true) : atomA t i = .bad 13 := by
  obtain ⟨r, hr⟩ := drop_two h
  unfold atomA; rw [hr]; rfl
theorem atom_one {t : List UInt8} {i : Nat} (hi : i < t.length) (h1 : bg [92, 40] (t.drop i) = false) (h2 : bg [92, 41] (t.drop i) = false) (h3 : bg [92, 123] (t.drop i) = false) (h4 : bg [36] (t.drop i) = false) : atomA t i = oneA t i := by
  have hx := List.drop_eq_getElem_cons hi
  generalize t[i] = x at hx
  unfold atomA
  rw [one_at hx]
  rw [hx] at h1 h2 h3 h4 ⊢
  have h36 := bg1 h4
  simp only [atomR, oneR]
  by_cases h92 : x = 92
  · subst h92
    rw [if_pos rfl, if_neg (by decide), if_neg (by decide), if_pos rfl]
    simp only [bg_cons, beq_self_eq_true, Bool.true_and] at h1 h2 h3
    exact escA_esc i h1 h2 h3
  · rw [if_neg h92]
    by_cases h91 : x = 91
    · subst h91; rfl
    · rw [if_neg h91, if_neg h91, if_neg h92]
      by_cases h46 : x = 46
      · rw [if_pos h46, if_pos h46]
      · rw [if_neg h46, if_neg h46, if_neg (fun e => h36 e.1)]
theorem atom_dol {t : List UInt8} {i : Nat} (hb : bg [36] (t.drop i) = true) : atomA t i = .nod (i + 1) (if i + 1 = t.length ∨ bg [92, 41] (t.drop (i + 1)) = true then eolN else setN (oneF 36)) := by
  obtain ⟨r, hr⟩ := drop_one hb
  obtain ⟨hi, -, hd⟩ := drop_at hr
  unfold atomA
  rw [hr, hd]
  simp only [atomR, ofL_one]
  rw [if_neg (by decide), if_neg (by decide), if_neg (by decide)]
  have hl : (r = []) ↔ (i + 1 = t.length) := by
    rw [← List.length_eq_zero_iff, ← hd, List.length_drop]; omega
  simp only [true_and, hl]
  split
  · rfl
  · rfl

section
variable {w : World} {B T : Nat} {A : Option Addr} {n c : Nat} {l : List UInt8} {v : Value} {ns : List Nod} {g i : Nat} {cl : Nat → Bool} (h : Psr w B T A n c l v ns g i cl 0) {inG : Bool}
include h
set_option maxHeartbeats 8000000 in
theorem atom_opn_any (h1 : bg [92, 40] (l.drop i) = true) (hB : ∀ k, k < n - i → BrOK k) :
    Calls Try.prog 37 #[.pointer (some ⟨T, 0, none⟩)] w (YNode false w B T A n c l v ns g i cl inG) := by
  have hnl := h.hn
  have hG0 := Lib.hid (held_new w 58 #[.pointer (some ⟨T, 0, none⟩)])
  have hb0 := Lib.hid ((Below.refl w.heap.size w).alloc (Nat.le_refl _) (.cells #[.pointer (some ⟨T, 0, none⟩)] 58))
  have h0 := h.keep hb0.out
  have hB0 := Lib.hid (Below.refl (w.alloc (.cells #[.pointer (some ⟨T, 0, none⟩)] 58)).heap.size (w.alloc (.cells #[.pointer (some ⟨T, 0, none⟩)] 58)))
  have hC1 := Lib.hid (fun w3 (hb : Below (w.alloc (.cells #[.pointer (some ⟨T, 0, none⟩)] 58)).heap.size (w.alloc (.cells #[.pointer (some ⟨T, 0, none⟩)] 58)) w3) => comes_is (h0.keep hb) ⟨#[92, 40]⟩ true h1)
  have hP := Lib.hid (fun (w3 : World) (hb : Below (w.alloc (.cells #[.pointer (some ⟨T, 0, none⟩)] 58)).heap.size (w.alloc (.cells #[.pointer (some ⟨T, 0, none⟩)] 58)) w3) => bparen_any (inG := inG) (h0.keep hb) h1 (hG0.out.keep hb) (show w.heap.size ≠ T by have := h.lt; omega) (h.own_lt (Nat.le_refl w.heap.size)) hB)
  clear h h0 h1 hB hnl
  go_enter Try.func37, Try.ntmps37
  go_wp2_with (first
    | (go_at_call 26; with_reducible show Calls _ _ #[_, Value.string {data := #[92, 40]}] _ _; refine (hC1.out _ hB0.out).mono ?_; rintro y w1 ⟨rfl, hb⟩; have hB1 := Lib.hid (hB0.out.trans (hb.mono hB0.out.size)); have z1 := (hG0.out.keep hB1.out).at_ (i := 0) rfl; clear hb)
    | (go_at_call 48; refine (hP.out _ hB1.out).mono ?_; intro x w5 hy; obtain ⟨z, rfl, hy⟩ := hy.ret; replace hy := Lib.hid (hy.from (ChP.of_below (hb0.out.trans (hB1.out.mono hb0.out.size))))))
  go_ret
  exact hy.out
set_option maxHeartbeats 8000000 in
theorem atom_par_any (hi : i < n) (h1 : bg [92, 40] (l.drop i) = false) (h2 : bg [92, 41] (l.drop i) = true) (hc : inG = true → bg [92, 41] (l.drop i) = false) :
    Calls Try.prog 37 #[.pointer (some ⟨T, 0, none⟩)] w (YNode false w B T A n c l v ns g i cl inG) := by
  have hnl := h.hn
  have hG0 := Lib.hid (held_new w 58 #[.pointer (some ⟨T, 0, none⟩)])
  have hb0 := Lib.hid ((Below.refl w.heap.size w).alloc (Nat.le_refl _) (.cells #[.pointer (some ⟨T, 0, none⟩)] 58))
  have h0 := h.keep hb0.out
  have hB0 := Lib.hid (Below.refl (w.alloc (.cells #[.pointer (some ⟨T, 0, none⟩)] 58)).heap.size (w.alloc (.cells #[.pointer (some ⟨T, 0, none⟩)] 58)))
  have hC1 := Lib.hid (fun w3 (hb : Below (w.alloc (.cells #[.pointer (some ⟨T, 0, none⟩)] 58)).heap.size (w.alloc (.cells #[.pointer (some ⟨T, 0, none⟩)] 58)) w3) => comes_is (h0.keep hb) ⟨#[92, 40]⟩ false h1)
  have hC2 := Lib.hid (fun w3 (hb : Below (w.alloc (.cells #[.pointer (some ⟨T, 0, none⟩)] 58)).heap.size (w.alloc (.cells #[.pointer (some ⟨T, 0, none⟩)] 58)) w3) => comes_is (h0.keep hb) ⟨#[92, 41]⟩ true h2)
  have hW := Lib.hid (fun (w3 : World) (hb : Below (w.alloc (.cells #[.pointer (some ⟨T, 0, none⟩)] 58)).heap.size (w.alloc (.cells #[.pointer (some ⟨T, 0, none⟩)] 58)) w3) => wrong_at (h0.keep hb) 14 14 rfl)
  have hfin := Lib.hid (fun (w' : World) (z : Ending) (y : YBad w B T A n c l v i 14 z w') => y.node (inG := inG) (ns := ns) (g := g) (cl := cl) (by omega) hc (fun ps lv => by rw [atom_par h2]; rfl) (by decide))
  clear h h0 hnl hc hi
  go_enter Try.func37, Try.ntmps37
  go_wp2_with (first
    | (go_at_call 26; with_reducible show Calls _ _ #[_, Value.string {data := #[92, 40]}] _ _; refine (hC1.out _ hB0.out).mono ?_; rintro y w1 ⟨rfl, hb⟩; have hB1 := Lib.hid (hB0.out.trans (hb.mono hB0.out.size)); have z1 := (hG0.out.keep hB1.out).at_ (i := 0) rfl; clear hb)
    | (go_at_call 26; with_reducible show Calls _ _ #[_, Value.string {data := #[92, 41]}] _ _; refine (hC2.out _ hB1.out).mono ?_; rintro y w2 ⟨rfl, hb⟩; have hB2 := Lib.hid (hB1.out.trans (hb.mono hB1.out.size)); have z2 := (hG0.out.keep hB2.out).at_ (i := 0) rfl; clear hb)
    | (go_at_call 35; refine (hW.out _ hB2.out).mono ?_; intro x w5 hy; obtain ⟨rfl, hy⟩ := hy.ret; replace hy := Lib.hid (hfin.out _ _ (hy.from (ChP.of_below (hb0.out.trans (hB2.out.mono hb0.out.size)))))))
  go_ret
  exact hy.out
set_option maxHeartbeats 8000000 in
theorem atom_ivl_any (hi : i < n) (h1 : bg [92, 40] (l.drop i) = false) (h2 : bg [92, 41] (l.drop i) = false) (h3 : bg [92, 123] (l.drop i) = true) (hc : inG = true → bg [92, 41] (l.drop i) = false) :
    Calls Try.prog 37 #[.pointer (some ⟨T, 0, none⟩)] w (YNode false w B T A n c l v ns g i cl inG) := by
  have hnl := h.hn
  have hG0 := Lib.hid (held_new w 58 #[.pointer (some ⟨T, 0, none⟩)])
  have hb0 := Lib.hid ((Below.refl w.heap.size w).alloc (Nat.le_refl _) (.cells #[.pointer (some ⟨T, 0, none⟩)] 58))
  have h0 := h.keep hb0.out
  have hB0 := Lib.hid (Below.refl (w.alloc (.cells #[.pointer (some ⟨T, 0, none⟩)] 58)).heap.size (w.alloc (.cells #[.pointer (some ⟨T, 0, none⟩)] 58)))
  have hC1 := Lib.hid (fun w3 (hb : Below (w.alloc (.cells #[.pointer (some ⟨T, 0, none⟩)] 58)).heap.size (w.alloc (.cells #[.pointer (some ⟨T, 0, none⟩)] 58)) w3) => comes_is (h0.keep hb) ⟨#[92, 40]⟩ false h1)
  have hC2 := Lib.hid (fun w3 (hb : Below (w.alloc (.cells #[.pointer (some ⟨T, 0, none⟩)] 58)).heap.size (w.alloc (.cells #[.pointer (some ⟨T, 0, none⟩)] 58)) w3) => comes_is (h0.keep hb) ⟨#[92, 41]⟩ false h2)
  have hC3 := Lib.hid (fun w3 (hb : Below (w.alloc (.cells #[.pointer (some ⟨T, 0, none⟩)] 58)).heap.size (w.alloc (.cells #[.pointer (some ⟨T, 0, none⟩)] 58)) w3) => comes_is (h0.keep hb) ⟨#[92, 123]⟩ true h3)
  have hW := Lib.hid (fun (w3 : World) (hb : Below (w.alloc (.cells #[.pointer (some ⟨T, 0, none⟩)] 58)).heap.size (w.alloc (.cells #[.pointer (some ⟨T, 0, none⟩)] 58)) w3) => wrong_at (h0.keep hb) 13 13 rfl)
  have hfin := Lib.hid (fun (w' : World) (z : Ending) (y : YBad w B T A n c l v i 13 z w') => y.node (inG := inG) (ns := ns) (g := g) (cl := cl) (by omega) hc (fun ps lv => by rw [atom_ivl h3]; rfl) (by decide))
  clear h h0 hnl hc hi
  go_enter Try.func37, Try.ntmps37
  go_wp2_with (first
    | (go_at_call 26; with_reducible show Calls _ _ #[_, Value.string {data := #[92, 40]}] _ _; refine (hC1.out _ hB0.out).mono ?_; rintro y w1 ⟨rfl, hb⟩; have hB1 := Lib.hid (hB0.out.trans (hb.mono hB0.out.size)); have z1 := (hG0.out.keep hB1.out).at_ (i := 0) rfl; clear hb)
    | (go_at_call 26; with_reducible show Calls _ _ #[_, Value.string {data := #[92, 41]}] _ _; refine (hC2.out _ hB1.out).mono ?_; rintro y w2 ⟨rfl, hb⟩; have hB2 := Lib.hid (hB1.out.trans (hb.mono hB1.out.size)); have z2 := (hG0.out.keep hB2.out).at_ (i := 0) rfl; clear hb)
    | (go_at_call 26; with_reducible show Calls _ _ #[_, Value.string {data := #[92, 123]}] _ _; refine (hC3.out _ hB2.out).mono ?_; rintro y w3 ⟨rfl, hb⟩; have hB3 := Lib.hid (hB2.out.trans (hb.mono hB2.out.size)); have z3 := (hG0.out.keep hB3.out).at_ (i := 0) rfl; clear hb)
    | (go_at_call 35; refine (hW.out _ hB3.out).mono ?_; intro x w5 hy; obtain ⟨rfl, hy⟩ := hy.ret; replace hy := Lib.hid (hfin.out _ _ (hy.from (ChP.of_below (hb0.out.trans (hB3.out.mono hb0.out.size)))))))
  go_ret
  exact hy.out
set_option maxHeartbeats 8000000 in
theorem atom_one_any (hi : i < n) (h1 : bg [92, 40] (l.drop i) = false) (h2 : bg [92, 41] (l.drop i) = false) (h3 : bg [92, 123] (l.drop i) = false) (h4 : bg [36] (l.drop i) = false) (hc : inG = true → bg [92, 41] (l.drop i) = false) :
    Calls Try.prog 37 #[.pointer (some ⟨T, 0, none⟩)] w (YNode false w B T A n c l v ns g i cl inG) := by
  have hnl := h.hn
  have hG0 := Lib.hid (held_new w 58 #[.pointer (some ⟨T, 0, none⟩)])
  have hb0 := Lib.hid ((Below.refl w.heap.size w).alloc (Nat.le_refl _) (.cells #[.pointer (some ⟨T, 0, none⟩)] 58))
  have h0 := h.keep hb0.out
  have hB0 := Lib.hid (Below.refl (w.alloc (.cells #[.pointer (some ⟨T, 0, none⟩)] 58)).heap.size (w.alloc (.cells #[.pointer (some ⟨T, 0, none⟩)] 58)))
  have hC1 := Lib.hid (fun w3 (hb : Below (w.alloc (.cells #[.pointer (some ⟨T, 0, none⟩)] 58)).heap.size (w.alloc (.cells #[.pointer (some ⟨T, 0, none⟩)] 58)) w3) => comes_is (h0.keep hb) ⟨#[92, 40]⟩ false h1)
  have hC2 := Lib.hid (fun w3 (hb : Below (w.alloc (.cells #[.pointer (some ⟨T, 0, none⟩)] 58)).heap.size (w.alloc (.cells #[.pointer (some ⟨T, 0, none⟩)] 58)) w3) => comes_is (h0.keep hb) ⟨#[92, 41]⟩ false h2)
  have hC3 := Lib.hid (fun w3 (hb : Below (w.alloc (.cells #[.pointer (some ⟨T, 0, none⟩)] 58)).heap.size (w.alloc (.cells #[.pointer (some ⟨T, 0, none⟩)] 58)) w3) => comes_is (h0.keep hb) ⟨#[92, 123]⟩ false h3)
  have hT := Lib.hid (fun (w3 : World) (hb : Below (w.alloc (.cells #[.pointer (some ⟨T, 0, none⟩)] 58)).heap.size (w.alloc (.cells #[.pointer (some ⟨T, 0, none⟩)] 58)) w3) => take_no (h0.keep hb) ⟨#[36]⟩ h4)
  have hO := Lib.hid (fun (w3 : World) (hb : Below (w.alloc (.cells #[.pointer (some ⟨T, 0, none⟩)] 58)).heap.size (w.alloc (.cells #[.pointer (some ⟨T, 0, none⟩)] 58)) w3) => one_any (h0.keep hb) hi)
  have hfin := Lib.hid (fun (w' : World) (z : Ending) (y : YAm w B T A n c l v ns g i cl (oneA l i) z w') => y.node (inG := inG) (by omega) hc (atom_one (by omega) h1 h2 h3 h4) (fun q => one_bad (by omega)) (fun j nd => one_nod (by omega)))
  generalize oneA l i = a at *
  clear h h0 hnl hc hi h1 h2 h3 h4
  go_enter Try.func37, Try.ntmps37
  go_wp2_with (first
    | (go_at_call 26; with_reducible show Calls _ _ #[_, Value.string {data := #[92, 40]}] _ _; refine (hC1.out _ hB0.out).mono ?_; rintro y w1 ⟨rfl, hb⟩; have hB1 := Lib.hid (hB0.out.trans (hb.mono hB0.out.size)); have z1 := (hG0.out.keep hB1.out).at_ (i := 0) rfl; clear hb)
    | (go_at_call 26; with_reducible show Calls _ _ #[_, Value.string {data := #[92, 41]}] _ _; refine (hC2.out _ hB1.out).mono ?_; rintro y w2 ⟨rfl, hb⟩; have hB2 := Lib.hid (hB1.out.trans (hb.mono hB1.out.size)); have z2 := (hG0.out.keep hB2.out).at_ (i := 0) rfl; clear hb)
    | (go_at_call 26; with_reducible show Calls _ _ #[_, Value.string {data := #[92, 123]}] _ _; refine (hC3.out _ hB2.out).mono ?_; rintro y w3 ⟨rfl, hb⟩; have hB3 := Lib.hid (hB2.out.trans (hb.mono hB2.out.size)); have z3 := (hG0.out.keep hB3.out).at_ (i := 0) rfl; clear hb)
    | (go_at_call 23; refine (hT.out _ hB3.out).mono ?_; rintro y w4 ⟨rfl, hb⟩; have hB4 := Lib.hid (hB3.out.trans (hb.mono hB3.out.size)); have z4 := (hG0.out.keep hB4.out).at_ (i := 0) rfl; clear hb)
    | (go_at_call 51; refine (hO.out _ hB4.out).mono ?_; intro x w5 hy; obtain ⟨z, rfl, hy⟩ := hy.ret; replace hy := Lib.hid (hfin.out _ _ (hy.from (ChP.of_below (hb0.out.trans (hB4.out.mono hb0.out.size)))))))
  go_ret
  exact hy.out
set_option maxHeartbeats 8000000 in
theorem atom_dol_any (hi : i < n) (h1 : bg [92, 40] (l.drop i) = false) (h2 : bg [92, 41] (l.drop i) = false) (h3 : bg [92, 123] (l.drop i) = false) (h4 : bg [36] (l.drop i) = true) (hc : inG = true → bg [92, 41] (l.drop i) = false) :
    Calls Try.prog 37 #[.pointer (some ⟨T, 0, none⟩)] w (YNode false w B T A n c l v ns g i cl inG) := by
  have hnl := h.hn
  have hG0 := Lib.hid (held_new w 58 #[.pointer (some ⟨T, 0, none⟩)])
  have hb0 := Lib.hid ((Below.refl w.heap.size w).alloc (Nat.le_refl _) (.cells #[.pointer (some ⟨T, 0, none⟩)] 58))
  have h0 := h.keep hb0.out
  have hB0 := Lib.hid (Below.refl (w.alloc (.cells #[.pointer (some ⟨T, 0, none⟩)] 58)).heap.size (w.alloc (.cells #[.pointer (some ⟨T, 0, none⟩)] 58)))
  have hC1 := Lib.hid (fun w3 (hb : Below (w.alloc (.cells #[.pointer (some ⟨T, 0, none⟩)] 58)).heap.size (w.alloc (.cells #[.pointer (some ⟨T, 0, none⟩)] 58)) w3) => comes_is (h0.keep hb) ⟨#[92, 40]⟩ false h1)
  have hC2 := Lib.hid (fun w3 (hb : Below (w.alloc (.cells #[.pointer (some ⟨T, 0, none⟩)] 58)).heap.size (w.alloc (.cells #[.pointer (some ⟨T, 0, none⟩)] 58)) w3) => comes_is (h0.keep hb) ⟨#[92, 41]⟩ false h2)
  have hC3 := Lib.hid (fun w3 (hb : Below (w.alloc (.cells #[.pointer (some ⟨T, 0, none⟩)] 58)).heap.size (w.alloc (.cells #[.pointer (some ⟨T, 0, none⟩)] 58)) w3) => comes_is (h0.keep hb) ⟨#[92, 123]⟩ false h3)
  have hT := Lib.hid (fun (w3 : World) (hb : Below (w.alloc (.cells #[.pointer (some ⟨T, 0, none⟩)] 58)).heap.size (w.alloc (.cells #[.pointer (some ⟨T, 0, none⟩)] 58)) w3) => take_yes (h0.keep hb) ⟨#[36]⟩ h4 1 rfl (by decide))
  have hGc := Lib.hid (fun (w3 w4 : World) (hb : Below (w.alloc (.cells #[.pointer (some ⟨T, 0, none⟩)] 58)).heap.size (w.alloc (.cells #[.pointer (some ⟨T, 0, none⟩)] 58)) w3) (k : ChP w3 w4 T v v) => ((hG0.out.keep hb).chp k (show w.heap.size ≠ T by have := h.lt; omega) (h.own_lt (Nat.le_refl w.heap.size))).at_ (i := 0) rfl)
  have hD : Hid (∀ w4, Psr w4 B T A n c l v ns g (i + 1) cl 0 → Calls Try.prog 50 #[.pointer (some ⟨T, 0, none⟩)] w4 (YPut w4 B T A n c l v ns g cl (i + 1) (if i + 1 = l.length ∨ bg [92, 41] (l.drop (i + 1)) = true then eolN else setN (oneF 36)))) := by
    refine Lib.hid fun w4 h4 => ?_
    split
    · rename_i hq; exact dollar_eol h4 (hq.imp (fun e => by omega) id)
    · rename_i hq; exact dollar_byte h4 (fun e => hq (.inl (by omega))) (by cases hz : bg [92, 41] (l.drop (i + 1)) with | false => rfl | true => exact absurd (.inr hz) hq)
  have hfin := Lib.hid (fun (w' : World) (z : Ending) (y : YPut w B T A n c l v ns g cl (i + 1) (if i + 1 = l.length ∨ bg [92, 41] (l.drop (i + 1)) = true then eolN else setN (oneF 36)) z w') => y.node (inG := inG) (by omega) hc (atom_dol h4) (by omega))
  generalize (if i + 1 = l.length ∨ bg [92, 41] (l.drop (i + 1)) = true then eolN else setN (oneF 36)) = nd at *
  clear h h0 hnl hc hi h1 h2 h3 h4
  go_enter Try.func37, Try.ntmps37
  go_wp2_with (first
    | (go_at_call 26; with_reducible show Calls _ _ #[_, Value.string {data := #[92, 40]}] _ _; refine (hC1.out _ hB0.out).mono ?_; rintro y w1 ⟨rfl, hb⟩; have hB1 := Lib.hid (hB0.out.trans (hb.mono hB0.out.size)); have z1 := (hG0.out.keep hB1.out).at_ (i := 0) rfl; clear hb)
    | (go_at_call 26; with_reducible show Calls _ _ #[_, Value.string {data := #[92, 41]}] _ _; refine (hC2.out _ hB1.out).mono ?_; rintro y w2 ⟨rfl, hb⟩; have hB2 := Lib.hid (hB1.out.trans (hb.mono hB1.out.size)); have z2 := (hG0.out.keep hB2.out).at_ (i := 0) rfl; clear hb)
    | (go_at_call 26; with_reducible show Calls _ _ #[_, Value.string {data := #[92, 123]}] _ _; refine (hC3.out _ hB2.out).mono ?_; rintro y w3 ⟨rfl, hb⟩; have hB3 := Lib.hid (hB2.out.trans (hb.mono hB2.out.size)); have z3 := (hG0.out.keep hB3.out).at_ (i := 0) rfl; clear hb)
    | (go_at_call 23; refine (hT.out _ hB3.out).mono ?_; rintro y w4 ⟨rfl, -, h4, k4⟩; have z4 := hGc.out _ _ hB3.out k4; replace h4 := Lib.hid h4; replace k4 := Lib.hid ((ChP.of_below (hb0.out.trans (hB3.out.mono hb0.out.size))).trans k4))
    | (go_at_call 50; refine (hD.out _ h4.out).mono ?_; intro x w5 hy; obtain ⟨z, rfl, hy⟩ := hy.ret; replace hy := Lib.hid (hfin.out _ _ (hy.from k4.out))))
  go_ret
  exact hy.out
theorem atom_any (hi : i < n) (hc : inG = true → bg [92, 41] (l.drop i) = false) (hB : ∀ k, k < n - i → BrOK k) :
    Calls Try.prog 37 #[.pointer (some ⟨T, 0, none⟩)] w (YNode false w B T A n c l v ns g i cl inG) := by
  cases h1 : bg [92, 40] (l.drop i) with
  | true => exact atom_opn_any h h1 hB
  | false =>
    cases h2 : bg [92, 41] (l.drop i) with
    | true => exact atom_par_any h hi h1 h2 hc
    | false =>
      cases h3 : bg [92, 123] (l.drop i) with
      | true => exact atom_ivl_any h hi h1 h2 h3 hc
      | false =>
        cases h4 : bg [36] (l.drop i) with
        | true => exact atom_dol_any h hi h1 h2 h3 h4 hc
        | false => exact atom_one_any h hi h1 h2 h3 h4 hc
end
end Go.Proofs.Ytnfbgpjadnlgbaa
