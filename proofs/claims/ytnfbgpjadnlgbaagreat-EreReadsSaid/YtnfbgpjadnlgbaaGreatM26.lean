/- Contract of the parser of basic texts: atom, given those of branch. Contract of the parser of basic texts: piece, given those of branch. -/
import Derived.Test.YtnfbgpjadnlgbaaGreatM25
set_option linter.unusedVariables false
set_option maxRecDepth 100000
namespace Go.Proofs.YtnfbgpjadnlgbaaGreat
open Go.RowKit

theorem atom_par {t : List UInt8} {i : Nat} (h : bg [92, 41] (t.drop i) = true) : atomA t i = .bad 14 := by
  obtain ⟨r, hr⟩ := drop_two h
  unfold atomA; rw [hr]; rfl
theorem atom_ivl {t : List UInt8} {i : Nat} (h : bg [92, 123] (t.drop i) = true) : atomA t i = .bad 13 := by
  obtain ⟨r, hr⟩ := drop_two h
  unfold atomA; rw [hr]; rfl
theorem atom_one {t : List UInt8} {i : Nat} (hi : i < t.length) (h1 : bg [92, 40] (t.drop i) = false) (h2 : bg [92, 41] (t.drop i) = false) (h3 : bg [92, 123] (t.drop i) = false) (h4 : bg [36] (t.drop i) = false) : atomA t i = oneA t i := by
  have hx := List.drop_eq_getElem_cons hi
  generalize t[i] = x at hx
  unfold atomA
  rw [one_at hx]
  rw [hx] at h1 h2 h3 h4 ⊢
  have h36 := bg1 h4
  simp only [atomR, oneR]
  by_cases h92 : x = 92
  · subst h92
    rw [if_pos rfl, if_neg (by decide), if_neg (by decide), if_pos rfl]
    simp only [bg_cons, beq_self_eq_true, Bool.true_and] at h1 h2 h3
    exact escA_esc i h1 h2 h3
  · rw [if_neg h92]
    by_cases h91 : x = 91
    · subst h91; rfl
    · rw [if_neg h91, if_neg h91, if_neg h92]
      by_cases h46 : x = 46
      · rw [if_pos h46, if_pos h46]
      · rw [if_neg h46, if_neg h46, if_neg (fun e => h36 e.1)]
theorem atom_dol {t : List UInt8} {i : Nat} (hb : bg [36] (t.drop i) = true) : atomA t i = .nod (i + 1) (if i + 1 = t.length ∨ bg [92, 41] (t.drop (i + 1)) = true then eolN else setN (oneF 36)) := by
  obtain ⟨r, hr⟩ := drop_one hb
  obtain ⟨hi, -, hd⟩ := drop_at hr
  unfold atomA
  rw [hr, hd]
  simp only [atomR, ofL_one]
  rw [if_neg (by decide), if_neg (by decide), if_neg (by decide)]
  have hl : (r = []) ↔ (i + 1 = t.length) := by
    rw [← List.length_eq_zero_iff, ← hd, List.length_drop]; omega
  simp only [true_and, hl]
  split
  · rfl
  · rfl

section
variable {w : World} {B T : Nat} {A : Option Addr} {n c : Nat} {l : List UInt8} {v : Value} {ns : List Nod} {g i : Nat} {cl : Nat → Bool} (h : Psr w B T A n c l v ns g i cl 0) {inG : Bool}
include h
set_option maxHeartbeats 8000000 in
theorem atom_opn_any (h1 : bg [92, 40] (l.drop i) = true) (hB : ∀ k, k < n - i → BrOK k) :
    Calls Tryz.prog 45 #[.pointer (some ⟨T, 0, none⟩)] w (YNode false w B T A n c l v ns g i cl inG) := by
  have hnl := h.hn
  have hG0 := Lib.hid (held_new w 64 #[.pointer (some ⟨T, 0, none⟩)])
  have hb0 := Lib.hid ((Below.refl w.heap.size w).alloc (Nat.le_refl _) (.cells #[.pointer (some ⟨T, 0, none⟩)] 64))
  have h0 := h.keep hb0.out
  have hB0 := Lib.hid (Below.refl (w.alloc (.cells #[.pointer (some ⟨T, 0, none⟩)] 64)).heap.size (w.alloc (.cells #[.pointer (some ⟨T, 0, none⟩)] 64)))
  have hC1 := Lib.hid (fun w3 (hb : Below (w.alloc (.cells #[.pointer (some ⟨T, 0, none⟩)] 64)).heap.size (w.alloc (.cells #[.pointer (some ⟨T, 0, none⟩)] 64)) w3) => comes_is (h0.keep hb) ⟨#[92, 40]⟩ true h1)
  have hP := Lib.hid (fun (w3 : World) (hb : Below (w.alloc (.cells #[.pointer (some ⟨T, 0, none⟩)] 64)).heap.size (w.alloc (.cells #[.pointer (some ⟨T, 0, none⟩)] 64)) w3) => bparen_any (inG := inG) (h0.keep hb) h1 (hG0.out.keep hb) (show w.heap.size ≠ T by have := h.lt; omega) (h.own_lt (Nat.le_refl w.heap.size)) hB)
  clear h h0 h1 hB hnl
  go_enter Tryz.func45, Tryz.ntmps45
  go_wp2_with (first
    | (go_at_call 29; with_reducible show Calls _ _ #[_, Value.string {data := #[92, 40]}] _ _; refine (hC1.out _ hB0.out).mono ?_; rintro y w1 ⟨rfl, hb⟩; have hB1 := Lib.hid (hB0.out.trans (hb.mono hB0.out.size)); have z1 := (hG0.out.keep hB1.out).at_ (i := 0) rfl; clear hb)
    | (go_at_call 62; refine (hP.out _ hB1.out).mono ?_; intro x w5 hy; obtain ⟨z, rfl, hy⟩ := hy.ret; replace hy := Lib.hid (hy.from (ChP.of_below (hb0.out.trans (hB1.out.mono hb0.out.size))))))
  go_ret
  exact hy.out
set_option maxHeartbeats 8000000 in
theorem atom_par_any (hi : i < n) (h1 : bg [92, 40] (l.drop i) = false) (h2 : bg [92, 41] (l.drop i) = true) (hc : inG = true → bg [92, 41] (l.drop i) = false) :
    Calls Tryz.prog 45 #[.pointer (some ⟨T, 0, none⟩)] w (YNode false w B T A n c l v ns g i cl inG) := by
  have hnl := h.hn
  have hG0 := Lib.hid (held_new w 64 #[.pointer (some ⟨T, 0, none⟩)])
  have hb0 := Lib.hid ((Below.refl w.heap.size w).alloc (Nat.le_refl _) (.cells #[.pointer (some ⟨T, 0, none⟩)] 64))
  have h0 := h.keep hb0.out
  have hB0 := Lib.hid (Below.refl (w.alloc (.cells #[.pointer (some ⟨T, 0, none⟩)] 64)).heap.size (w.alloc (.cells #[.pointer (some ⟨T, 0, none⟩)] 64)))
  have hC1 := Lib.hid (fun w3 (hb : Below (w.alloc (.cells #[.pointer (some ⟨T, 0, none⟩)] 64)).heap.size (w.alloc (.cells #[.pointer (some ⟨T, 0, none⟩)] 64)) w3) => comes_is (h0.keep hb) ⟨#[92, 40]⟩ false h1)
  have hC2 := Lib.hid (fun w3 (hb : Below (w.alloc (.cells #[.pointer (some ⟨T, 0, none⟩)] 64)).heap.size (w.alloc (.cells #[.pointer (some ⟨T, 0, none⟩)] 64)) w3) => comes_is (h0.keep hb) ⟨#[92, 41]⟩ true h2)
  have hW := Lib.hid (fun (w3 : World) (hb : Below (w.alloc (.cells #[.pointer (some ⟨T, 0, none⟩)] 64)).heap.size (w.alloc (.cells #[.pointer (some ⟨T, 0, none⟩)] 64)) w3) => wrong_at (h0.keep hb) 14 14 rfl)
  have hfin := Lib.hid (fun (w' : World) (z : Ending) (y : YBad w B T A n c l v i 14 z w') => y.node (inG := inG) (ns := ns) (g := g) (cl := cl) (by omega) hc (fun ps lv => by rw [atom_par h2]; rfl) (by decide))
  clear h h0 hnl hc hi
  go_enter Tryz.func45, Tryz.ntmps45
  go_wp2_with (first
    | (go_at_call 29; with_reducible show Calls _ _ #[_, Value.string {data := #[92, 40]}] _ _; refine (hC1.out _ hB0.out).mono ?_; rintro y w1 ⟨rfl, hb⟩; have hB1 := Lib.hid (hB0.out.trans (hb.mono hB0.out.size)); have z1 := (hG0.out.keep hB1.out).at_ (i := 0) rfl; clear hb)
    | (go_at_call 29; with_reducible show Calls _ _ #[_, Value.string {data := #[92, 41]}] _ _; refine (hC2.out _ hB1.out).mono ?_; rintro y w2 ⟨rfl, hb⟩; have hB2 := Lib.hid (hB1.out.trans (hb.mono hB1.out.size)); have z2 := (hG0.out.keep hB2.out).at_ (i := 0) rfl; clear hb)
    | (go_at_call 43; refine (hW.out _ hB2.out).mono ?_; intro x w5 hy; obtain ⟨rfl, hy⟩ := hy.ret; replace hy := Lib.hid (hfin.out _ _ (hy.from (ChP.of_below (hb0.out.trans (hB2.out.mono hb0.out.size)))))))
  go_ret
  exact hy.out
set_option maxHeartbeats 8000000 in
theorem atom_ivl_any (hi : i < n) (h1 : bg [92, 40] (l.drop i) = false) (h2 : bg [92, 41] (l.drop i) = false) (h3 : bg [92, 123] (l.drop i) = true) (hc : inG = true → bg [92, 41] (l.drop i) = false) :
    Calls Tryz.prog 45 #[.pointer (some ⟨T, 0, none⟩)] w (YNode false w B T A n c l v ns g i cl inG) := by
  have hnl := h.hn
  have hG0 := Lib.hid (held_new w 64 #[.pointer (some ⟨T, 0, none⟩)])
  have hb0 := Lib.hid ((Below.refl w.heap.size w).alloc (Nat.le_refl _) (.cells #[.pointer (some ⟨T, 0, none⟩)] 64))
  have h0 := h.keep hb0.out
  have hB0 := Lib.hid (Below.refl (w.alloc (.cells #[.pointer (some ⟨T, 0, none⟩)] 64)).heap.size (w.alloc (.cells #[.pointer (some ⟨T, 0, none⟩)] 64)))
  have hC1 := Lib.hid (fun w3 (hb : Below (w.alloc (.cells #[.pointer (some ⟨T, 0, none⟩)] 64)).heap.size (w.alloc (.cells #[.pointer (some ⟨T, 0, none⟩)] 64)) w3) => comes_is (h0.keep hb) ⟨#[92, 40]⟩ false h1)
  have hC2 := Lib.hid (fun w3 (hb : Below (w.alloc (.cells #[.pointer (some ⟨T, 0, none⟩)] 64)).heap.size (w.alloc (.cells #[.pointer (some ⟨T, 0, none⟩)] 64)) w3) => comes_is (h0.keep hb) ⟨#[92, 41]⟩ false h2)
  have hC3 := Lib.hid (fun w3 (hb : Below (w.alloc (.cells #[.pointer (some ⟨T, 0, none⟩)] 64)).heap.size (w.alloc (.cells #[.pointer (some ⟨T, 0, none⟩)] 64)) w3) => comes_is (h0.keep hb) ⟨#[92, 123]⟩ true h3)
  have hW := Lib.hid (fun (w3 : World) (hb : Below (w.alloc (.cells #[.pointer (some ⟨T, 0, none⟩)] 64)).heap.size (w.alloc (.cells #[.pointer (some ⟨T, 0, none⟩)] 64)) w3) => wrong_at (h0.keep hb) 13 13 rfl)
  have hfin := Lib.hid (fun (w' : World) (z : Ending) (y : YBad w B T A n c l v i 13 z w') => y.node (inG := inG) (ns := ns) (g := g) (cl := cl) (by omega) hc (fun ps lv => by rw [atom_ivl h3]; rfl) (by decide))
  clear h h0 hnl hc hi
  go_enter Tryz.func45, Tryz.ntmps45
  go_wp2_with (first
    | (go_at_call 29; with_reducible show Calls _ _ #[_, Value.string {data := #[92, 40]}] _ _; refine (hC1.out _ hB0.out).mono ?_; rintro y w1 ⟨rfl, hb⟩; have hB1 := Lib.hid (hB0.out.trans (hb.mono hB0.out.size)); have z1 := (hG0.out.keep hB1.out).at_ (i := 0) rfl; clear hb)
    | (go_at_call 29; with_reducible show Calls _ _ #[_, Value.string {data := #[92, 41]}] _ _; refine (hC2.out _ hB1.out).mono ?_; rintro y w2 ⟨rfl, hb⟩; have hB2 := Lib.hid (hB1.out.trans (hb.mono hB1.out.size)); have z2 := (hG0.out.keep hB2.out).at_ (i := 0) rfl; clear hb)
    | (go_at_call 29; with_reducible show Calls _ _ #[_, Value.string {data := #[92, 123]}] _ _; refine (hC3.out _ hB2.out).mono ?_; rintro y w3 ⟨rfl, hb⟩; have hB3 := Lib.hid (hB2.out.trans (hb.mono hB2.out.size)); have z3 := (hG0.out.keep hB3.out).at_ (i := 0) rfl; clear hb)
    | (go_at_call 43; refine (hW.out _ hB3.out).mono ?_; intro x w5 hy; obtain ⟨rfl, hy⟩ := hy.ret; replace hy := Lib.hid (hfin.out _ _ (hy.from (ChP.of_below (hb0.out.trans (hB3.out.mono hb0.out.size)))))))
  go_ret
  exact hy.out
set_option maxHeartbeats 8000000 in
theorem atom_one_any (hi : i < n) (h1 : bg [92, 40] (l.drop i) = false) (h2 : bg [92, 41] (l.drop i) = false) (h3 : bg [92, 123] (l.drop i) = false) (h4 : bg [36] (l.drop i) = false) (hc : inG = true → bg [92, 41] (l.drop i) = false) :
    Calls Tryz.prog 45 #[.pointer (some ⟨T, 0, none⟩)] w (YNode false w B T A n c l v ns g i cl inG) := by
  have hnl := h.hn
  have hG0 := Lib.hid (held_new w 64 #[.pointer (some ⟨T, 0, none⟩)])
  have hb0 := Lib.hid ((Below.refl w.heap.size w).alloc (Nat.le_refl _) (.cells #[.pointer (some ⟨T, 0, none⟩)] 64))
  have h0 := h.keep hb0.out
  have hB0 := Lib.hid (Below.refl (w.alloc (.cells #[.pointer (some ⟨T, 0, none⟩)] 64)).heap.size (w.alloc (.cells #[.pointer (some ⟨T, 0, none⟩)] 64)))
  have hC1 := Lib.hid (fun w3 (hb : Below (w.alloc (.cells #[.pointer (some ⟨T, 0, none⟩)] 64)).heap.size (w.alloc (.cells #[.pointer (some ⟨T, 0, none⟩)] 64)) w3) => comes_is (h0.keep hb) ⟨#[92, 40]⟩ false h1)
  have hC2 := Lib.hid (fun w3 (hb : Below (w.alloc (.cells #[.pointer (some ⟨T, 0, none⟩)] 64)).heap.size (w.alloc (.cells #[.pointer (some ⟨T, 0, none⟩)] 64)) w3) => comes_is (h0.keep hb) ⟨#[92, 41]⟩ false h2)
  have hC3 := Lib.hid (fun w3 (hb : Below (w.alloc (.cells #[.pointer (some ⟨T, 0, none⟩)] 64)).heap.size (w.alloc (.cells #[.pointer (some ⟨T, 0, none⟩)] 64)) w3) => comes_is (h0.keep hb) ⟨#[92, 123]⟩ false h3)
  have hT := Lib.hid (fun (w3 : World) (hb : Below (w.alloc (.cells #[.pointer (some ⟨T, 0, none⟩)] 64)).heap.size (w.alloc (.cells #[.pointer (some ⟨T, 0, none⟩)] 64)) w3) => take_no (h0.keep hb) ⟨#[36]⟩ h4)
  have hO := Lib.hid (fun (w3 : World) (hb : Below (w.alloc (.cells #[.pointer (some ⟨T, 0, none⟩)] 64)).heap.size (w.alloc (.cells #[.pointer (some ⟨T, 0, none⟩)] 64)) w3) => one_any (h0.keep hb) hi)
  have hfin := Lib.hid (fun (w' : World) (z : Ending) (y : YAm w B T A n c l v ns g i cl (oneA l i) z w') => y.node (inG := inG) (by omega) hc (atom_one (by omega) h1 h2 h3 h4) (fun q => one_bad (by omega)) (fun j nd => one_nod (by omega)))
  generalize oneA l i = a at *
  clear h h0 hnl hc hi h1 h2 h3 h4
  go_enter Tryz.func45, Tryz.ntmps45
  go_wp2_with (first
    | (go_at_call 29; with_reducible show Calls _ _ #[_, Value.string {data := #[92, 40]}] _ _; refine (hC1.out _ hB0.out).mono ?_; rintro y w1 ⟨rfl, hb⟩; have hB1 := Lib.hid (hB0.out.trans (hb.mono hB0.out.size)); have z1 := (hG0.out.keep hB1.out).at_ (i := 0) rfl; clear hb)
    | (go_at_call 29; with_reducible show Calls _ _ #[_, Value.string {data := #[92, 41]}] _ _; refine (hC2.out _ hB1.out).mono ?_; rintro y w2 ⟨rfl, hb⟩; have hB2 := Lib.hid (hB1.out.trans (hb.mono hB1.out.size)); have z2 := (hG0.out.keep hB2.out).at_ (i := 0) rfl; clear hb)
    | (go_at_call 29; with_reducible show Calls _ _ #[_, Value.string {data := #[92, 123]}] _ _; refine (hC3.out _ hB2.out).mono ?_; rintro y w3 ⟨rfl, hb⟩; have hB3 := Lib.hid (hB2.out.trans (hb.mono hB2.out.size)); have z3 := (hG0.out.keep hB3.out).at_ (i := 0) rfl; clear hb)
    | (go_at_call 26; refine (hT.out _ hB3.out).mono ?_; rintro y w4 ⟨rfl, hb⟩; have hB4 := Lib.hid (hB3.out.trans (hb.mono hB3.out.size)); have z4 := (hG0.out.keep hB4.out).at_ (i := 0) rfl; clear hb)
    | (go_at_call 65; refine (hO.out _ hB4.out).mono ?_; intro x w5 hy; obtain ⟨z, rfl, hy⟩ := hy.ret; replace hy := Lib.hid (hfin.out _ _ (hy.from (ChP.of_below (hb0.out.trans (hB4.out.mono hb0.out.size)))))))
  go_ret
  exact hy.out
set_option maxHeartbeats 8000000 in
theorem atom_dol_any (hi : i < n) (h1 : bg [92, 40] (l.drop i) = false) (h2 : bg [92, 41] (l.drop i) = false) (h3 : bg [92, 123] (l.drop i) = false) (h4 : bg [36] (l.drop i) = true) (hc : inG = true → bg [92, 41] (l.drop i) = false) :
    Calls Tryz.prog 45 #[.pointer (some ⟨T, 0, none⟩)] w (YNode false w B T A n c l v ns g i cl inG) := by
  have hnl := h.hn
  have hG0 := Lib.hid (held_new w 64 #[.pointer (some ⟨T, 0, none⟩)])
  have hb0 := Lib.hid ((Below.refl w.heap.size w).alloc (Nat.le_refl _) (.cells #[.pointer (some ⟨T, 0, none⟩)] 64))
  have h0 := h.keep hb0.out
  have hB0 := Lib.hid (Below.refl (w.alloc (.cells #[.pointer (some ⟨T, 0, none⟩)] 64)).heap.size (w.alloc (.cells #[.pointer (some ⟨T, 0, none⟩)] 64)))
  have hC1 := Lib.hid (fun w3 (hb : Below (w.alloc (.cells #[.pointer (some ⟨T, 0, none⟩)] 64)).heap.size (w.alloc (.cells #[.pointer (some ⟨T, 0, none⟩)] 64)) w3) => comes_is (h0.keep hb) ⟨#[92, 40]⟩ false h1)
  have hC2 := Lib.hid (fun w3 (hb : Below (w.alloc (.cells #[.pointer (some ⟨T, 0, none⟩)] 64)).heap.size (w.alloc (.cells #[.pointer (some ⟨T, 0, none⟩)] 64)) w3) => comes_is (h0.keep hb) ⟨#[92, 41]⟩ false h2)
  have hC3 := Lib.hid (fun w3 (hb : Below (w.alloc (.cells #[.pointer (some ⟨T, 0, none⟩)] 64)).heap.size (w.alloc (.cells #[.pointer (some ⟨T, 0, none⟩)] 64)) w3) => comes_is (h0.keep hb) ⟨#[92, 123]⟩ false h3)
  have hT := Lib.hid (fun (w3 : World) (hb : Below (w.alloc (.cells #[.pointer (some ⟨T, 0, none⟩)] 64)).heap.size (w.alloc (.cells #[.pointer (some ⟨T, 0, none⟩)] 64)) w3) => take_yes (h0.keep hb) ⟨#[36]⟩ h4 1 rfl (by decide))
  have hGc := Lib.hid (fun (w3 w4 : World) (hb : Below (w.alloc (.cells #[.pointer (some ⟨T, 0, none⟩)] 64)).heap.size (w.alloc (.cells #[.pointer (some ⟨T, 0, none⟩)] 64)) w3) (k : ChP w3 w4 T v v) => ((hG0.out.keep hb).chp k (show w.heap.size ≠ T by have := h.lt; omega) (h.own_lt (Nat.le_refl w.heap.size))).at_ (i := 0) rfl)
  have hD : Hid (∀ w4, Psr w4 B T A n c l v ns g (i + 1) cl 0 → Calls Tryz.prog 64 #[.pointer (some ⟨T, 0, none⟩)] w4 (YPut w4 B T A n c l v ns g cl (i + 1) (if i + 1 = l.length ∨ bg [92, 41] (l.drop (i + 1)) = true then eolN else setN (oneF 36)))) := by
    refine Lib.hid fun w4 h4 => ?_
    split
    · rename_i hq; exact dollar_eol h4 (hq.imp (fun e => by omega) id)
    · rename_i hq; exact dollar_byte h4 (fun e => hq (.inl (by omega))) (by cases hz : bg [92, 41] (l.drop (i + 1)) with | false => rfl | true => exact absurd (.inr hz) hq)
  have hfin := Lib.hid (fun (w' : World) (z : Ending) (y : YPut w B T A n c l v ns g cl (i + 1) (if i + 1 = l.length ∨ bg [92, 41] (l.drop (i + 1)) = true then eolN else setN (oneF 36)) z w') => y.node (inG := inG) (by omega) hc (atom_dol h4) (by omega))
  generalize (if i + 1 = l.length ∨ bg [92, 41] (l.drop (i + 1)) = true then eolN else setN (oneF 36)) = nd at *
  clear h h0 hnl hc hi h1 h2 h3 h4
  go_enter Tryz.func45, Tryz.ntmps45
  go_wp2_with (first
    | (go_at_call 29; with_reducible show Calls _ _ #[_, Value.string {data := #[92, 40]}] _ _; refine (hC1.out _ hB0.out).mono ?_; rintro y w1 ⟨rfl, hb⟩; have hB1 := Lib.hid (hB0.out.trans (hb.mono hB0.out.size)); have z1 := (hG0.out.keep hB1.out).at_ (i := 0) rfl; clear hb)
    | (go_at_call 29; with_reducible show Calls _ _ #[_, Value.string {data := #[92, 41]}] _ _; refine (hC2.out _ hB1.out).mono ?_; rintro y w2 ⟨rfl, hb⟩; have hB2 := Lib.hid (hB1.out.trans (hb.mono hB1.out.size)); have z2 := (hG0.out.keep hB2.out).at_ (i := 0) rfl; clear hb)
    | (go_at_call 29; with_reducible show Calls _ _ #[_, Value.string {data := #[92, 123]}] _ _; refine (hC3.out _ hB2.out).mono ?_; rintro y w3 ⟨rfl, hb⟩; have hB3 := Lib.hid (hB2.out.trans (hb.mono hB2.out.size)); have z3 := (hG0.out.keep hB3.out).at_ (i := 0) rfl; clear hb)
    | (go_at_call 26; refine (hT.out _ hB3.out).mono ?_; rintro y w4 ⟨rfl, -, h4, k4⟩; have z4 := hGc.out _ _ hB3.out k4; replace h4 := Lib.hid h4; replace k4 := Lib.hid ((ChP.of_below (hb0.out.trans (hB3.out.mono hb0.out.size))).trans k4))
    | (go_at_call 64; refine (hD.out _ h4.out).mono ?_; intro x w5 hy; obtain ⟨z, rfl, hy⟩ := hy.ret; replace hy := Lib.hid (hfin.out _ _ (hy.from k4.out))))
  go_ret
  exact hy.out
theorem atom_any (hi : i < n) (hc : inG = true → bg [92, 41] (l.drop i) = false) (hB : ∀ k, k < n - i → BrOK k) :
    Calls Tryz.prog 45 #[.pointer (some ⟨T, 0, none⟩)] w (YNode false w B T A n c l v ns g i cl inG) := by
  cases h1 : bg [92, 40] (l.drop i) with
  | true => exact atom_opn_any h h1 hB
  | false =>
    cases h2 : bg [92, 41] (l.drop i) with
    | true => exact atom_par_any h hi h1 h2 hc
    | false =>
      cases h3 : bg [92, 123] (l.drop i) with
      | true => exact atom_ivl_any h hi h1 h2 h3 hc
      | false =>
        cases h4 : bg [36] (l.drop i) with
        | true => exact atom_dol_any h hi h1 h2 h3 h4 hc
        | false => exact atom_one_any h hi h1 h2 h3 h4 hc
end
end Go.Proofs.YtnfbgpjadnlgbaaGreat

set_option linter.unusedVariables false
set_option maxRecDepth 100000
namespace Go.Proofs.YtnfbgpjadnlgbaaGreat
open Go.RowKit

section
variable {t : List UInt8} {i : Nat} {ns : List Nod} {g : Nat} {cl : Nat → Bool} {ps : List Int} {lv : List (Nat × List Int)} {x : Int}
theorem step_star (hb : bg [42] (t.drop i) = true) (hl : ns.length < 1000) : step t ⟨.P x, i, ns, g, cl, ps, lv⟩ = .go ⟨.P (ns.length : Int), i + 1, ns ++ [repN x 0 (-1)], g, cl, ps, lv⟩ := by
  show stepP t _ x = _
  simp only [stepP, putS]
  rw [if_pos hb, if_pos hl]
theorem step_star_full (hb : bg [42] (t.drop i) = true) (hl : ¬ ns.length < 1000) : step t ⟨.P x, i, ns, g, cl, ps, lv⟩ = .bad (i + 1) 8 := by
  show stepP t _ x = _
  simp only [stepP, putS]
  rw [if_pos hb, if_neg hl]
theorem step_ivl (ha : bg [42] (t.drop i) = false) (hb : bg [92, 123] (t.drop i) = true) {lo hi : Int} {j : Nat} (hv : ivl t i = some (lo, hi, j)) (hl : ns.length < 1000) : step t ⟨.P x, i, ns, g, cl, ps, lv⟩ = .go ⟨.P (ns.length : Int), j, ns ++ [repN x lo hi], g, cl, ps, lv⟩ := by
  show stepP t _ x = _
  simp only [stepP, putS]
  rw [if_neg (by rw [ha]; decide), if_pos hb, hv]
  simp only
  rw [if_pos hl]
theorem step_ivl_full (ha : bg [42] (t.drop i) = false) (hb : bg [92, 123] (t.drop i) = true) {lo hi : Int} {j : Nat} (hv : ivl t i = some (lo, hi, j)) (hl : ¬ ns.length < 1000) : step t ⟨.P x, i, ns, g, cl, ps, lv⟩ = .bad j 8 := by
  show stepP t _ x = _
  simp only [stepP, putS]
  rw [if_neg (by rw [ha]; decide), if_pos hb, hv]
  simp only
  rw [if_neg hl]
theorem step_ivl_bad (ha : bg [42] (t.drop i) = false) (hb : bg [92, 123] (t.drop i) = true) (hv : ivl t i = none) : step t ⟨.P x, i, ns, g, cl, ps, lv⟩ = .bad i 13 := by
  show stepP t _ x = _
  simp only [stepP, putS]
  rw [if_neg (by rw [ha]; decide), if_pos hb, hv]
theorem step_off (ha : bg [42] (t.drop i) = false) (hb : bg [92, 123] (t.drop i) = false) : step t ⟨.P x, i, ns, g, cl, ps, lv⟩ = .go ⟨.L, i, ns, g, cl, ps ++ [x], lv⟩ := by
  show stepP t _ x = _
  simp only [stepP, putS]
  rw [if_neg (by rw [ha]; decide), if_neg (by rw [hb]; decide)]
theorem ivl_size {lo hi : Int} {j : Nat} (hv : ivl t i = some (lo, hi, j)) (hi' : i ≤ t.length) : i < j ∧ j ≤ t.length ∧ timesN lo hi = true := by
  unfold ivl at hv
  obtain ⟨⟨a, b, k⟩, h1, h2⟩ := Option.map_eq_some_iff.1 hv
  simp only [Prod.mk.injEq] at h2
  obtain ⟨rfl, rfl, rfl⟩ := h2
  have := ivB_ok h1
  rw [List.length_drop] at this
  exact ⟨by omega, by omega, this.2.1⟩
end

section
variable {w : World} {B T : Nat} {A : Option Addr} {n c : Nat} {l : List UInt8} {v : Value} {ns : List Nod} {g i : Nat} {cl : Nat → Bool} (h : Psr w B T A n c l v ns g i cl 0) {inG : Bool}
include h
/-- Behind a repetition. -/
theorem YPut.again {w0 w' : World} {v0 : Value} {ns0 : List Nod} {g0 i0 j : Nat} {cl0 : Nat → Bool} {nd : Nod} {x : Int} {e : Ending} (y : YPut w B T A n c l v ns g cl j nd e w') (h0 : ChP w0 w T v0 v) (hn : ns0.length ≤ ns.length) (hg : g0 ≤ g) (hi : i0 < i) (hj : i < j)
    (hs : ∀ ps lv, lv.isEmpty = !inG → Steps l ⟨.L, i0, ns0, g0, cl0, ps, lv⟩ ⟨.P x, i, ns, g, cl, ps, lv⟩)
    (hy : ∀ ps lv, ns.length < 1000 → step l ⟨.P x, i, ns, g, cl, ps, lv⟩ = .go ⟨.P (ns.length : Int), j, ns ++ [nd], g, cl, ps, lv⟩)
    (hz : ∀ ps lv, ¬ ns.length < 1000 → step l ⟨.P x, i, ns, g, cl, ps, lv⟩ = .bad j 8) : YNode false w0 B T A n c l v0 ns0 g0 i0 cl0 inG e w' ∧ leftP n T w' < leftP n T w := by
  have hle := h.le
  rcases y with ⟨hl, v', rfl, k, m⟩ | ⟨hl, v', rfl, k, m⟩
  · refine ⟨.inl ⟨_, v', _, _, _, _, rfl, ?_, k, h0.trans m, ?_, hg, by omega, fun ps lv hlv => (hs ps lv hlv).snoc (hy ps lv hl)⟩, ?_⟩
    · rw [List.length_append]; exact okP_last _
    · rw [List.length_append]; omega
    · rw [k.left, h.left]; omega
  · refine ⟨.inr ⟨v', _, _, _, _, _, by decide, rfl, k, h0.trans m, fun ps lv hlv => (hs ps lv hlv).ends (.bad (hz ps lv hl))⟩, ?_⟩
    rw [k.left0 (by decide), h.left]; omega

set_option maxHeartbeats 16000000 in
theorem piece_any (hi : i < n) (hc : inG = true → bg [92, 41] (l.drop i) = false) (hB : ∀ k, k < n - i → BrOK k) :
    Calls Tryz.prog 30 #[.pointer (some ⟨T, 0, none⟩)] w (YNode true w B T A n c l v ns g i cl inG) := by
  have hA := Lib.hid (atom_any h hi hc hB)
  have hns : n ≤ 100000 := h.txt.2.2.2.1
  clear h hi hc hB
  go_enter Tryz.func30, Tryz.ntmps30
  go_wp2_with (go_at_call 45; refine (hA.out).mono ?_; intro y w1 hy; obtain ⟨z, rfl, hy⟩ := hy.ret; replace hy := Lib.hid hy)
  go_loopw [3] (fun a wr => YNode false w B T A n c l v ns g i cl inG (.returned a) wr) (fun _ wr => leftP n T wr)
  case atStart => exact hy.out
  case round =>
    clear hA hy
    rcases hrel with ⟨x, v2, ns2, g2, i2, cl2, ea, ok2, h2, k2, q1, q2, q3, q4⟩ | ⟨v2, ns2, g2, i2, cl2, e2, he2, ea, h2, k2, q4⟩
    · obtain rfl := (Ending.returned.inj ea)
      clear ea
      have hF := Lib.hid (fine_any h2)
      rw [decide_eq_true rfl] at hF
      have hP := Lib.hid (fun w3 (hb : Below wr.heap.size wr w3) => h2.keep hb)
      have hnl := h2.hn
      have hle := h2.le
      cases hb1 : bg [42] (l.drop i2) with
      | true =>
        have hC := Lib.hid (take_yes h2 ⟨#[42]⟩ hb1 1 rfl (by decide))
        have hR := Lib.hid (fun (w4 : World) (h4 : Psr w4 B T A n c l v2 ns2 g2 (i2 + 1) cl2 0) => rep_any B T 0 v2 ns2 g2 w4 h4.bldr x 0 (-1))
        have hf := Lib.hid (fits_rep (g := (g2 : Int)) ok2 (show timesN 0 (-1) = true by decide))
        have hpo := Lib.hid (fun (w4 : World) (h4 : Psr w4 B T A n c l v2 ns2 g2 (i2 + 1) cl2 0) (y : Ending) (w5 : World) => put_of h4 hf.out (x := y) (w2 := w5))
        have hagain := Lib.hid (fun (w5 : World) (y : Ending) (z : YPut wr B T A n c l v2 ns2 g2 cl2 (i2 + 1) (repN x 0 (-1)) y w5) => YPut.again (inG := inG) h2 z k2 q1 q2 q3 (Nat.lt_succ_self i2) q4 (fun ps lv hl => step_star hb1 hl) (fun ps lv hl => step_star_full hb1 hl))
        clear h2 k2 q1 q2 q3 q4 ok2 hb1 hnl hle
        go_wp2_with (first
          | (go_at_call 24; refine (hF.out).mono ?_; rintro y w9 ⟨rfl, rfl⟩)
          | (go_at_call 26; refine (hC.out).mono ?_; rintro y w3 ⟨rfl, -, h3, k3⟩; have h3d := Lib.hid (h3.keep (Below.refl _ _).drew); have k3d := Lib.hid (k3.trans (ChP.of_below (Below.refl _ _).drew)); clear h3 k3)
          | (go_region_with (first
              | (go_at_call 46; refine (hR.out _ h3d.out).mono ?_; intro y w7 hx0; obtain ⟨z, rfl, hx⟩ := hpo.out _ h3d.out _ _ hx0; clear hx0; replace hx := Lib.hid hx)
              | (go_at_call 27; refine (hx.out).mono ?_; intro y w8 hy; obtain ⟨z, rfl, hy⟩ := hy.ret; replace hy := Lib.hid (hagain.out _ _ (hy.from k3d.out))))))
        all_goals
          refine ⟨?_, hy.out.2⟩
          (repeat apply Exists.intro)
          exact ⟨hy.out.1, rfl⟩
      | false =>
        have hC := Lib.hid (take_no h2 ⟨#[42]⟩ hb1)
        cases hb2 : bg [92, 123] (l.drop i2) with
        | true =>
          have hC2 := Lib.hid (fun w3 (hb : Below wr.heap.size wr w3) => comes_is (hP.out _ hb) ⟨#[92, 123]⟩ true hb2)
          cases hv : ivl l i2 with
          | none =>
            have hT := Lib.hid (fun w3 (hb : Below wr.heap.size wr w3) => times_no (hP.out _ hb) ⟨#[92, 123]⟩ ⟨#[92, 125]⟩ (by decide) (by decide) (by decide) x hv)
            have hst := Lib.hid (fun ps lv => step_ivl_bad (ns := ns2) (g := g2) (cl := cl2) (ps := ps) (lv := lv) (x := x) hb1 hb2 hv)
            have h2' := Lib.hid h2
            have k2' := Lib.hid k2
            have q4' := Lib.hid q4
            clear hb1 hb2 hv hnl h2 k2 q4 q1 q2 q3 ok2
            go_wp2_with (first
              | (go_at_call 24; refine (hF.out).mono ?_; rintro y w9 ⟨rfl, rfl⟩)
              | (go_at_call 26; refine (hC.out).mono ?_; rintro y w3 ⟨rfl, hb3⟩; replace hb3 := Lib.hid hb3)
              | (go_at_call 29; refine (hC2.out _ hb3.out).mono ?_; rintro y w4 ⟨rfl, hb4⟩; replace hb4 := Lib.hid (hb3.out.trans (hb4.mono hb3.out.size)))
              | (go_at_call 47; refine (hT.out _ hb4.out).mono ?_; intro y w5 hy; obtain ⟨v5, ns5, g5, cl5, rfl, h5, k5⟩ := hy; replace h5 := Lib.hid h5; replace k5 := Lib.hid ((ChP.of_below hb4.out).trans k5)))
            have hfin := Lib.hid (show YNode false w B T A n c l v ns g i cl inG (.returned (.int .i64 (-1))) w5 ∧ leftP n T w5 < leftP n T wr from
              ⟨.inr ⟨v5, ns5, g5, i2, cl5, 13, by decide, rfl, h5.out, k2'.out.trans k5.out, fun ps lv hlv => (q4'.out ps lv hlv).ends (.bad (hst.out ps lv))⟩, by rw [h5.out.left0 (by decide), h2'.out.left]; omega⟩)
            go_roundw
            case rel => exact hfin.out.1
            case measure => exact hfin.out.2
          | some p =>
            obtain ⟨lo, hi', j⟩ := p
            have hsz := ivl_size hv (by omega)
            have hT := Lib.hid (fun w3 (hb : Below wr.heap.size wr w3) => times_yes (hP.out _ hb) ⟨#[92, 123]⟩ ⟨#[92, 125]⟩ (by decide) (by decide) (by decide) x ok2 hv)
            have hagain := Lib.hid (fun (w5 : World) (y : Ending) (z : YPut wr B T A n c l v2 ns2 g2 cl2 j (repN x lo hi') y w5) => YPut.again (inG := inG) h2 z k2 q1 q2 q3 hsz.1 q4 (fun ps lv hl => step_ivl hb1 hb2 hv hl) (fun ps lv hl => step_ivl_full hb1 hb2 hv hl))
            clear hb1 hb2 hv hnl hsz h2 k2 q1 q2 q3 q4 ok2
            go_wp2_with (first
              | (go_at_call 24; refine (hF.out).mono ?_; rintro y w9 ⟨rfl, rfl⟩)
              | (go_at_call 26; refine (hC.out).mono ?_; rintro y w3 ⟨rfl, hb3⟩; replace hb3 := Lib.hid hb3)
              | (go_at_call 29; refine (hC2.out _ hb3.out).mono ?_; rintro y w4 ⟨rfl, hb4⟩; replace hb4 := Lib.hid (hb3.out.trans (hb4.mono hb3.out.size)))
              | (go_at_call 47; refine (hT.out _ hb4.out).mono ?_; intro y w5 hy; obtain ⟨z, rfl, hy⟩ := hy.ret; replace hy := Lib.hid (hagain.out _ _ (hy.from (ChP.of_below hb4.out)))))
            go_roundw
            case rel => exact hy.out.1
            case measure => exact hy.out.2
        | false =>
          have hC2 := Lib.hid (fun w3 (hb : Below wr.heap.size wr w3) => comes_is (hP.out _ hb) ⟨#[92, 123]⟩ false hb2)
          have hst := Lib.hid (fun ps lv => step_off (ns := ns2) (g := g2) (cl := cl2) (ps := ps) (lv := lv) (x := x) hb1 hb2)
          have k2' := Lib.hid k2
          have q1' := Lib.hid q1
          have q2' := Lib.hid q2
          have q3' := Lib.hid q3
          have q4' := Lib.hid q4
          have ok2' := Lib.hid ok2
          clear hb1 hb2 hnl h2 k2 q1 q2 q3 q4 ok2
          go_wp2_with (first
            | (go_at_call 24; refine (hF.out).mono ?_; rintro y w9 ⟨rfl, rfl⟩)
            | (go_at_call 26; refine (hC.out).mono ?_; rintro y w3 ⟨rfl, hb3⟩; replace hb3 := Lib.hid hb3)
            | (go_at_call 29; refine (hC2.out _ hb3.out).mono ?_; rintro y w4 ⟨rfl, hb4⟩; replace hb4 := Lib.hid (hb3.out.trans (hb4.mono hb3.out.size))))
          go_ret
          exact .inl ⟨x, v2, ns2, g2, i2, cl2, rfl, ok2'.out, hP.out _ hb4.out, k2'.out.trans (ChP.of_below hb4.out), q1'.out, q2'.out, q3'.out, fun ps lv hlv => (q4'.out ps lv hlv).snoc (hst.out ps lv)⟩
    · obtain rfl := (Ending.returned.inj ea)
      clear ea
      have hF := Lib.hid (fine_any h2)
      rw [decide_eq_false he2] at hF
      have hfin := Lib.hid (show YNode true w B T A n c l v ns g i cl inG (.returned (.int .i64 (-1))) wr from .inr ⟨v2, ns2, g2, i2, cl2, e2, he2, rfl, h2, k2, q4⟩)
      clear h2 k2 q4 he2
      go_wp2_with (go_at_call 24; refine (hF.out).mono ?_; rintro y w9 ⟨rfl, rfl⟩)
      go_ret
      exact hfin.out
end
end Go.Proofs.YtnfbgpjadnlgbaaGreat
