/- Contracts of the parser of extended texts: atom, repeated, piece, given those of alternatives. -/
import Derived.Test.YtnfbgpjadnlgbabM45
set_option linter.unusedVariables false
set_option maxRecDepth 100000
namespace Go.Proofs.Ytnfbgpjadnlgbab
open Go.RowKit

section
variable {w : World} {B T : Nat} {A : Option Addr} {n c : Nat} {l : List UInt8} {v : Value} {ns : List Nod} {g i : Nat} {cl : Nat → Bool} (h : Psr w B T A n c l v ns g i cl 0) {inG : Bool}
include h
set_option maxHeartbeats 8000000 in
theorem catom_opn (hx : nx l i = 40) (hsm : n ≤ 300) (hrm : ns.length ≤ 2 * i) (hB : ∀ k, k < n - i → CAltOK k) :
    Calls Try.prog 37 #[.pointer (some ⟨T, 0, none⟩)] w (CNode false w B T A n c l v ns g i cl inG) := by
  have hnl := h.hn
  have hG0 := Lib.hid (held_new w 55 #[.pointer (some ⟨T, 0, none⟩)])
  have hb0 := Lib.hid ((Below.refl w.heap.size w).alloc (Nat.le_refl _) (.cells #[.pointer (some ⟨T, 0, none⟩)] 55))
  have h0 := h.keep hb0.out
  have hB0 := Lib.hid (Below.refl (w.alloc (.cells #[.pointer (some ⟨T, 0, none⟩)] 55)).heap.size (w.alloc (.cells #[.pointer (some ⟨T, 0, none⟩)] 55)))
  have hC1 := Lib.hid (fun w3 (hb : Below (w.alloc (.cells #[.pointer (some ⟨T, 0, none⟩)] 55)).heap.size (w.alloc (.cells #[.pointer (some ⟨T, 0, none⟩)] 55)) w3) => comes_is (h0.keep hb) ⟨#[40]⟩ true (bg_nx 40 true (decide_eq_true (by rw [hx]; rfl))))
  have hP := Lib.hid (fun (w3 : World) (hb : Below (w.alloc (.cells #[.pointer (some ⟨T, 0, none⟩)] 55)).heap.size (w.alloc (.cells #[.pointer (some ⟨T, 0, none⟩)] 55)) w3) => cparen_any (inG := inG) (h0.keep hb) hx (hG0.out.keep hb) (show w.heap.size ≠ T by have := h.lt; omega) (h.own_lt (Nat.le_refl w.heap.size)) hsm hrm hB)
  clear h h0 hx hB hnl
  go_enter Try.func37, Try.ntmps37
  go_wp2_with (first
    | (go_at_call 28; with_reducible show Calls _ _ #[_, Value.string {data := #[40]}] _ _; refine (hC1.out _ hB0.out).mono ?_; rintro y w1 ⟨rfl, hb⟩; have hB1 := Lib.hid (hB0.out.trans (hb.mono hB0.out.size)); have z1 := (hG0.out.keep hB1.out).at_ (i := 0) rfl; clear hb)
    | (go_at_call 44; refine (hP.out _ hB1.out).mono ?_; intro x w5 hy; obtain ⟨z, rfl, hy⟩ := hy.ret; replace hy := Lib.hid (hy.from (ChP.of_below (hb0.out.trans (hB1.out.mono hb0.out.size))))))
  go_ret
  exact hy.out
set_option maxHeartbeats 8000000 in
theorem catom_par (hx : nx l i = 41) (hp : PieAt l i inG) :
    Calls Try.prog 37 #[.pointer (some ⟨T, 0, none⟩)] w (CNode false w B T A n c l v ns g i cl inG) := by
  have hnl := h.hn
  have hG0 := Lib.hid (held_new w 55 #[.pointer (some ⟨T, 0, none⟩)])
  have hb0 := Lib.hid ((Below.refl w.heap.size w).alloc (Nat.le_refl _) (.cells #[.pointer (some ⟨T, 0, none⟩)] 55))
  have h0 := h.keep hb0.out
  have hB0 := Lib.hid (Below.refl (w.alloc (.cells #[.pointer (some ⟨T, 0, none⟩)] 55)).heap.size (w.alloc (.cells #[.pointer (some ⟨T, 0, none⟩)] 55)))
  have hC1 := Lib.hid (fun w3 (hb : Below (w.alloc (.cells #[.pointer (some ⟨T, 0, none⟩)] 55)).heap.size (w.alloc (.cells #[.pointer (some ⟨T, 0, none⟩)] 55)) w3) => comes_is (h0.keep hb) ⟨#[40]⟩ false (bg_nx 40 false (decide_eq_false (by rw [hx]; decide))))
  have hC2 := Lib.hid (fun w3 (hb : Below (w.alloc (.cells #[.pointer (some ⟨T, 0, none⟩)] 55)).heap.size (w.alloc (.cells #[.pointer (some ⟨T, 0, none⟩)] 55)) w3) => comes_is (h0.keep hb) ⟨#[41]⟩ true (bg_nx 41 true (decide_eq_true (by rw [hx]; rfl))))
  have hW := Lib.hid (fun (w3 : World) (hb : Below (w.alloc (.cells #[.pointer (some ⟨T, 0, none⟩)] 55)).heap.size (w.alloc (.cells #[.pointer (some ⟨T, 0, none⟩)] 55)) w3) => wrong_at (h0.keep hb) 14 14 rfl)
  have hfin := Lib.hid (fun (w' : World) (z : Ending) (y : YBad w B T A n c l v i 14 z w') => y.cnode (pc := false) (inG := inG) (ns := ns) (g := g) (cl := cl) hp (fun ct ps bs lv => by rw [show pieE l i = .bad 14 from by obtain ⟨r, hr⟩ := pie_of (k := 41) hx; exact pie_par hr]; rfl) (by decide))
  clear h h0 hnl hp hx
  go_enter Try.func37, Try.ntmps37
  go_wp2_with (first
    | (go_at_call 28; with_reducible show Calls _ _ #[_, Value.string {data := #[40]}] _ _; refine (hC1.out _ hB0.out).mono ?_; rintro y w1 ⟨rfl, hb⟩; have hB1 := Lib.hid (hB0.out.trans (hb.mono hB0.out.size)); have z1 := (hG0.out.keep hB1.out).at_ (i := 0) rfl; clear hb)
    | (go_at_call 28; with_reducible show Calls _ _ #[_, Value.string {data := #[41]}] _ _; refine (hC2.out _ hB1.out).mono ?_; rintro y w2 ⟨rfl, hb⟩; have hB2 := Lib.hid (hB1.out.trans (hb.mono hB1.out.size)); have z2 := (hG0.out.keep hB2.out).at_ (i := 0) rfl; clear hb)
    | (go_at_call 25; refine (hW.out _ hB2.out).mono ?_; intro x w5 hy; obtain ⟨rfl, hy⟩ := hy.ret; replace hy := Lib.hid (hfin.out _ _ (hy.from (ChP.of_below (hb0.out.trans (hB2.out.mono hb0.out.size)))))))
  go_ret
  exact hy.out
set_option maxHeartbeats 8000000 in
theorem catom_star (hx : nx l i = 42) (hp : PieAt l i inG) :
    Calls Try.prog 37 #[.pointer (some ⟨T, 0, none⟩)] w (CNode false w B T A n c l v ns g i cl inG) := by
  have hnl := h.hn
  have hG0 := Lib.hid (held_new w 55 #[.pointer (some ⟨T, 0, none⟩)])
  have hb0 := Lib.hid ((Below.refl w.heap.size w).alloc (Nat.le_refl _) (.cells #[.pointer (some ⟨T, 0, none⟩)] 55))
  have h0 := h.keep hb0.out
  have hB0 := Lib.hid (Below.refl (w.alloc (.cells #[.pointer (some ⟨T, 0, none⟩)] 55)).heap.size (w.alloc (.cells #[.pointer (some ⟨T, 0, none⟩)] 55)))
  have hC1 := Lib.hid (fun w3 (hb : Below (w.alloc (.cells #[.pointer (some ⟨T, 0, none⟩)] 55)).heap.size (w.alloc (.cells #[.pointer (some ⟨T, 0, none⟩)] 55)) w3) => comes_is (h0.keep hb) ⟨#[40]⟩ false (bg_nx 40 false (decide_eq_false (by rw [hx]; decide))))
  have hC2 := Lib.hid (fun w3 (hb : Below (w.alloc (.cells #[.pointer (some ⟨T, 0, none⟩)] 55)).heap.size (w.alloc (.cells #[.pointer (some ⟨T, 0, none⟩)] 55)) w3) => comes_is (h0.keep hb) ⟨#[41]⟩ false (bg_nx 41 false (decide_eq_false (by rw [hx]; decide))))
  have hC3 := Lib.hid (fun w3 (hb : Below (w.alloc (.cells #[.pointer (some ⟨T, 0, none⟩)] 55)).heap.size (w.alloc (.cells #[.pointer (some ⟨T, 0, none⟩)] 55)) w3) => comes_is (h0.keep hb) ⟨#[42]⟩ true (bg_nx 42 true (decide_eq_true (by rw [hx]; rfl))))
  have hW := Lib.hid (fun (w3 : World) (hb : Below (w.alloc (.cells #[.pointer (some ⟨T, 0, none⟩)] 55)).heap.size (w.alloc (.cells #[.pointer (some ⟨T, 0, none⟩)] 55)) w3) => wrong_at (h0.keep hb) 13 13 rfl)
  have hfin := Lib.hid (fun (w' : World) (z : Ending) (y : YBad w B T A n c l v i 13 z w') => y.cnode (pc := false) (inG := inG) (ns := ns) (g := g) (cl := cl) hp (fun ct ps bs lv => by rw [pie_rep_of (.inl hx)]; rfl) (by decide))
  clear h h0 hnl hp hx
  go_enter Try.func37, Try.ntmps37
  go_wp2_with (first
    | (go_at_call 28; with_reducible show Calls _ _ #[_, Value.string {data := #[40]}] _ _; refine (hC1.out _ hB0.out).mono ?_; rintro y w1 ⟨rfl, hb⟩; have hB1 := Lib.hid (hB0.out.trans (hb.mono hB0.out.size)); have z1 := (hG0.out.keep hB1.out).at_ (i := 0) rfl; clear hb)
    | (go_at_call 28; with_reducible show Calls _ _ #[_, Value.string {data := #[41]}] _ _; refine (hC2.out _ hB1.out).mono ?_; rintro y w2 ⟨rfl, hb⟩; have hB2 := Lib.hid (hB1.out.trans (hb.mono hB1.out.size)); have z2 := (hG0.out.keep hB2.out).at_ (i := 0) rfl; clear hb)
    | (go_at_call 28; with_reducible show Calls _ _ #[_, Value.string {data := #[42]}] _ _; refine (hC3.out _ hB2.out).mono ?_; rintro y w3 ⟨rfl, hb⟩; have hB3 := Lib.hid (hB2.out.trans (hb.mono hB2.out.size)); have z3 := (hG0.out.keep hB3.out).at_ (i := 0) rfl; clear hb)
    | (go_at_call 25; refine (hW.out _ hB3.out).mono ?_; intro x w5 hy; obtain ⟨rfl, hy⟩ := hy.ret; replace hy := Lib.hid (hfin.out _ _ (hy.from (ChP.of_below (hb0.out.trans (hB3.out.mono hb0.out.size)))))))
  go_ret
  exact hy.out
set_option maxHeartbeats 8000000 in
theorem catom_plus (hx : nx l i = 43) (hp : PieAt l i inG) :
    Calls Try.prog 37 #[.pointer (some ⟨T, 0, none⟩)] w (CNode false w B T A n c l v ns g i cl inG) := by
  have hnl := h.hn
  have hG0 := Lib.hid (held_new w 55 #[.pointer (some ⟨T, 0, none⟩)])
  have hb0 := Lib.hid ((Below.refl w.heap.size w).alloc (Nat.le_refl _) (.cells #[.pointer (some ⟨T, 0, none⟩)] 55))
  have h0 := h.keep hb0.out
  have hB0 := Lib.hid (Below.refl (w.alloc (.cells #[.pointer (some ⟨T, 0, none⟩)] 55)).heap.size (w.alloc (.cells #[.pointer (some ⟨T, 0, none⟩)] 55)))
  have hC1 := Lib.hid (fun w3 (hb : Below (w.alloc (.cells #[.pointer (some ⟨T, 0, none⟩)] 55)).heap.size (w.alloc (.cells #[.pointer (some ⟨T, 0, none⟩)] 55)) w3) => comes_is (h0.keep hb) ⟨#[40]⟩ false (bg_nx 40 false (decide_eq_false (by rw [hx]; decide))))
  have hC2 := Lib.hid (fun w3 (hb : Below (w.alloc (.cells #[.pointer (some ⟨T, 0, none⟩)] 55)).heap.size (w.alloc (.cells #[.pointer (some ⟨T, 0, none⟩)] 55)) w3) => comes_is (h0.keep hb) ⟨#[41]⟩ false (bg_nx 41 false (decide_eq_false (by rw [hx]; decide))))
  have hC3 := Lib.hid (fun w3 (hb : Below (w.alloc (.cells #[.pointer (some ⟨T, 0, none⟩)] 55)).heap.size (w.alloc (.cells #[.pointer (some ⟨T, 0, none⟩)] 55)) w3) => comes_is (h0.keep hb) ⟨#[42]⟩ false (bg_nx 42 false (decide_eq_false (by rw [hx]; decide))))
  have hC4 := Lib.hid (fun w3 (hb : Below (w.alloc (.cells #[.pointer (some ⟨T, 0, none⟩)] 55)).heap.size (w.alloc (.cells #[.pointer (some ⟨T, 0, none⟩)] 55)) w3) => comes_is (h0.keep hb) ⟨#[43]⟩ true (bg_nx 43 true (decide_eq_true (by rw [hx]; rfl))))
  have hW := Lib.hid (fun (w3 : World) (hb : Below (w.alloc (.cells #[.pointer (some ⟨T, 0, none⟩)] 55)).heap.size (w.alloc (.cells #[.pointer (some ⟨T, 0, none⟩)] 55)) w3) => wrong_at (h0.keep hb) 13 13 rfl)
  have hfin := Lib.hid (fun (w' : World) (z : Ending) (y : YBad w B T A n c l v i 13 z w') => y.cnode (pc := false) (inG := inG) (ns := ns) (g := g) (cl := cl) hp (fun ct ps bs lv => by rw [pie_rep_of (.inr (.inl hx))]; rfl) (by decide))
  clear h h0 hnl hp hx
  go_enter Try.func37, Try.ntmps37
  go_wp2_with (first
    | (go_at_call 28; with_reducible show Calls _ _ #[_, Value.string {data := #[40]}] _ _; refine (hC1.out _ hB0.out).mono ?_; rintro y w1 ⟨rfl, hb⟩; have hB1 := Lib.hid (hB0.out.trans (hb.mono hB0.out.size)); have z1 := (hG0.out.keep hB1.out).at_ (i := 0) rfl; clear hb)
    | (go_at_call 28; with_reducible show Calls _ _ #[_, Value.string {data := #[41]}] _ _; refine (hC2.out _ hB1.out).mono ?_; rintro y w2 ⟨rfl, hb⟩; have hB2 := Lib.hid (hB1.out.trans (hb.mono hB1.out.size)); have z2 := (hG0.out.keep hB2.out).at_ (i := 0) rfl; clear hb)
    | (go_at_call 28; with_reducible show Calls _ _ #[_, Value.string {data := #[42]}] _ _; refine (hC3.out _ hB2.out).mono ?_; rintro y w3 ⟨rfl, hb⟩; have hB3 := Lib.hid (hB2.out.trans (hb.mono hB2.out.size)); have z3 := (hG0.out.keep hB3.out).at_ (i := 0) rfl; clear hb)
    | (go_at_call 28; with_reducible show Calls _ _ #[_, Value.string {data := #[43]}] _ _; refine (hC4.out _ hB3.out).mono ?_; rintro y w4 ⟨rfl, hb⟩; have hB4 := Lib.hid (hB3.out.trans (hb.mono hB3.out.size)); have z4 := (hG0.out.keep hB4.out).at_ (i := 0) rfl; clear hb)
    | (go_at_call 25; refine (hW.out _ hB4.out).mono ?_; intro x w5 hy; obtain ⟨rfl, hy⟩ := hy.ret; replace hy := Lib.hid (hfin.out _ _ (hy.from (ChP.of_below (hb0.out.trans (hB4.out.mono hb0.out.size)))))))
  go_ret
  exact hy.out
set_option maxHeartbeats 8000000 in
theorem catom_qm (hx : nx l i = 63) (hp : PieAt l i inG) :
    Calls Try.prog 37 #[.pointer (some ⟨T, 0, none⟩)] w (CNode false w B T A n c l v ns g i cl inG) := by
  have hnl := h.hn
  have hG0 := Lib.hid (held_new w 55 #[.pointer (some ⟨T, 0, none⟩)])
  have hb0 := Lib.hid ((Below.refl w.heap.size w).alloc (Nat.le_refl _) (.cells #[.pointer (some ⟨T, 0, none⟩)] 55))
  have h0 := h.keep hb0.out
  have hB0 := Lib.hid (Below.refl (w.alloc (.cells #[.pointer (some ⟨T, 0, none⟩)] 55)).heap.size (w.alloc (.cells #[.pointer (some ⟨T, 0, none⟩)] 55)))
  have hC1 := Lib.hid (fun w3 (hb : Below (w.alloc (.cells #[.pointer (some ⟨T, 0, none⟩)] 55)).heap.size (w.alloc (.cells #[.pointer (some ⟨T, 0, none⟩)] 55)) w3) => comes_is (h0.keep hb) ⟨#[40]⟩ false (bg_nx 40 false (decide_eq_false (by rw [hx]; decide))))
  have hC2 := Lib.hid (fun w3 (hb : Below (w.alloc (.cells #[.pointer (some ⟨T, 0, none⟩)] 55)).heap.size (w.alloc (.cells #[.pointer (some ⟨T, 0, none⟩)] 55)) w3) => comes_is (h0.keep hb) ⟨#[41]⟩ false (bg_nx 41 false (decide_eq_false (by rw [hx]; decide))))
  have hC3 := Lib.hid (fun w3 (hb : Below (w.alloc (.cells #[.pointer (some ⟨T, 0, none⟩)] 55)).heap.size (w.alloc (.cells #[.pointer (some ⟨T, 0, none⟩)] 55)) w3) => comes_is (h0.keep hb) ⟨#[42]⟩ false (bg_nx 42 false (decide_eq_false (by rw [hx]; decide))))
  have hC4 := Lib.hid (fun w3 (hb : Below (w.alloc (.cells #[.pointer (some ⟨T, 0, none⟩)] 55)).heap.size (w.alloc (.cells #[.pointer (some ⟨T, 0, none⟩)] 55)) w3) => comes_is (h0.keep hb) ⟨#[43]⟩ false (bg_nx 43 false (decide_eq_false (by rw [hx]; decide))))
  have hC5 := Lib.hid (fun w3 (hb : Below (w.alloc (.cells #[.pointer (some ⟨T, 0, none⟩)] 55)).heap.size (w.alloc (.cells #[.pointer (some ⟨T, 0, none⟩)] 55)) w3) => comes_is (h0.keep hb) ⟨#[63]⟩ true (bg_nx 63 true (decide_eq_true (by rw [hx]; rfl))))
  have hW := Lib.hid (fun (w3 : World) (hb : Below (w.alloc (.cells #[.pointer (some ⟨T, 0, none⟩)] 55)).heap.size (w.alloc (.cells #[.pointer (some ⟨T, 0, none⟩)] 55)) w3) => wrong_at (h0.keep hb) 13 13 rfl)
  have hfin := Lib.hid (fun (w' : World) (z : Ending) (y : YBad w B T A n c l v i 13 z w') => y.cnode (pc := false) (inG := inG) (ns := ns) (g := g) (cl := cl) hp (fun ct ps bs lv => by rw [pie_rep_of (.inr (.inr (.inl hx)))]; rfl) (by decide))
  clear h h0 hnl hp hx
  go_enter Try.func37, Try.ntmps37
  go_wp2_with (first
    | (go_at_call 28; with_reducible show Calls _ _ #[_, Value.string {data := #[40]}] _ _; refine (hC1.out _ hB0.out).mono ?_; rintro y w1 ⟨rfl, hb⟩; have hB1 := Lib.hid (hB0.out.trans (hb.mono hB0.out.size)); have z1 := (hG0.out.keep hB1.out).at_ (i := 0) rfl; clear hb)
    | (go_at_call 28; with_reducible show Calls _ _ #[_, Value.string {data := #[41]}] _ _; refine (hC2.out _ hB1.out).mono ?_; rintro y w2 ⟨rfl, hb⟩; have hB2 := Lib.hid (hB1.out.trans (hb.mono hB1.out.size)); have z2 := (hG0.out.keep hB2.out).at_ (i := 0) rfl; clear hb)
    | (go_at_call 28; with_reducible show Calls _ _ #[_, Value.string {data := #[42]}] _ _; refine (hC3.out _ hB2.out).mono ?_; rintro y w3 ⟨rfl, hb⟩; have hB3 := Lib.hid (hB2.out.trans (hb.mono hB2.out.size)); have z3 := (hG0.out.keep hB3.out).at_ (i := 0) rfl; clear hb)
    | (go_at_call 28; with_reducible show Calls _ _ #[_, Value.string {data := #[43]}] _ _; refine (hC4.out _ hB3.out).mono ?_; rintro y w4 ⟨rfl, hb⟩; have hB4 := Lib.hid (hB3.out.trans (hb.mono hB3.out.size)); have z4 := (hG0.out.keep hB4.out).at_ (i := 0) rfl; clear hb)
    | (go_at_call 28; with_reducible show Calls _ _ #[_, Value.string {data := #[63]}] _ _; refine (hC5.out _ hB4.out).mono ?_; rintro y w5 ⟨rfl, hb⟩; have hB5 := Lib.hid (hB4.out.trans (hb.mono hB4.out.size)); have z5 := (hG0.out.keep hB5.out).at_ (i := 0) rfl; clear hb)
    | (go_at_call 25; refine (hW.out _ hB5.out).mono ?_; intro x w5 hy; obtain ⟨rfl, hy⟩ := hy.ret; replace hy := Lib.hid (hfin.out _ _ (hy.from (ChP.of_below (hb0.out.trans (hB5.out.mono hb0.out.size)))))))
  go_ret
  exact hy.out
set_option maxHeartbeats 8000000 in
theorem catom_brc (hx : nx l i = 123) (hp : PieAt l i inG) :
    Calls Try.prog 37 #[.pointer (some ⟨T, 0, none⟩)] w (CNode false w B T A n c l v ns g i cl inG) := by
  have hnl := h.hn
  have hG0 := Lib.hid (held_new w 55 #[.pointer (some ⟨T, 0, none⟩)])
  have hb0 := Lib.hid ((Below.refl w.heap.size w).alloc (Nat.le_refl _) (.cells #[.pointer (some ⟨T, 0, none⟩)] 55))
  have h0 := h.keep hb0.out
  have hB0 := Lib.hid (Below.refl (w.alloc (.cells #[.pointer (some ⟨T, 0, none⟩)] 55)).heap.size (w.alloc (.cells #[.pointer (some ⟨T, 0, none⟩)] 55)))
  have hC1 := Lib.hid (fun w3 (hb : Below (w.alloc (.cells #[.pointer (some ⟨T, 0, none⟩)] 55)).heap.size (w.alloc (.cells #[.pointer (some ⟨T, 0, none⟩)] 55)) w3) => comes_is (h0.keep hb) ⟨#[40]⟩ false (bg_nx 40 false (decide_eq_false (by rw [hx]; decide))))
  have hC2 := Lib.hid (fun w3 (hb : Below (w.alloc (.cells #[.pointer (some ⟨T, 0, none⟩)] 55)).heap.size (w.alloc (.cells #[.pointer (some ⟨T, 0, none⟩)] 55)) w3) => comes_is (h0.keep hb) ⟨#[41]⟩ false (bg_nx 41 false (decide_eq_false (by rw [hx]; decide))))
  have hC3 := Lib.hid (fun w3 (hb : Below (w.alloc (.cells #[.pointer (some ⟨T, 0, none⟩)] 55)).heap.size (w.alloc (.cells #[.pointer (some ⟨T, 0, none⟩)] 55)) w3) => comes_is (h0.keep hb) ⟨#[42]⟩ false (bg_nx 42 false (decide_eq_false (by rw [hx]; decide))))
  have hC4 := Lib.hid (fun w3 (hb : Below (w.alloc (.cells #[.pointer (some ⟨T, 0, none⟩)] 55)).heap.size (w.alloc (.cells #[.pointer (some ⟨T, 0, none⟩)] 55)) w3) => comes_is (h0.keep hb) ⟨#[43]⟩ false (bg_nx 43 false (decide_eq_false (by rw [hx]; decide))))
  have hC5 := Lib.hid (fun w3 (hb : Below (w.alloc (.cells #[.pointer (some ⟨T, 0, none⟩)] 55)).heap.size (w.alloc (.cells #[.pointer (some ⟨T, 0, none⟩)] 55)) w3) => comes_is (h0.keep hb) ⟨#[63]⟩ false (bg_nx 63 false (decide_eq_false (by rw [hx]; decide))))
  have hC6 := Lib.hid (fun w3 (hb : Below (w.alloc (.cells #[.pointer (some ⟨T, 0, none⟩)] 55)).heap.size (w.alloc (.cells #[.pointer (some ⟨T, 0, none⟩)] 55)) w3) => comes_is (h0.keep hb) ⟨#[123]⟩ true (bg_nx 123 true (decide_eq_true (by rw [hx]; rfl))))
  have hW := Lib.hid (fun (w3 : World) (hb : Below (w.alloc (.cells #[.pointer (some ⟨T, 0, none⟩)] 55)).heap.size (w.alloc (.cells #[.pointer (some ⟨T, 0, none⟩)] 55)) w3) => wrong_at (h0.keep hb) 13 13 rfl)
  have hfin := Lib.hid (fun (w' : World) (z : Ending) (y : YBad w B T A n c l v i 13 z w') => y.cnode (pc := false) (inG := inG) (ns := ns) (g := g) (cl := cl) hp (fun ct ps bs lv => by rw [pie_rep_of (.inr (.inr (.inr hx)))]; rfl) (by decide))
  clear h h0 hnl hp hx
  go_enter Try.func37, Try.ntmps37
  go_wp2_with (first
    | (go_at_call 28; with_reducible show Calls _ _ #[_, Value.string {data := #[40]}] _ _; refine (hC1.out _ hB0.out).mono ?_; rintro y w1 ⟨rfl, hb⟩; have hB1 := Lib.hid (hB0.out.trans (hb.mono hB0.out.size)); have z1 := (hG0.out.keep hB1.out).at_ (i := 0) rfl; clear hb)
    | (go_at_call 28; with_reducible show Calls _ _ #[_, Value.string {data := #[41]}] _ _; refine (hC2.out _ hB1.out).mono ?_; rintro y w2 ⟨rfl, hb⟩; have hB2 := Lib.hid (hB1.out.trans (hb.mono hB1.out.size)); have z2 := (hG0.out.keep hB2.out).at_ (i := 0) rfl; clear hb)
    | (go_at_call 28; with_reducible show Calls _ _ #[_, Value.string {data := #[42]}] _ _; refine (hC3.out _ hB2.out).mono ?_; rintro y w3 ⟨rfl, hb⟩; have hB3 := Lib.hid (hB2.out.trans (hb.mono hB2.out.size)); have z3 := (hG0.out.keep hB3.out).at_ (i := 0) rfl; clear hb)
    | (go_at_call 28; with_reducible show Calls _ _ #[_, Value.string {data := #[43]}] _ _; refine (hC4.out _ hB3.out).mono ?_; rintro y w4 ⟨rfl, hb⟩; have hB4 := Lib.hid (hB3.out.trans (hb.mono hB3.out.size)); have z4 := (hG0.out.keep hB4.out).at_ (i := 0) rfl; clear hb)
    | (go_at_call 28; with_reducible show Calls _ _ #[_, Value.string {data := #[63]}] _ _; refine (hC5.out _ hB4.out).mono ?_; rintro y w5 ⟨rfl, hb⟩; have hB5 := Lib.hid (hB4.out.trans (hb.mono hB4.out.size)); have z5 := (hG0.out.keep hB5.out).at_ (i := 0) rfl; clear hb)
    | (go_at_call 28; with_reducible show Calls _ _ #[_, Value.string {data := #[123]}] _ _; refine (hC6.out _ hB5.out).mono ?_; rintro y w6 ⟨rfl, hb⟩; have hB6 := Lib.hid (hB5.out.trans (hb.mono hB5.out.size)); have z6 := (hG0.out.keep hB6.out).at_ (i := 0) rfl; clear hb)
    | (go_at_call 25; refine (hW.out _ hB6.out).mono ?_; intro x w5 hy; obtain ⟨rfl, hy⟩ := hy.ret; replace hy := Lib.hid (hfin.out _ _ (hy.from (ChP.of_below (hb0.out.trans (hB6.out.mono hb0.out.size)))))))
  go_ret
  exact hy.out
set_option maxHeartbeats 8000000 in
theorem catom_one (x0 : nx l i ≠ 42) (x1 : nx l i ≠ 43) (x2 : nx l i ≠ 63) (x3 : nx l i ≠ 123) (x4 : nx l i ≠ 41) (x5 : nx l i ≠ 94) (x6 : nx l i ≠ 36) (x7 : nx l i ≠ 40) (hp : PieAt l i inG) (hl : ns.length < 1000) :
    Calls Try.prog 37 #[.pointer (some ⟨T, 0, none⟩)] w (CNode false w B T A n c l v ns g i cl inG) := by
  have hnl := h.hn
  have hG0 := Lib.hid (held_new w 55 #[.pointer (some ⟨T, 0, none⟩)])
  have hb0 := Lib.hid ((Below.refl w.heap.size w).alloc (Nat.le_refl _) (.cells #[.pointer (some ⟨T, 0, none⟩)] 55))
  have h0 := h.keep hb0.out
  have hB0 := Lib.hid (Below.refl (w.alloc (.cells #[.pointer (some ⟨T, 0, none⟩)] 55)).heap.size (w.alloc (.cells #[.pointer (some ⟨T, 0, none⟩)] 55)))
  have hC1 := Lib.hid (fun w3 (hb : Below (w.alloc (.cells #[.pointer (some ⟨T, 0, none⟩)] 55)).heap.size (w.alloc (.cells #[.pointer (some ⟨T, 0, none⟩)] 55)) w3) => comes_is (h0.keep hb) ⟨#[40]⟩ false (bg_nx 40 false (decide_eq_false x7)))
  have hC2 := Lib.hid (fun w3 (hb : Below (w.alloc (.cells #[.pointer (some ⟨T, 0, none⟩)] 55)).heap.size (w.alloc (.cells #[.pointer (some ⟨T, 0, none⟩)] 55)) w3) => comes_is (h0.keep hb) ⟨#[41]⟩ false (bg_nx 41 false (decide_eq_false x4)))
  have hC3 := Lib.hid (fun w3 (hb : Below (w.alloc (.cells #[.pointer (some ⟨T, 0, none⟩)] 55)).heap.size (w.alloc (.cells #[.pointer (some ⟨T, 0, none⟩)] 55)) w3) => comes_is (h0.keep hb) ⟨#[42]⟩ false (bg_nx 42 false (decide_eq_false x0)))
  have hC4 := Lib.hid (fun w3 (hb : Below (w.alloc (.cells #[.pointer (some ⟨T, 0, none⟩)] 55)).heap.size (w.alloc (.cells #[.pointer (some ⟨T, 0, none⟩)] 55)) w3) => comes_is (h0.keep hb) ⟨#[43]⟩ false (bg_nx 43 false (decide_eq_false x1)))
  have hC5 := Lib.hid (fun w3 (hb : Below (w.alloc (.cells #[.pointer (some ⟨T, 0, none⟩)] 55)).heap.size (w.alloc (.cells #[.pointer (some ⟨T, 0, none⟩)] 55)) w3) => comes_is (h0.keep hb) ⟨#[63]⟩ false (bg_nx 63 false (decide_eq_false x2)))
  have hC6 := Lib.hid (fun w3 (hb : Below (w.alloc (.cells #[.pointer (some ⟨T, 0, none⟩)] 55)).heap.size (w.alloc (.cells #[.pointer (some ⟨T, 0, none⟩)] 55)) w3) => comes_is (h0.keep hb) ⟨#[123]⟩ false (bg_nx 123 false (decide_eq_false x3)))
  have hO := Lib.hid (fun (w3 : World) (hb : Below (w.alloc (.cells #[.pointer (some ⟨T, 0, none⟩)] 55)).heap.size (w.alloc (.cells #[.pointer (some ⟨T, 0, none⟩)] 55)) w3) => one_any (h0.keep hb) (by have := hp.lt; omega))
  have hfin := Lib.hid (fun (w' : World) (z : Ending) (y : YAm w B T A n c l v ns g i cl (oneA l i) z w') => y.cnode (inG := inG) hl hp (pie_one_of hp.lt x0 x1 x2 x3 x4 x5 x6 x7) (fun q => one_bad hp.lt) (fun j nd => one_nod hp.lt))
  generalize oneA l i = a at *
  clear h h0 hnl hp hl x0 x1 x2 x3 x4 x5 x6 x7
  go_enter Try.func37, Try.ntmps37
  go_wp2_with (first
    | (go_at_call 28; with_reducible show Calls _ _ #[_, Value.string {data := #[40]}] _ _; refine (hC1.out _ hB0.out).mono ?_; rintro y w1 ⟨rfl, hb⟩; have hB1 := Lib.hid (hB0.out.trans (hb.mono hB0.out.size)); have z1 := (hG0.out.keep hB1.out).at_ (i := 0) rfl; clear hb)
    | (go_at_call 28; with_reducible show Calls _ _ #[_, Value.string {data := #[41]}] _ _; refine (hC2.out _ hB1.out).mono ?_; rintro y w2 ⟨rfl, hb⟩; have hB2 := Lib.hid (hB1.out.trans (hb.mono hB1.out.size)); have z2 := (hG0.out.keep hB2.out).at_ (i := 0) rfl; clear hb)
    | (go_at_call 28; with_reducible show Calls _ _ #[_, Value.string {data := #[42]}] _ _; refine (hC3.out _ hB2.out).mono ?_; rintro y w3 ⟨rfl, hb⟩; have hB3 := Lib.hid (hB2.out.trans (hb.mono hB2.out.size)); have z3 := (hG0.out.keep hB3.out).at_ (i := 0) rfl; clear hb)
    | (go_at_call 28; with_reducible show Calls _ _ #[_, Value.string {data := #[43]}] _ _; refine (hC4.out _ hB3.out).mono ?_; rintro y w4 ⟨rfl, hb⟩; have hB4 := Lib.hid (hB3.out.trans (hb.mono hB3.out.size)); have z4 := (hG0.out.keep hB4.out).at_ (i := 0) rfl; clear hb)
    | (go_at_call 28; with_reducible show Calls _ _ #[_, Value.string {data := #[63]}] _ _; refine (hC5.out _ hB4.out).mono ?_; rintro y w5 ⟨rfl, hb⟩; have hB5 := Lib.hid (hB4.out.trans (hb.mono hB4.out.size)); have z5 := (hG0.out.keep hB5.out).at_ (i := 0) rfl; clear hb)
    | (go_at_call 28; with_reducible show Calls _ _ #[_, Value.string {data := #[123]}] _ _; refine (hC6.out _ hB5.out).mono ?_; rintro y w6 ⟨rfl, hb⟩; have hB6 := Lib.hid (hB5.out.trans (hb.mono hB5.out.size)); have z6 := (hG0.out.keep hB6.out).at_ (i := 0) rfl; clear hb)
    | (go_at_call 46; refine (hO.out _ hB6.out).mono ?_; intro x w5 hy; obtain ⟨z, rfl, hy⟩ := hy.ret; replace hy := Lib.hid (hfin.out _ _ (hy.from (ChP.of_below (hb0.out.trans (hB6.out.mono hb0.out.size)))))))
  go_ret
  exact hy.out
theorem catom_any (hp : PieAt l i inG) (x5 : nx l i ≠ 94) (x6 : nx l i ≠ 36) (hsm : n ≤ 300) (hrm : ns.length ≤ 2 * i) (hB : ∀ k, k < n - i → CAltOK k) :
    Calls Try.prog 37 #[.pointer (some ⟨T, 0, none⟩)] w (CNode false w B T A n c l v ns g i cl inG) := by
  by_cases x7 : nx l i = 40
  · exact catom_opn h x7 hsm hrm hB
  by_cases x4 : nx l i = 41
  · exact catom_par h x4 hp
  by_cases x0 : nx l i = 42
  · exact catom_star h x0 hp
  by_cases x1 : nx l i = 43
  · exact catom_plus h x1 hp
  by_cases x2 : nx l i = 63
  · exact catom_qm h x2 hp
  by_cases x3 : nx l i = 123
  · exact catom_brc h x3 hp
  exact catom_one h x0 x1 x2 x3 x4 x5 x6 x7 hp (by have := h.le; omega)
end
end Go.Proofs.Ytnfbgpjadnlgbab
