/- Contracts of the parser: Times, back, isAlnum. -/
import Derived.Test.YtnfbgpjadnlgbabM38
set_option linter.unusedVariables false
set_option maxRecDepth 100000
namespace Go.Proofs.Ytnfbgpjadnlgbab
open Go.RowKit

theorem isAlnum_atm (c : UInt8) (w : World) : Calls Try.prog 63 #[.int .u8 (c.toNat : Int)] w fun e w' => e = .returned (.bool (isAl c)) ∧ w = w' := by
  have h := Lib.hid (is_any ⟨#[97, 108, 110, 117, 109]⟩ (c.toNat : Int) w)
  rw [show clsOf (ByteArray.mk #[97, 108, 110, 117, 109]).toList (c.toNat : Int) = some (isAl c) from by
    rw [ByteArray.toList_eq]; rfl] at h
  generalize isAl c = r at *
  go_enter Try.func63, Try.ntmps63
  go_wp2_with (go_at_call 70; refine (h.out).mono ?_; rintro e w' ⟨rfl, rfl⟩)
  go_ret
  exact ⟨rfl, rfl⟩

section
variable {w : World} {B T : Nat} {A : Option Addr} {n c : Nat} {l : List UInt8} {v : Value} {ns : List Nod} {g i : Nat} {cl : Nat → Bool} (h : Psr w B T A n c l v ns g i cl 0)
include h

theorem wrong_at (q : Nat) (qq : Int) (hq : qq = (q : Int)) : Calls Try.prog 25 #[.pointer (some ⟨T, 0, none⟩), .int .i64 qq] w (YBad w B T A n c l v i q) :=
  (wrong_any h q qq hq).mono fun e w' ⟨h1, h2, h3⟩ => ⟨v, ns, g, cl, h1, h2, h3⟩

theorem back_no (q : Nat) (hq : q ≤ 9) (hc : cl q = false) : Calls Try.prog 62 #[.pointer (some ⟨T, 0, none⟩), .int .i64 (q : Int)] w (YBad w B T A n c l v i 16) := by
  have c3 := h.c3
  have cq := h.cQ q hq
  rw [hc] at cq
  have hW := Lib.hid (wrong_at h 16 16 rfl)
  have hq0 : (0 : Int) ≤ (q : Int) := by omega
  have hq1 : (q : Int) < 10 := by omega
  clear h hc
  go_enter Try.func62, Try.ntmps62
  go_wp2_with (go_at_call 25; refine (hW.out).mono ?_; rintro e w' ⟨v', ns', g', cl', rfl, h2, h3⟩; replace h2 := Lib.hid h2; replace h3 := Lib.hid h3)
  go_ret
  exact ⟨v', ns', g', cl', rfl, h2.out, h3.out⟩

set_option maxHeartbeats 4000000 in
theorem back_yes (q : Nat) (hq : q ≤ 9) (hc : cl q = true) (hi : i + 2 ≤ n) : Calls Try.prog 62 #[.pointer (some ⟨T, 0, none⟩), .int .i64 (q : Int)] w (YPut w B T A n c l v ns g cl (i + 2) (backN (q : Int))) := by
  have hns : n ≤ 100000 := h.txt.2.2.2.1
  have c3 := h.c3
  have t3 := h.thawed 3
  have cq := h.cQ q hq
  rw [hc] at cq
  have hq0 : (0 : Int) ≤ (q : Int) := by omega
  have hq1 : (q : Int) < 10 := by omega
  have hqg := h.clg q hc
  have hf := Lib.hid (fits_back (q := (q : Int)) (t := (ns.length : Int)) (g := (g : Int)) (by omega) (by omega))
  have h1 := Lib.hid (h.goto' (j := i + 2) hi (z := (i : Int) + 2) (by omega))
  have hx := Lib.hid (ChP.store w T 3 (.int .i64 ((i : Int) + 2)) v)
  have hP := Lib.hid (back_any B T 0 v ns g _ h1.out.bldr (q : Int))
  have hi0 : (i : Int) ≤ 100000 := by omega
  clear h hc hqg
  by_cases hl : ns.length < 1000
  · have hl' := Lib.hid hl
    go_enter Try.func62, Try.ntmps62
    go_wp2_with (first
      | (go_at_call 69; refine (hP.out).mono ?_; intro x w2 hx2; obtain ⟨v2, rfl, h2, k2⟩ := h1.out.room hl'.out hf.out hx2; clear hx2; replace h2 := Lib.hid h2; replace k2 := Lib.hid (hx.out.trans k2))
      | (go_at_call 18; refine (put_yes T ns.length _).mono ?_; rintro x w3 ⟨rfl, rfl⟩))
    go_ret
    exact YPut.yes hl'.out h2.out k2.out
  · have hl' := Lib.hid hl
    go_enter Try.func62, Try.ntmps62
    go_wp2_with (first
      | (go_at_call 69; refine (hP.out).mono ?_; intro x w2 hx2; obtain ⟨v2, rfl, h2, k2⟩ := h1.out.full hl'.out hx2; clear hx2; replace h2 := Lib.hid h2; replace k2 := Lib.hid (hx.out.trans k2))
      | (go_at_call 18; refine (put_no h2.out).mono ?_; rintro x w3 ⟨rfl, h3, k3⟩; replace h3 := Lib.hid h3; replace k3 := Lib.hid (k2.out.trans k3)))
    go_ret
    exact YPut.no hl'.out h3.out k3.out

set_option maxHeartbeats 4000000 in
theorem times_no (sb se : ByteArray) (hse : 0 < se.size) (hsz : se.size ≤ 100000) (hsb : sb.size ≤ 100000) (x : Int) (hv : ivlG sb.size se.data.toList l i = none) : Calls Try.prog 43 #[.pointer (some ⟨T, 0, none⟩), .int .i64 x, .string sb, .string se] w (YBad w B T A n c l v i 13) := by
  have c2 := h.c2
  have c3 := h.c3
  have hle := h.le
  have hnc := h.inp.2.1
  have hcm := h.inp.2.2.1
  unfold maxLen at hcm
  have hv' : ivG sb.size se.data.toList (l.drop i) = none := by unfold ivlG at hv; simpa using hv
  have hI := Lib.hid (fun w1 (hb : Below w.heap.size w w1) => interval_any sb se hse hsz hsb ((h.keep hb).inp.drop hle))
  rw [hv'] at hI
  unfold ivR at hI
  have hx := Lib.hid (show Below w.heap.size w w from Below.refl _ _)
  have hW := Lib.hid (fun w1 (hb : Below w.heap.size w w1) => wrong_at (h.keep hb) 13 13 rfl)
  have hK := Lib.hid (fun w1 (hb : Below w.heap.size w w1) => (h.keep hb).c3)
  clear h hv hv'
  by_cases hck : c = i
  · obtain rfl : n = i := by omega
    obtain rfl : c = n := hck
    rw [if_pos rfl, Nat.sub_self] at hI
    go_enter Try.func43, Try.ntmps43
    go_wp2_with (first
      | (go_region_with ((go_at_call 49; refine (hI.out _ hx.out.drew).mono ?_; rintro e w1 ⟨rfl, hb1⟩; replace hb1 := hx.out.drew.trans hb1; have c3 := hK.out _ hb1; replace hb1 := Lib.hid hb1)))
      | (go_at_call 25; refine (hW.out _ hb1.out).mono ?_; rintro e w' ⟨v', ns', g', cl', rfl, h2, h3⟩; replace h2 := Lib.hid h2; replace h3 := Lib.hid ((ChP.of_below hb1.out).trans h3)))
    all_goals
      go_ret
      exact ⟨v', ns', g', cl', rfl, h2.out, h3.out⟩
  · rw [if_neg hck] at hI
    go_enter Try.func43, Try.ntmps43
    go_wp2_with (first
      | (go_region_with ((go_at_call 49; refine (hI.out _ hx.out.drew).mono ?_; rintro e w1 ⟨rfl, hb1⟩; replace hb1 := hx.out.drew.trans hb1; have c3 := hK.out _ hb1; replace hb1 := Lib.hid hb1)))
      | (go_at_call 25; refine (hW.out _ hb1.out).mono ?_; rintro e w' ⟨v', ns', g', cl', rfl, h2, h3⟩; replace h2 := Lib.hid h2; replace h3 := Lib.hid ((ChP.of_below hb1.out).trans h3)))
    all_goals
      go_ret
      exact ⟨v', ns', g', cl', rfl, h2.out, h3.out⟩

set_option maxHeartbeats 4000000 in
theorem times_yes (sb se : ByteArray) (hse : 0 < se.size) (hsz : se.size ≤ 100000) (hsb : sb.size ≤ 100000) (x : Int) (hok : okP (ns.length : Int) x = true) {lo hi : Int} {j : Nat} (hv : ivlG sb.size se.data.toList l i = some (lo, hi, j)) : Calls Try.prog 43 #[.pointer (some ⟨T, 0, none⟩), .int .i64 x, .string sb, .string se] w (YPut w B T A n c l v ns g cl j (repN x lo hi)) := by
  have c2 := h.c2
  have c3 := h.c3
  have hle := h.le
  have hnc := h.inp.2.1
  have hcm := h.inp.2.2.1
  have hns : n ≤ 100000 := h.txt.2.2.2.1
  unfold maxLen at hcm
  obtain ⟨k, hv', hjk⟩ : ∃ k, ivG sb.size se.data.toList (l.drop i) = some (lo, hi, k) ∧ i + k = j := by
    unfold ivlG at hv
    obtain ⟨⟨a, b, k⟩, h1, h2⟩ := Option.map_eq_some_iff.1 hv
    simp only [Prod.mk.injEq] at h2
    obtain ⟨rfl, rfl, rfl⟩ := h2
    exact ⟨k, h1, rfl⟩
  have hiv := ivG_ok (fun e => by have := len_toList se; rw [e] at this; simp at this; omega) hv'
  have hnl := h.hn
  have hlen : (l.drop i).length = l.length - i := List.length_drop
  have hck : ¬ c = i := by omega
  have hI := Lib.hid (fun w1 (hb : Below w.heap.size w w1) => interval_any sb se hse hsz hsb ((h.keep hb).inp.drop hle))
  rw [hv', if_neg hck] at hI
  unfold ivR at hI
  have hjn : i + k ≤ n := by omega
  have hx := Lib.hid (show Below w.heap.size w w from Below.refl _ _)
  have hP := Lib.hid (fun w1 (hb : Below w.heap.size w w1) => (h.keep hb))
  have hf := Lib.hid (fits_rep (g := (g : Int)) hok hiv.2.1)
  have hj' := Lib.hid hjk
  have hi0 : (i : Int) ≤ 100000 := by omega
  have hk0 : (k : Int) ≤ 100000 := by omega
  clear h hv hv' hok hiv hjk hlen hnl
  by_cases hl : ns.length < 1000
  · have hl' := Lib.hid hl
    go_enter Try.func43, Try.ntmps43
    go_wp2_with (first
      | (go_region_with ((go_at_call 49; refine (hI.out _ hx.out.drew).mono ?_; rintro e w1 ⟨rfl, hb1⟩; replace hb1 := hx.out.drew.trans hb1; have h0 := Lib.hid (hP.out _ hb1); have c3 := h0.out.c3; have t3 := h0.out.thawed 3; replace hb1 := Lib.hid hb1; have h1 := Lib.hid (h0.out.goto' hjn (z := (i : Int) + (k : Int)) (by omega)))))
      | (go_at_call 42; refine (rep_any B T 0 v ns g _ h1.out.bldr x lo hi).mono ?_; intro x w2 hx2; obtain ⟨v2, rfl, h2, k2⟩ := h1.out.room hl'.out hf.out hx2; clear hx2; replace h2 := Lib.hid h2; replace k2 := Lib.hid (((ChP.of_below hb1.out).trans (ChP.store w1 T 3 (.int .i64 ((i : Int) + (k : Int))) v)).trans k2))
      | (go_at_call 18; refine (put_yes T ns.length _).mono ?_; rintro x w3 ⟨rfl, rfl⟩))
    all_goals
      go_ret
      exact YPut.yes hl'.out (by rw [← hj'.out]; exact h2.out) k2.out
  · have hl' := Lib.hid hl
    go_enter Try.func43, Try.ntmps43
    go_wp2_with (first
      | (go_region_with ((go_at_call 49; refine (hI.out _ hx.out.drew).mono ?_; rintro e w1 ⟨rfl, hb1⟩; replace hb1 := hx.out.drew.trans hb1; have h0 := Lib.hid (hP.out _ hb1); have c3 := h0.out.c3; have t3 := h0.out.thawed 3; replace hb1 := Lib.hid hb1; have h1 := Lib.hid (h0.out.goto' hjn (z := (i : Int) + (k : Int)) (by omega)))))
      | (go_at_call 42; refine (rep_any B T 0 v ns g _ h1.out.bldr x lo hi).mono ?_; intro x w2 hx2; obtain ⟨v2, rfl, h2, k2⟩ := h1.out.full hl'.out hx2; clear hx2; replace h2 := Lib.hid h2; replace k2 := Lib.hid (((ChP.of_below hb1.out).trans (ChP.store w1 T 3 (.int .i64 ((i : Int) + (k : Int))) v)).trans k2))
      | (go_at_call 18; refine (put_no h2.out).mono ?_; rintro x w3 ⟨rfl, h3, k3⟩; replace h3 := Lib.hid h3; replace k3 := Lib.hid (k2.out.trans k3)))
    all_goals
      go_ret
      exact YPut.no hl'.out (by rw [← hj'.out]; exact h3.out) k3.out

end
end Go.Proofs.Ytnfbgpjadnlgbab
