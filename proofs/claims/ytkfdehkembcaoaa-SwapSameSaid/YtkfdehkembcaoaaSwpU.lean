/- Contract: Parse of package swap. -/
import Derived.Test.YtkfdehkembcaoaaSwpT
import Derived.Shelf.Abstract
set_option linter.unusedVariables false
set_option linter.unusedSimpArgs false
set_option maxRecDepth 100000
namespace Go.Proofs.Ytkfdehkembcaoaa
open Go.RowKit

theorem joiner_any (w : World) : Calls Try.prog 23 #[] w fun e w' => e = .returned (.func (.func 35) #[] #[.pointer (some ⟨w.heap.size, 0, none⟩)]) ∧ w.alloc (.cells #[.slice none 0 0] 22) = w' := by
  go_enter Try.func23, Try.ntmps23
  go_wp2
  go_ret
  exact ⟨rfl, rfl⟩
theorem join0_any {w : World} {base hi J : Nat} {l : List Prt} {v : Value} (h : JAt w base hi J l v) :
    Calls Try.prog 35 #[.slice none 0 0, .pointer (some ⟨J, 0, none⟩)] w fun e w' => e = .returned v ∧ w = w' := by
  obtain ⟨A, c, rfl, -⟩ := h.prts
  have j0 : w.cell? ⟨J, 0, none⟩ = some (.slice A l.length c) := h.held.at_ rfl
  generalize l.length = m at *
  clear h
  go_enter Try.func35, Try.ntmps35
  go_wp2
  go_loop [9] (fun i => i = .int .i64 0) (fun i => 1 - (intOf i).toNat)
  case atStart => exact rfl
  case round =>
    subst hrel
    go_wp2
    go_ret
    exact ⟨rfl, rfl⟩
theorem fstP_bad {g : Int} {c : UInt8} {r : List UInt8} {e : Int} (h : fstP g (c :: r) = .bad e) : e = 10 ∨ e = 16 := by
  unfold fstP at h
  simp only at h
  split at h
  · cases h
  split at h
  · cases h
  split at h
  · cases h; exact .inl rfl
  split at h
  · cases h; exact .inr rfl
  · cases h
/-- What Parse tells. -/
def ParQ (w : World) (g : Int) (b : List UInt8) (e : Ending) (w' : World) : Prop :=
  (match prsP g b with
  | .fine l => ∃ v, e = .returned (.tuple #[v, .int .i64 0, .int .i64 0]) ∧ ∃ hi J, JAt w' w.heap.size hi J l v
  | .wrong i er => e = .returned (.tuple #[.slice none 0 0, .int .i64 (i : Nat), .int .i64 er])) ∧ Below w.heap.size w w'
set_option maxHeartbeats 8000000 in
theorem parse_any (A : Option Addr) (n c : Nat) (b : List UInt8) (B : Nat) (g : Int) (w : World) (hn : n = b.length) (hnc : n ≤ c) (hm : c ≤ maxLen) (hB : B ≤ w.heap.size) (h : Byt w B A b) (hl : n ≤ 900000) :
    Calls Try.prog 11 #[.slice A n c, .int .i64 g] w (ParQ w g b) := by
  have eg : ∀ args w, (callFunc 35 args).run Try.prog w = .ok (.enter 35 args) w := enters_of Try.func35 (by kernel_rfl) rfl
  have hnh := Lib.hid hn
  have hh := Lib.hid h
  have hmh := Lib.hid hm
  have hBh := Lib.hid hB
  unfold maxLen at hm
  have hJ0 := Lib.hid (held_new w 22 #[.slice none 0 0])
  have hb0 := Lib.hid ((Below.refl w.heap.size w).alloc (Nat.le_refl _) (.cells #[.slice none 0 0] 22))
  have hjn := Lib.hid (joiner_any w)
  clear h hn hB
  go_enter Try.func11, Try.ntmps11
  go_upto_region 2 with (go_at_call 23; refine (hjn.out).mono ?_; rintro e w1 ⟨rfl, rfl⟩)
  have hJA := Lib.hid (JAt.new (w.alloc (.cells #[.slice none 0 0] 22)) w.heap.size (w.alloc (.cells #[.slice none 0 0] 22)).heap.size w.heap.size hJ0.out (Nat.le_refl _) (Nat.le_refl _) hb0.out.size)
  generalize w.alloc (.cells #[.slice none 0 0] 22) = w1 at *
  go_wp2
  go_loopw [8] (fun i wr => ∃ (k : Nat) (l : List Prt) (v : Value), i = .int .i64 (k : Nat) ∧ PrsAt g b k l ∧ JAt wr w.heap.size wr.heap.size w.heap.size l v ∧ Below w.heap.size w wr) (fun i _ => n - (intOf i).toNat)
  case atStart => exact ⟨0, [], _, rfl, PrsAt.start g b, hJA.out, hb0.out⟩
  case round =>
    obtain ⟨k, l, v, rfl, hps, hJ, hbr⟩ := hrel
    have hkn : k ≤ n := by rw [hnh.out]; exact hps.1
    have hln := Lib.hid (show l.length ≤ k ∧ prtB l ≤ k from ⟨hps.2.1, hps.2.2.1⟩)
    have hpsh := Lib.hid hps
    have hJh := Lib.hid hJ
    have hbrh := Lib.hid hbr
    clear hps hJ hbr
    by_cases hlt : k < n
    · have hkb : k < b.length := by rw [← hnh.out]; exact hlt
      have hbk := hh.out.below (hbrh.out.mono hBh.out)
      have hcut := hbk.cut (i := k) (j := b.length) (cap := c) (Nat.le_refl _) (by rw [← hnh.out]; exact hnc)
      rw [List.take_length, if_neg (by omega)] at hcut
      obtain ⟨ad, hA, -, -⟩ := hh.out.at_ (k := k) hkb
      subst hA
      have hfi := Lib.hid (show Calls Try.prog 24 #[.slice (some (ad.add k)) (n - k) (c - k), .int .i64 g] wr (FirQ wr (fstP g (b.drop k))) from first_any (some (ad.add k)) (n - k) (c - k) (b.drop k) B g wr (by rw [List.length_drop, hnh.out]) (by omega) (by unfold maxLen; omega) (by omega) (Nat.le_trans hBh.out hbrh.out.size) hcut)
      have hck : ¬ c = k := by omega
      have hkc : k ≤ c := by omega
      have hkI : (k : Int) < (n : Int) := by omega
      clear hcut hbk
      cases hf : fstP g (b.drop k) with
      | bad er =>
        have her : er = 10 ∨ er = 16 := by
          cases hd : b.drop k with
          | nil => have := congrArg List.length hd; rw [List.length_drop] at this; simp at this; omega
          | cons x r => rw [hd] at hf; exact fstP_bad hf
        have hR := Lib.hid (hpsh.out.bad hkb hf)
        rw [hf] at hfi
        have e0 : (er != 0) = true := by rw [bne_iff_ne]; omega
        replace her := Lib.hid her
        replace hf := Lib.hid hf
        go_wp2_with (go_at_call 24; refine (hfi.out).mono ?_; rintro e w2 ⟨rfl, hb2⟩)
        have hfin := Lib.hid (hbrh.out.trans (hb2.mono hbrh.out.size))
        exact bodyPost_ret (v := .tuple #[.slice none 0 0, .int .i64 (k : Int), .int .i64 er]) (by simp [results, Try.results11, go_sem]) rfl (show ParQ w g b _ _ from ⟨by rw [hR.out], hfin.out.alloc hfin.out.size _⟩)
      | ok p m =>
        have hm1 := fstP_pos hf
        rw [List.length_drop, ← hnh.out] at hm1
        have hnx := Lib.hid (hpsh.out.next hkb hf)
        rw [hf] at hfi
        have hw2 : IntKind.i64.wrap ((k : Int) + (m : Int)) = ((k + m : Nat) : Int) := by rw [show (k : Int) + (m : Int) = ((k + m : Nat) : Int) by omega]; exact IntWalk.i64_in _ (by omega)
        have hm1h := Lib.hid hm1
        replace hf := Lib.hid hf
        clear hm1
        go_upto_region 7 with (go_at_call 24; refine (hfi.out).mono ?_; rintro e w2 ⟨⟨_, rfl, A1, n1, q1, rfl, ho1⟩, hb2⟩)
        have hb3 := Lib.hid (hb2.alloc hb2.size (.cells #[.int .i64 p.kind, .int .i64 p.grp, .slice A1 n1 q1] 45))
        have hP3 := Lib.hid (held_new w2 45 #[.int .i64 p.kind, .int .i64 p.grp, .slice A1 n1 q1])
        have hpw := Lib.hid (show OwnB (w2.alloc (.cells #[.int .i64 p.kind, .int .i64 p.grp, .slice A1 n1 q1] 45)) wr.heap.size (.slice A1 n1 q1) p.b from ho1.keep ((Below.refl _ w2).alloc (Nat.le_refl _) _))
        generalize w2.alloc (.cells #[.int .i64 p.kind, .int .i64 p.grp, .slice A1 n1 q1] 45) = w3 at *
        have p0 : w3.cell? ⟨w2.heap.size, 0, none⟩ = some (.int .i64 p.kind) := hP3.out.at_ rfl
        have p1 : w3.cell? ⟨w2.heap.size, 1, none⟩ = some (.int .i64 p.grp) := hP3.out.at_ rfl
        have p2 : w3.cell? ⟨w2.heap.size, 2, none⟩ = some (.slice A1 n1 q1) := hP3.out.at_ rfl
        have hb4 := Lib.hid (hb3.out.alloc hb3.out.size (.cells #[.int .i64 p.kind, .int .i64 p.grp, .slice A1 n1 q1] 45))
        have hJn := Lib.hid (show Calls Try.prog 35 #[.slice (some ⟨w3.heap.size, 0, none⟩) 1 1, .pointer (some ⟨w.heap.size, 0, none⟩)] (w3.alloc (.cells #[.int .i64 p.kind, .int .i64 p.grp, .slice A1 n1 q1] 45)) fun e w' => (∃ v', e = .returned v' ∧ JAt w' w.heap.size w'.heap.size w.heap.size (joinP l p) v') ∧ ∀ w0, Below w.heap.size w0 (w3.alloc (.cells #[.int .i64 p.kind, .int .i64 p.grp, .slice A1 n1 q1] 45)) → Below w.heap.size w0 w' from
          join_any (hJh.out.keep hb4.out) (hpw.out.keep ((Below.refl _ w3).alloc (Nat.le_refl _) _)) (held_new w3 _ _) (by have := hln.out; omega) (by have := hln.out; have := hm1h.out; omega))
        have hbW := Lib.hid (hbrh.out.trans (hb4.out.mono hbrh.out.size))
        go_wp2_with (go_at_fn 35; refine (hJn.out).mono ?_; rintro e w5 ⟨⟨v', rfl, hJ5⟩, hB5⟩)
        go_roundw
        case rel => exact ⟨k + m, _, _, rfl, hnx.out, hJ5, hB5 _ hbW.out⟩
        case measure => have := hm1h.out; simp [intOf]; omega
    · obtain rfl : k = n := by omega
      have hR := Lib.hid (hpsh.out.done hnh.out)
      have hj0 := Lib.hid (join0_any hJh.out)
      obtain ⟨A2, c2, rfl, -⟩ := hJh.out.prts
      go_wp2_with (go_at_fn 35; refine (hj0.out).mono ?_; rintro e w2 ⟨rfl, rfl⟩)
      exact bodyPost_ret (v := .tuple #[.slice A2 l.length c2, .int .i64 0, .int .i64 0]) (by simp [results, Try.results11, go_sem]) rfl (show ParQ w g b _ _ from ⟨by rw [hR.out]; exact ⟨_, rfl, _, _, hJh.out⟩, hbrh.out⟩)
end Go.Proofs.Ytkfdehkembcaoaa
