/- Contracts: Expand, of package swap and of the reference. -/
import Derived.Test.YtkfdehkembcaoaaSwpD
set_option linter.unusedVariables false
set_option linter.unusedSimpArgs false
set_option maxRecDepth 100000
namespace Go.Proofs.Ytkfdehkembcaoaa
open Go.RowKit

/-- Parts and a text that are handed in. -/
structure SwIn (w : World) (B : Nat) (A : Option Addr) (n c : Nat) (l : List Prt) (At : Option Addr) (nt ct : Nat) (t : List UInt8) : Prop where
  n_ : n = l.length
  nc : n ≤ c
  cm : c ≤ maxLen
  prts : Prts w B A l
  nt_ : nt = t.length
  tc : nt ≤ ct
  tm : ct ≤ maxLen
  byt : Byt w B At t
  base : B ≤ w.heap.size
theorem SwIn.below {w w' : World} {B : Nat} {A : Option Addr} {n c : Nat} {l : List Prt} {At : Option Addr} {nt ct : Nat} {t : List UInt8} (h : SwIn w B A n c l At nt ct t) (hb : Below w.heap.size w w') : SwIn w' B A n c l At nt ct t :=
  ⟨h.n_, h.nc, h.cm, h.prts.below (hb.mono h.base), h.nt_, h.tc, h.tm, h.byt.below (hb.mono h.base), Nat.le_trans h.base hb.size⟩
/-- What a call tells that makes bytes. -/
def BytQ (w : World) (l : List UInt8) (e : Ending) (w' : World) : Prop := (∃ v, e = .returned v ∧ OwnB w' w.heap.size v l) ∧ Below w.heap.size w w'
section
variable {w : World} {B : Nat} {At : Option Addr} {nt ct : Nat} {t : List UInt8} {s : Spn} {A : Option Addr} {n c : Nat} {l : List Prt}
set_option maxHeartbeats 2000000 in
theorem expand_any (h : SwIn w B A n c l At nt ct t) (hM : (expL t s l).length ≤ 1000000) :
    Calls Try.prog 15 #[.slice A n c, .slice At nt ct, .agg (hitC s)] w (BytQ w (expL t s l)) := by
  have hb := Lib.hid (((Below.refl w.heap.size w).alloc (Nat.le_refl _) (.cells #[.slice At nt ct] 26)).alloc (by simp) (.cells (hitC s) 38))
  have hX := Lib.hid (show ExIn ((w.alloc (.cells #[.slice At nt ct] 26)).alloc (.cells (hitC s) 38)) w.heap.size (w.heap.size + 1) B At nt ct t s from ⟨(held_new w 26 #[.slice At nt ct]).alloc _, held_new2 w _ 38 (hitC s), h.nt_, h.tc, h.tm, Nat.le_trans h.base hb.out.size, h.byt.below (hb.out.mono h.base)⟩)
  have hJ := Lib.hid (joinedE_any hX.out h.n_ h.nc h.cm (h.prts.below (hb.out.mono h.base)) hM)
  clear h hX
  generalize hitC s = C0 at *
  go_enter Try.func15, Try.ntmps15
  go_wp2_with (go_at_call 21; refine (hJ.out).mono ?_; rintro e w1 ⟨⟨v, rfl, hv⟩, hb1⟩)
  go_ret
  exact ⟨⟨_, rfl, ⟨hv.1, hv.2.imp id fun ⟨g, cap, cur, k1, k2, k3⟩ => ⟨g, cap, cur, k1, Nat.le_trans hb.out.size k2, k3⟩⟩⟩, hb.out.trans (hb1.mono hb.out.size)⟩
def SRx (P H : Nat) (pc hc : Array Value) (base : Nat) (w0 w' : World) : Prop := Held w' P 45 pc ∧ Held w' H 38 hc ∧ Below base w0 w'
set_option maxHeartbeats 8000000 in
theorem rExpand_any (h : SwIn w B A n c l At nt ct t) (hM : (expL t s l).length ≤ 1000000) :
    Calls Try.prog 16 #[.slice A n c, .slice At nt ct, .agg (hitC s)] w (BytQ w (expL t s l)) := by
  have hb := Lib.hid ((Below.refl w.heap.size w).alloc (Nat.le_refl _) (.cells (hitC s) 38))
  have hH := Lib.hid (held_new w 38 (hitC s))
  have hnh := Lib.hid h.n_
  have hcm := h.cm
  unfold maxLen at hcm
  have hnc := h.nc
  have htc := Lib.hid (show nt = t.length ∧ nt ≤ ct ∧ ct ≤ maxLen from ⟨h.nt_, h.tc, h.tm⟩)
  have hh := Lib.hid h
  have hMh := Lib.hid hM
  have hsp := Lib.hid (fun (w' : World) (i : Nat) (hi : i < 10) (hw : Held w' w.heap.size 38 (hitC s)) => span_there hw hi)
  clear h hM
  generalize hitC s = C0 at *
  go_enter Try.func16, Try.ntmps16
  go_wp2
  generalize w.alloc (.cells C0 38) = w1 at *
  go_loopw [7, 8] (fun v i wr => ∃ (v0 : Value) (k : Nat), v0 = v ∧ k ≤ n ∧ i = .int .i64 (k : Nat) ∧ OwnB wr w.heap.size v (expL t s (l.take k)) ∧ Held wr w.heap.size 38 C0 ∧ Below w.heap.size w wr) (fun _ i _ => n - (intOf i).toNat)
  case atStart => exact ⟨_, 0, rfl, Nat.zero_le _, rfl, OwnB.nil _ _, hH.out, hb.out⟩
  case round =>
    obtain ⟨v, k, rfl, hk, rfl, hown, hHr, hbr⟩ := hrel
    have hownh := Lib.hid hown
    have hbrh := Lib.hid hbr
    have hHrh := Lib.hid hHr
    clear hown hbr hHr
    by_cases hlt : k < n
    · have hkx : k < l.length := by rw [← hnh.out]; exact hlt
      obtain ⟨ad, vb, rfl, had, c0, c1, c2, hvb⟩ := ((hh.out.below hbrh.out).prts) k hkx
      have hT := Lib.hid (expL_take t s l hkx)
      have hlen := Lib.hid (show (expL t s (l.take k)).length + (expP t s (l[k]'hkx)).length ≤ 1000000000 from by have h1 := Nat.le_trans (expL_take_len t s l (k + 1)) hMh.out; rw [hT.out, List.length_append] at h1; omega)
      have hvbh := Lib.hid hvb
      obtain ⟨Av, nv, cv, rfl, -⟩ := hvb
      have hkI : (k : Int) < (n : Int) := by omega
      have hw2 : IntKind.i64.wrap ((k : Int) + 1) = (k : Int) + 1 := IntWalk.i64_in _ (by omega)
      have hby := Lib.hid (hh.out.below hbrh.out).byt
      have hBr := Lib.hid (show B ≤ wr.heap.size from Nat.le_trans hh.out.base hbrh.out.size)
      generalize hp : l[k]'hkx = p at *
      obtain ⟨pk, pg, pb⟩ := p
      replace hp := Lib.hid hp
      have hbn := Lib.hid (show Below wr.heap.size wr (wr.alloc (.cells #[.int .i64 pk, .int .i64 pg, .slice Av nv cv] 45)) from (Below.refl wr.heap.size wr).alloc (Nat.le_refl _) _)
      have hPn := Lib.hid (held_new wr 45 #[.int .i64 pk, .int .i64 pg, .slice Av nv cv])
      have hbw := Lib.hid (hbrh.out.trans (hbn.out.mono hbrh.out.size))
      have hownn := Lib.hid (hownh.out.keep hbn.out)
      have hHn := Lib.hid (hHrh.out.keep hbn.out)
      have hbyn := Lib.hid (hby.out.below (hbn.out.mono hBr.out))
      have hvn := Lib.hid (hvbh.out.below (hbn.out.mono hBr.out))
      go_upto_region 6 with fail
      generalize wr.alloc (.cells #[.int .i64 pk, .int .i64 pg, .slice Av nv cv] 45) = w2 at *
      have hlt2 := Lib.hid (show w.heap.size ≤ wr.heap.size from hbrh.out.size)
      have hBr2 := Lib.hid (show B ≤ wr.heap.size from hBr.out)
      generalize wr.heap.size = P at *
      have q0 : w2.cell? ⟨P, 0, none⟩ = some (.int .i64 pk) := hPn.out.at_ rfl
      have q1 : w2.cell? ⟨P, 1, none⟩ = some (.int .i64 pg) := hPn.out.at_ rfl
      have q2 : w2.cell? ⟨P, 2, none⟩ = some (.slice Av nv cv) := hPn.out.at_ rfl
      clear c0 c1 c2
      by_cases hk0 : pk = 0
      · have e0 : (pk == 0) = true := by rw [beq_iff_eq]; exact hk0
        have e1 : (pk == 1) = false := by rw [beq_eq_false_iff_ne, hk0]; decide
        have hR := Lib.hid (expP_text (t := t) (s := s) (g := pg) (b := pb) hk0)
        rw [hR.out] at hlen
        replace hk0 := Lib.hid hk0
        go_wp2_with (first
          | (at_builtin; refine wpList_app rfl (.tmp 23) (.tmp 25) rfl rfl hownn.out rfl hvn.out hlen.out hbw.out.size ?_; intro v' w' h1 h2; have q0' : w'.cell? ⟨P, 0, none⟩ = some (.int .i64 pk) := (h2.held _ _ _ (by decide) hPn.out).at_ rfl))
        go_roundw
        case rel => exact ⟨_, k + 1, rfl, by omega, rfl, by rw [hT.out, hR.out]; exact h1, h2.held _ _ _ (by decide) hHn.out, h2.below _ hbw.out⟩
        case measure => simp [intOf]; omega
      · have e0 : (pk == 0) = false := by rw [beq_eq_false_iff_ne]; exact hk0
        by_cases hk1 : pk = 1
        · subst hk1
          by_cases hg0 : 0 ≤ pg
          · by_cases hg1 : pg ≤ 9
            · obtain ⟨i, rfl⟩ := Int.eq_ofNat_of_zero_le hg0
              have hi : i < 10 := by omega
              have hR := Lib.hid (expP_group (t := t) (s := s) (b := pb) hi)
              rw [hR.out] at hlen
              have j0 : (0 : Int) ≤ (i : Int) := hg0
              have j1 : (i : Int) < 10 := by omega
              have j9 : decide ((i : Int) ≤ 9) = true := decide_eq_true hg1
              obtain ⟨s0, s1⟩ := hsp.out w2 i hi hHn.out
              have hIn := Lib.hid (fun w' => inR_any At nt ct (s i).1 (s i).2 w')
              replace hk0 := Lib.hid hk0
              clear hg0 hg1
              cases hin : inB ((s i).1, (s i).2) nt with
              | false =>
                have hR2 := Lib.hid (show cutB t (s i) = [] from by unfold cutB; rw [if_neg]; rw [← htc.out.1]; show ¬ inB ((s i).1, (s i).2) nt = true; rw [hin]; decide)
                rw [hin] at hIn
                replace hin := Lib.hid hin
                go_wp2_with (go_at_call 29; refine (hIn.out _).mono ?_; rintro e w3 ⟨rfl, hb3⟩)
                go_roundw
                case rel => exact ⟨_, k + 1, rfl, by omega, rfl, by rw [hT.out, hR.out, hR2.out, List.append_nil]; exact hownn.out.keep hb3, hHn.out.keep hb3, hbw.out.trans (hb3.mono hbw.out.size)⟩
                case measure => simp [intOf]; omega
              | true =>
                have h3 := inB_iff.1 hin
                rw [hin] at hIn
                generalize hsi : s i = si at *
                obtain ⟨x, y⟩ := si
                obtain ⟨a, rfl⟩ : ∃ a : Nat, x = (a : Int) := Int.eq_ofNat_of_zero_le h3.1
                obtain ⟨b, rfl⟩ : ∃ b : Nat, y = (b : Int) := Int.eq_ofNat_of_zero_le (Int.le_trans h3.1 h3.2.1)
                have hab : a ≤ b := by have := h3.2.1; simp at this; omega
                have hbn' : b ≤ nt := by have := h3.2.2; simp at this; omega
                have hR2 := Lib.hid (show cutB t ((a : Int), (b : Int)) = (t.take b).drop a from by unfold cutB; rw [if_pos (by rw [← htc.out.1]; exact hin)]; rfl)
                have hcut := Lib.hid (hbyn.out.cut (i := a) (j := b) (cap := ct) (by rw [← htc.out.1]; exact hbn') (by rw [← htc.out.1]; exact htc.out.2.1))
                have htb := Lib.hid (show nt ≤ ct ∧ ct ≤ maxLen from htc.out.2)
                have hbct : b ≤ ct := Nat.le_trans hbn' htb.out.1
                have hct : ct ≤ 9223372036854775807 := by have := htb.out.2; unfold maxLen at this; omega
                have hnl := Lib.hid (show b - a = ((t.take b).drop a).length from by rw [List.length_drop, List.length_take, ← htc.out.1, Nat.min_eq_left hbn'])
                have hlen2 := Lib.hid (show (expL t s (l.take k)).length + ((t.take b).drop a).length ≤ 1000000000 from by rw [← hR2.out]; exact hlen.out)
                replace hin := Lib.hid hin
                replace hsi := Lib.hid hsi
                clear h3
                go_upto_region 9 with (go_at_call 29; refine (hIn.out _).mono ?_; rintro e w3 ⟨rfl, hb3⟩)
                have hS3 := Lib.hid (show SRx P w.heap.size #[.int .i64 1, .int .i64 (i : Int), .slice Av nv cv] C0 w.heap.size w w3.drew from ⟨(hPn.out.keep hb3).drew, (hHn.out.keep hb3).drew, below_drewN (hbw.out.trans (hb3.mono hbw.out.size)) 1⟩)
                have hown3 := Lib.hid (show OwnB w3.drew w.heap.size v (expL t s (l.take k)) from (hownn.out.keep hb3).keep (below_drewN (Below.refl _ _) 1))
                have hcut3 := Lib.hid (hcut.out.below ((hb3.mono (Nat.le_trans hh.out.base hbw.out.size)).trans (below_drewN (Below.refl B w3) 1)))
                clear s0 s1 hb3 q0 q1 q2
                by_cases hca : ct = a
                · subst hca
                  have hve := Lib.hid (show BytV w3.drew B (.slice At 0 0) ((t.take b).drop ct) from ⟨_, _, _, rfl, by have := hnl.out; omega, by omega, by unfold maxLen; omega, by have h := hcut3.out; rwa [if_pos rfl] at h⟩)
                  go_wp2
                  refine wp_region_held_drew (S := SRx P w.heap.size #[.int .i64 1, .int .i64 (i : Int), .slice Av nv cv] C0 w.heap.size w) (by kernel_rfl) hS3.out (fun hS => ?_)
                  generalize w3.drew = wd at *
                  refine wpAnyH_take (i := 0) (v := ?_) rfl (by kernel_rfl) (by kernel_rfl) (by kernel_rfl) (fun _ _ _ h => h) (Or.inl ⟨by rfl, ?_⟩) hS ?_
                  rotate_left
                  · (intro w' hS'; go_simp; try with_reducible rfl)
                  (try simp only [Act.put, List.getElem_toArray, List.getElem_cons_zero, List.getElem_cons_succ, List.setIfInBounds_toArray, List.set_cons_zero, List.set_cons_succ])
                  refine wpAnyH_take (i := 1) (v := ?_) rfl (by kernel_rfl) (by kernel_rfl) (by kernel_rfl) (fun _ _ _ h => h) (Or.inl ⟨by rfl, ?_⟩) hS ?_
                  rotate_left
                  · (intro w' hS'; go_simp; try with_reducible rfl)
                  (try simp only [Act.put, List.getElem_toArray, List.getElem_cons_zero, List.getElem_cons_succ, List.setIfInBounds_toArray, List.set_cons_zero, List.set_cons_succ])
                  refine wpAnyH_take (i := 2) (v := ?_) rfl (by kernel_rfl) (by kernel_rfl) (by kernel_rfl) (fun _ _ _ h => h) (Or.inl ⟨by rfl, ?_⟩) hS ?_
                  rotate_left
                  · (intro w' hS'; go_simp; try with_reducible rfl)
                  (try simp only [Act.put, List.getElem_toArray, List.getElem_cons_zero, List.getElem_cons_succ, List.setIfInBounds_toArray, List.set_cons_zero, List.set_cons_succ])
                  refine wpAnyH_take (i := 3) (v := ?_) rfl (by kernel_rfl) (by kernel_rfl) (by kernel_rfl) (fun _ _ _ h => h) (Or.inl ⟨by rfl, ?_⟩) hS ?_
                  rotate_left
                  · (intro w' hS'; have ha : w'.cell? ⟨P, 1, none⟩ = some (.int .i64 (i : Int)) := hS'.1.at_ rfl; go_simp; try with_reducible rfl)
                  (try simp only [Act.put, List.getElem_toArray, List.getElem_cons_zero, List.getElem_cons_succ, List.setIfInBounds_toArray, List.set_cons_zero, List.set_cons_succ])
                  refine wpAnyH_take (i := 4) (v := ?_) rfl (by kernel_rfl) (by kernel_rfl) (by kernel_rfl) (fun _ _ _ h => h) (Or.inl ⟨by rfl, ?_⟩) hS ?_
                  rotate_left
                  · (intro w' hS'; go_simp; try with_reducible rfl)
                  (try simp only [Act.put, List.getElem_toArray, List.getElem_cons_zero, List.getElem_cons_succ, List.setIfInBounds_toArray, List.set_cons_zero, List.set_cons_succ])
                  refine wpAnyH_take (i := 5) (v := ?_) rfl (by kernel_rfl) (by kernel_rfl) (by kernel_rfl) (fun _ _ _ h => h) (Or.inl ⟨by rfl, ?_⟩) hS ?_
                  rotate_left
                  · (intro w' hS'; go_simp; try with_reducible rfl)
                  (try simp only [Act.put, List.getElem_toArray, List.getElem_cons_zero, List.getElem_cons_succ, List.setIfInBounds_toArray, List.set_cons_zero, List.set_cons_succ])
                  refine wpAnyH_take (i := 6) (v := ?_) rfl (by kernel_rfl) (by kernel_rfl) (by kernel_rfl) (fun _ _ _ h => h) (Or.inl ⟨by rfl, ?_⟩) hS ?_
                  rotate_left
                  · (intro w' hS'; go_simp; try with_reducible rfl)
                  (try simp only [Act.put, List.getElem_toArray, List.getElem_cons_zero, List.getElem_cons_succ, List.setIfInBounds_toArray, List.set_cons_zero, List.set_cons_succ])
                  refine wpAnyH_take (i := 7) (v := ?_) rfl (by kernel_rfl) (by kernel_rfl) (by kernel_rfl) (fun _ _ _ h => h) (Or.inl ⟨by rfl, ?_⟩) hS ?_
                  rotate_left
                  · (intro w' hS'; obtain ⟨ha, hc⟩ := hsp.out w' i hi hS'.2.1; rw [hsi.out] at ha hc; go_simp; try with_reducible rfl)
                  (try simp only [Act.put, List.getElem_toArray, List.getElem_cons_zero, List.getElem_cons_succ, List.setIfInBounds_toArray, List.set_cons_zero, List.set_cons_succ])
                  refine wpAnyH_take (i := 8) (v := ?_) rfl (by kernel_rfl) (by kernel_rfl) (by kernel_rfl) (fun _ _ _ h => h) (Or.inl ⟨by rfl, ?_⟩) hS ?_
                  rotate_left
                  · (intro w' hS'; go_simp; try with_reducible rfl)
                  (try simp only [Act.put, List.getElem_toArray, List.getElem_cons_zero, List.getElem_cons_succ, List.setIfInBounds_toArray, List.set_cons_zero, List.set_cons_succ])
                  refine wpAnyH_take (i := 9) (v := ?_) rfl (by kernel_rfl) (by kernel_rfl) (by kernel_rfl) (fun _ _ _ h => h) (Or.inl ⟨by rfl, ?_⟩) hS ?_
                  rotate_left
                  · (intro w' hS'; have ha : w'.cell? ⟨P, 1, none⟩ = some (.int .i64 (i : Int)) := hS'.1.at_ rfl; go_simp; try with_reducible rfl)
                  (try simp only [Act.put, List.getElem_toArray, List.getElem_cons_zero, List.getElem_cons_succ, List.setIfInBounds_toArray, List.set_cons_zero, List.set_cons_succ])
                  refine wpAnyH_take (i := 10) (v := ?_) rfl (by kernel_rfl) (by kernel_rfl) (by kernel_rfl) (fun _ _ _ h => h) (Or.inl ⟨by rfl, ?_⟩) hS ?_
                  rotate_left
                  · (intro w' hS'; go_simp; try with_reducible rfl)
                  (try simp only [Act.put, List.getElem_toArray, List.getElem_cons_zero, List.getElem_cons_succ, List.setIfInBounds_toArray, List.set_cons_zero, List.set_cons_succ])
                  refine wpAnyH_take (i := 11) (v := ?_) rfl (by kernel_rfl) (by kernel_rfl) (by kernel_rfl) (fun _ _ _ h => h) (Or.inl ⟨by rfl, ?_⟩) hS ?_
                  rotate_left
                  · (intro w' hS'; go_simp; try with_reducible rfl)
                  (try simp only [Act.put, List.getElem_toArray, List.getElem_cons_zero, List.getElem_cons_succ, List.setIfInBounds_toArray, List.set_cons_zero, List.set_cons_succ])
                  refine wpAnyH_take (i := 12) (v := ?_) rfl (by kernel_rfl) (by kernel_rfl) (by kernel_rfl) (fun _ _ _ h => h) (Or.inl ⟨by rfl, ?_⟩) hS ?_
                  rotate_left
                  · (intro w' hS'; go_simp; try with_reducible rfl)
                  (try simp only [Act.put, List.getElem_toArray, List.getElem_cons_zero, List.getElem_cons_succ, List.setIfInBounds_toArray, List.set_cons_zero, List.set_cons_succ])
                  refine wpAnyH_take (i := 13) (v := ?_) rfl (by kernel_rfl) (by kernel_rfl) (by kernel_rfl) (fun _ _ _ h => h) (Or.inl ⟨by rfl, ?_⟩) hS ?_
                  rotate_left
                  · (intro w' hS'; obtain ⟨ha, hc⟩ := hsp.out w' i hi hS'.2.1; rw [hsi.out] at ha hc; go_simp; try with_reducible rfl)
                  (try simp only [Act.put, List.getElem_toArray, List.getElem_cons_zero, List.getElem_cons_succ, List.setIfInBounds_toArray, List.set_cons_zero, List.set_cons_succ])
                  refine wpAnyH_take (i := 14) (v := ?_) rfl (by kernel_rfl) (by kernel_rfl) (by kernel_rfl) (fun _ _ _ h => h) (Or.inl ⟨by rfl, ?_⟩) hS ?_
                  rotate_left
                  · (intro w' hS'; go_simp; try with_reducible rfl)
                  (try simp only [Act.put, List.getElem_toArray, List.getElem_cons_zero, List.getElem_cons_succ, List.setIfInBounds_toArray, List.set_cons_zero, List.set_cons_succ])
                  refine wpAnyH_ready (rs := [15]) (by kernel_rfl) (by simp) ?_
                  refine AllReadyH.cons rfl (fun K hK => ?_) AllReadyH.nil
                  rw [if_pos (by rfl)]
                  refine wp_app (.tmp 49) (.tmp 63) rfl rfl hown3.out rfl hve.out hlen2.out hS.2.2.size ?_
                  intro v' w' h1 h2
                  have hSn : SRx P w.heap.size #[.int .i64 1, .int .i64 (i : Int), .slice Av nv cv] C0 w.heap.size w w' := ⟨h2.held _ _ _ (by decide) hS.1, h2.held _ _ _ (by decide) hS.2.1, h2.below _ hS.2.2⟩
                  refine hK.out _ _ hSn (fun _ => ?_)
                  clear hK K
                  replace hS := hSn
                  (try simp only [Act.put, List.getElem_toArray, List.getElem_cons_zero, List.getElem_cons_succ, List.setIfInBounds_toArray, List.set_cons_zero, List.set_cons_succ])
                  refine wpAnyH_take (i := 16) (v := ?_) rfl (by kernel_rfl) (by kernel_rfl) (by kernel_rfl) (fun _ _ _ h => h) (Or.inl ⟨by rfl, ?_⟩) hS ?_
                  rotate_left
                  · (intro w' hS'; go_simp; try with_reducible rfl)
                  (try simp only [Act.put, List.getElem_toArray, List.getElem_cons_zero, List.getElem_cons_succ, List.setIfInBounds_toArray, List.set_cons_zero, List.set_cons_succ])
                  refine wpAnyH_done (by kernel_rfl) ?_ _
                  go_wp2
                  go_roundw
                  case rel => exact ⟨_, k + 1, rfl, by omega, rfl, by rw [hT.out, hR.out, hR2.out]; exact h1, hS.2.1, hS.2.2⟩
                  case measure => simp [intOf]; omega
                · have hve := Lib.hid (show BytV w3.drew B (.slice (At.map (·.add a)) (b - a) (ct - a)) ((t.take b).drop a) from ⟨_, _, _, rfl, hnl.out, by omega, by unfold maxLen; omega, by have h := hcut3.out; rwa [if_neg hca] at h⟩)
                  go_wp2
                  refine wp_region_held_drew (S := SRx P w.heap.size #[.int .i64 1, .int .i64 (i : Int), .slice Av nv cv] C0 w.heap.size w) (by kernel_rfl) hS3.out (fun hS => ?_)
                  generalize w3.drew = wd at *
                  refine wpAnyH_take (i := 0) (v := ?_) rfl (by kernel_rfl) (by kernel_rfl) (by kernel_rfl) (fun _ _ _ h => h) (Or.inl ⟨by rfl, ?_⟩) hS ?_
                  rotate_left
                  · (intro w' hS'; go_simp; try with_reducible rfl)
                  (try simp only [Act.put, List.getElem_toArray, List.getElem_cons_zero, List.getElem_cons_succ, List.setIfInBounds_toArray, List.set_cons_zero, List.set_cons_succ])
                  refine wpAnyH_take (i := 1) (v := ?_) rfl (by kernel_rfl) (by kernel_rfl) (by kernel_rfl) (fun _ _ _ h => h) (Or.inl ⟨by rfl, ?_⟩) hS ?_
                  rotate_left
                  · (intro w' hS'; go_simp; try with_reducible rfl)
                  (try simp only [Act.put, List.getElem_toArray, List.getElem_cons_zero, List.getElem_cons_succ, List.setIfInBounds_toArray, List.set_cons_zero, List.set_cons_succ])
                  refine wpAnyH_take (i := 2) (v := ?_) rfl (by kernel_rfl) (by kernel_rfl) (by kernel_rfl) (fun _ _ _ h => h) (Or.inl ⟨by rfl, ?_⟩) hS ?_
                  rotate_left
                  · (intro w' hS'; go_simp; try with_reducible rfl)
                  (try simp only [Act.put, List.getElem_toArray, List.getElem_cons_zero, List.getElem_cons_succ, List.setIfInBounds_toArray, List.set_cons_zero, List.set_cons_succ])
                  refine wpAnyH_take (i := 3) (v := ?_) rfl (by kernel_rfl) (by kernel_rfl) (by kernel_rfl) (fun _ _ _ h => h) (Or.inl ⟨by rfl, ?_⟩) hS ?_
                  rotate_left
                  · (intro w' hS'; have ha : w'.cell? ⟨P, 1, none⟩ = some (.int .i64 (i : Int)) := hS'.1.at_ rfl; go_simp; try with_reducible rfl)
                  (try simp only [Act.put, List.getElem_toArray, List.getElem_cons_zero, List.getElem_cons_succ, List.setIfInBounds_toArray, List.set_cons_zero, List.set_cons_succ])
                  refine wpAnyH_take (i := 4) (v := ?_) rfl (by kernel_rfl) (by kernel_rfl) (by kernel_rfl) (fun _ _ _ h => h) (Or.inl ⟨by rfl, ?_⟩) hS ?_
                  rotate_left
                  · (intro w' hS'; go_simp; try with_reducible rfl)
                  (try simp only [Act.put, List.getElem_toArray, List.getElem_cons_zero, List.getElem_cons_succ, List.setIfInBounds_toArray, List.set_cons_zero, List.set_cons_succ])
                  refine wpAnyH_take (i := 5) (v := ?_) rfl (by kernel_rfl) (by kernel_rfl) (by kernel_rfl) (fun _ _ _ h => h) (Or.inl ⟨by rfl, ?_⟩) hS ?_
                  rotate_left
                  · (intro w' hS'; go_simp; try with_reducible rfl)
                  (try simp only [Act.put, List.getElem_toArray, List.getElem_cons_zero, List.getElem_cons_succ, List.setIfInBounds_toArray, List.set_cons_zero, List.set_cons_succ])
                  refine wpAnyH_take (i := 6) (v := ?_) rfl (by kernel_rfl) (by kernel_rfl) (by kernel_rfl) (fun _ _ _ h => h) (Or.inl ⟨by rfl, ?_⟩) hS ?_
                  rotate_left
                  · (intro w' hS'; go_simp; try with_reducible rfl)
                  (try simp only [Act.put, List.getElem_toArray, List.getElem_cons_zero, List.getElem_cons_succ, List.setIfInBounds_toArray, List.set_cons_zero, List.set_cons_succ])
                  refine wpAnyH_take (i := 7) (v := ?_) rfl (by kernel_rfl) (by kernel_rfl) (by kernel_rfl) (fun _ _ _ h => h) (Or.inl ⟨by rfl, ?_⟩) hS ?_
                  rotate_left
                  · (intro w' hS'; obtain ⟨ha, hc⟩ := hsp.out w' i hi hS'.2.1; rw [hsi.out] at ha hc; go_simp; try with_reducible rfl)
                  (try simp only [Act.put, List.getElem_toArray, List.getElem_cons_zero, List.getElem_cons_succ, List.setIfInBounds_toArray, List.set_cons_zero, List.set_cons_succ])
                  refine wpAnyH_take (i := 8) (v := ?_) rfl (by kernel_rfl) (by kernel_rfl) (by kernel_rfl) (fun _ _ _ h => h) (Or.inl ⟨by rfl, ?_⟩) hS ?_
                  rotate_left
                  · (intro w' hS'; go_simp; try with_reducible rfl)
                  (try simp only [Act.put, List.getElem_toArray, List.getElem_cons_zero, List.getElem_cons_succ, List.setIfInBounds_toArray, List.set_cons_zero, List.set_cons_succ])
                  refine wpAnyH_take (i := 9) (v := ?_) rfl (by kernel_rfl) (by kernel_rfl) (by kernel_rfl) (fun _ _ _ h => h) (Or.inl ⟨by rfl, ?_⟩) hS ?_
                  rotate_left
                  · (intro w' hS'; have ha : w'.cell? ⟨P, 1, none⟩ = some (.int .i64 (i : Int)) := hS'.1.at_ rfl; go_simp; try with_reducible rfl)
                  (try simp only [Act.put, List.getElem_toArray, List.getElem_cons_zero, List.getElem_cons_succ, List.setIfInBounds_toArray, List.set_cons_zero, List.set_cons_succ])
                  refine wpAnyH_take (i := 10) (v := ?_) rfl (by kernel_rfl) (by kernel_rfl) (by kernel_rfl) (fun _ _ _ h => h) (Or.inl ⟨by rfl, ?_⟩) hS ?_
                  rotate_left
                  · (intro w' hS'; go_simp; try with_reducible rfl)
                  (try simp only [Act.put, List.getElem_toArray, List.getElem_cons_zero, List.getElem_cons_succ, List.setIfInBounds_toArray, List.set_cons_zero, List.set_cons_succ])
                  refine wpAnyH_take (i := 11) (v := ?_) rfl (by kernel_rfl) (by kernel_rfl) (by kernel_rfl) (fun _ _ _ h => h) (Or.inl ⟨by rfl, ?_⟩) hS ?_
                  rotate_left
                  · (intro w' hS'; go_simp; try with_reducible rfl)
                  (try simp only [Act.put, List.getElem_toArray, List.getElem_cons_zero, List.getElem_cons_succ, List.setIfInBounds_toArray, List.set_cons_zero, List.set_cons_succ])
                  refine wpAnyH_take (i := 12) (v := ?_) rfl (by kernel_rfl) (by kernel_rfl) (by kernel_rfl) (fun _ _ _ h => h) (Or.inl ⟨by rfl, ?_⟩) hS ?_
                  rotate_left
                  · (intro w' hS'; go_simp; try with_reducible rfl)
                  (try simp only [Act.put, List.getElem_toArray, List.getElem_cons_zero, List.getElem_cons_succ, List.setIfInBounds_toArray, List.set_cons_zero, List.set_cons_succ])
                  refine wpAnyH_take (i := 13) (v := ?_) rfl (by kernel_rfl) (by kernel_rfl) (by kernel_rfl) (fun _ _ _ h => h) (Or.inl ⟨by rfl, ?_⟩) hS ?_
                  rotate_left
                  · (intro w' hS'; obtain ⟨ha, hc⟩ := hsp.out w' i hi hS'.2.1; rw [hsi.out] at ha hc; go_simp; try with_reducible rfl)
                  (try simp only [Act.put, List.getElem_toArray, List.getElem_cons_zero, List.getElem_cons_succ, List.setIfInBounds_toArray, List.set_cons_zero, List.set_cons_succ])
                  refine wpAnyH_take (i := 14) (v := ?_) rfl (by kernel_rfl) (by kernel_rfl) (by kernel_rfl) (fun _ _ _ h => h) (Or.inl ⟨by rfl, ?_⟩) hS ?_
                  rotate_left
                  · (intro w' hS'; go_simp; try with_reducible rfl)
                  (try simp only [Act.put, List.getElem_toArray, List.getElem_cons_zero, List.getElem_cons_succ, List.setIfInBounds_toArray, List.set_cons_zero, List.set_cons_succ])
                  refine wpAnyH_ready (rs := [15]) (by kernel_rfl) (by simp) ?_
                  refine AllReadyH.cons rfl (fun K hK => ?_) AllReadyH.nil
                  rw [if_pos (by rfl)]
                  refine wp_app (.tmp 49) (.tmp 63) rfl rfl hown3.out rfl hve.out hlen2.out hS.2.2.size ?_
                  intro v' w' h1 h2
                  have hSn : SRx P w.heap.size #[.int .i64 1, .int .i64 (i : Int), .slice Av nv cv] C0 w.heap.size w w' := ⟨h2.held _ _ _ (by decide) hS.1, h2.held _ _ _ (by decide) hS.2.1, h2.below _ hS.2.2⟩
                  refine hK.out _ _ hSn (fun _ => ?_)
                  clear hK K
                  replace hS := hSn
                  (try simp only [Act.put, List.getElem_toArray, List.getElem_cons_zero, List.getElem_cons_succ, List.setIfInBounds_toArray, List.set_cons_zero, List.set_cons_succ])
                  refine wpAnyH_take (i := 16) (v := ?_) rfl (by kernel_rfl) (by kernel_rfl) (by kernel_rfl) (fun _ _ _ h => h) (Or.inl ⟨by rfl, ?_⟩) hS ?_
                  rotate_left
                  · (intro w' hS'; go_simp; try with_reducible rfl)
                  (try simp only [Act.put, List.getElem_toArray, List.getElem_cons_zero, List.getElem_cons_succ, List.setIfInBounds_toArray, List.set_cons_zero, List.set_cons_succ])
                  refine wpAnyH_done (by kernel_rfl) ?_ _
                  go_wp2
                  go_roundw
                  case rel => exact ⟨_, k + 1, rfl, by omega, rfl, by rw [hT.out, hR.out, hR2.out]; exact h1, hS.2.1, hS.2.2⟩
                  case measure => simp [intOf]; omega
            · have d1 : decide (pg ≤ 9) = false := decide_eq_false hg1
              have hR := Lib.hid (expP_none (t := t) (s := s) (g := pg) (b := pb) hk0 (show ¬ ((1 : Int) = 1 ∧ 0 ≤ pg ∧ pg < 10) by omega))
              replace hk0 := Lib.hid hk0
              go_wp2
              go_roundw
              case rel => exact ⟨_, k + 1, rfl, by omega, rfl, by rw [hT.out, hR.out, List.append_nil]; exact hownn.out, hHn.out, hbw.out⟩
              case measure => simp [intOf]; omega
          · have d1 : decide ((0 : Int) ≤ pg) = false := decide_eq_false hg0
            have hR := Lib.hid (expP_none (t := t) (s := s) (g := pg) (b := pb) hk0 (show ¬ ((1 : Int) = 1 ∧ 0 ≤ pg ∧ pg < 10) by omega))
            replace hk0 := Lib.hid hk0
            go_wp2
            go_roundw
            case rel => exact ⟨_, k + 1, rfl, by omega, rfl, by rw [hT.out, hR.out, List.append_nil]; exact hownn.out, hHn.out, hbw.out⟩
            case measure => simp [intOf]; omega
        · have e1 : (pk == 1) = false := by rw [beq_eq_false_iff_ne]; exact hk1
          have hk1h := Lib.hid hk1
          clear hk1
          have hR := Lib.hid (expP_none (t := t) (s := s) (g := pg) (b := pb) hk0 (fun h => hk1h.out h.1))
          replace hk0 := Lib.hid hk0
          go_wp2
          go_roundw
          case rel => exact ⟨_, k + 1, rfl, by omega, rfl, by rw [hT.out, hR.out, List.append_nil]; exact hownn.out, hHn.out, hbw.out⟩
          case measure => simp [intOf]; omega
    · obtain rfl : k = n := by omega
      go_wp2
      go_ret
      refine ⟨⟨_, rfl, ?_⟩, hbrh.out⟩
      have := hownh.out
      rwa [show l.take k = l by rw [hnh.out, List.take_length]] at this
end
end Go.Proofs.Ytkfdehkembcaoaa
