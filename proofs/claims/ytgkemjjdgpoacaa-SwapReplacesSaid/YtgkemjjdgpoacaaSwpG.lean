/- Contract: Replace of the reference. -/
import Derived.Test.YtgkemjjdgpoacaaSwpF
set_option linter.unusedVariables false
set_option linter.unusedSimpArgs false
set_option maxRecDepth 100000
namespace Go.Proofs.Ytgkemjjdgpoacaa
open Go.RowKit

def SRr (J : Nat) (jc : Array Value) (base : Nat) (w0 w' : World) : Prop := Held w' J 35 jc ∧ Below base w0 w'
section
variable {w : World} {B : Nat} {At : Option Addr} {nt ct : Nat} {t : List UInt8} {A : Option Addr} {n c : Nat} {l : List Prt} {Ah : Option Addr} {nh ch : Nat} {hs : List Spn}
set_option maxHeartbeats 8000000 in
theorem rReplace_any (h : SwIn w B A n c l At nt ct t) (hnh : nh = hs.length) (hch : nh ≤ ch) (hmh : ch ≤ maxLen) (hh : Hts w B Ah hs) (hM : ∀ x ∈ hs, (expL t x l).length ≤ 10000) (hn1 : nt ≤ 1000) (hn2 : nh ≤ 100) :
    Calls Try.prog 18 #[.slice A n c, .slice At nt ct, .slice Ah nh ch] w (BytQ w (repL l t hs)) := by
  have hIn := Lib.hid h
  have hHs := Lib.hid hh
  have hMh := Lib.hid hM
  have hnhh := Lib.hid hnh
  have htc := Lib.hid (show nt = t.length ∧ nt ≤ ct ∧ ct ≤ maxLen ∧ nt ≤ 1000 from ⟨h.nt_, h.tc, h.tm, hn1⟩)
  have hct : ct ≤ 9223372036854775807 := by have := h.tm; unfold maxLen at this; omega
  have hnc : nt ≤ ct := h.tc
  have hB := Lib.hid h.base
  unfold maxLen at hmh
  clear h hh hM hnh
  go_enter Try.func18, Try.ntmps18
  go_wp2
  go_loopw [7, 8, 9] (fun v e i wr => ∃ (v0 : Value) (e0 : Value) (k : Nat), v0 = v ∧ e0 = e ∧ k ≤ nh ∧ e = .int .i64 ((repS l t (hs.take k)).2 : Nat) ∧ i = .int .i64 (k : Nat) ∧ OwnB wr w.heap.size v (repS l t (hs.take k)).1 ∧ Below w.heap.size w wr) (fun _ _ i _ => nh - (intOf i).toNat)
  case atStart => exact ⟨_, _, 0, rfl, rfl, Nat.zero_le _, rfl, rfl, OwnB.nil _ _, Below.refl _ _⟩
  case round =>
    obtain ⟨v, e0, k, rfl, rfl, hk, rfl, rfl, hown, hbr⟩ := hrel
    have hlen := Lib.hid (show (repS l t (hs.take k)).1.length ≤ 100 * 11000 from by
      have h1 := repS_take_len l t hs 10000 hMh.out k
      have h2 : hs.length * (t.length + 10000) ≤ 100 * 11000 := Nat.mul_le_mul (by rw [← hnhh.out]; exact hn2) (by have := htc.out.2.2.2; rw [← htc.out.1]; omega)
      omega)
    have hle : (repS l t (hs.take k)).2 ≤ nt := by rw [htc.out.1]; exact repS_le l t _
    have hownh := Lib.hid hown
    have hbrh := Lib.hid hbr
    clear hown hbr
    by_cases hlt : k < nh
    · have hkx : k < hs.length := by rw [← hnhh.out]; exact hlt
      have hN := Lib.hid (repS_take l t hs hkx)
      have hMk := Lib.hid (hMh.out _ (List.getElem_mem hkx))
      obtain ⟨ad, bb, oo, rfl, hadd, hbb, hrg⟩ := (hHs.out.below (hbrh.out.mono hB.out)) k hkx
      have hrgh := Lib.hid hrg
      have hst : ∃ st, repS l t (hs.take k) = st := ⟨_, rfl⟩
      obtain ⟨st, hst⟩ := hst
      rw [hst] at hN hownh hlen hle
      rw [hst]
      obtain ⟨out, e⟩ := st
      replace hst := Lib.hid hst
      have hle' : e ≤ nt := hle
      generalize hhk : hs[k]'hkx = x at *
      replace hhk := Lib.hid hhk
      have hkI : (k : Int) < (nh : Int) := by omega
      have hw2 : IntKind.i64.wrap ((k : Int) + 1) = (k : Int) + 1 := IntWalk.i64_in _ (by omega)
      have hMs := Lib.hid (hitC_size x)
      have hML := Lib.hid (show hitC x = (hitL x).toArray from rfl)
      have hLl := Lib.hid (hitL_len x)
      have hEx := Lib.hid (fun (w' : World) (hb : Below w.heap.size w w') => show Calls Try.prog 16 #[.slice A n c, .slice At nt ct, .agg (hitC x)] w' (BytQ w' (expL t x l)) from rExpand_any (hIn.out.below hb) (Nat.le_trans hMk.out (by decide)))
      have s0' := hrg 0 _ rfl
      have s1' := hrg 1 _ rfl
      rw [hML.out] at hEx
      have hx0 : ∃ y, x 0 = y := ⟨_, rfl⟩
      obtain ⟨y, hx0⟩ := hx0
      rw [hx0] at s0' s1'
      obtain ⟨ya, yb⟩ := y
      generalize hL : hitL x = L at *
      replace hL := Lib.hid hL
      have s0 : wr.cell? ⟨bb, oo, none⟩ = some (.int .i64 ya) := s0'
      have s1 : wr.cell? ⟨bb, oo + 1, none⟩ = some (.int .i64 yb) := s1'
      clear s0' s1' hrg
      have hrgB := Lib.hid (fun (w' : World) (hb : Below w.heap.size w w') => show w'.rangeAt bb oo L from by
        obtain ⟨ad', bb', oo', h1, h2, h3, h4⟩ := (hHs.out.below (hb.mono hB.out)) k hkx
        have h1' := Option.some.inj h1
        subst h1'
        rw [hadd] at h2
        injection h2 with e1 e2
        subst e1
        subst e2
        rw [hhk.out, hL.out] at h4
        exact h4)
      have hbn := Lib.hid (show Below wr.heap.size wr (wr.alloc (.cells #[.int .i64 ya, .int .i64 yb] 35)) from (Below.refl wr.heap.size wr).alloc (Nat.le_refl _) _)
      have hJ7 := Lib.hid (held_new wr 35 #[.int .i64 ya, .int .i64 yb])
      have hown7 := Lib.hid (hownh.out.keep hbn.out)
      have hB7 := Lib.hid (hbrh.out.trans (hbn.out.mono hbrh.out.size))
      go_upto_region 7 with fail
      generalize wr.alloc (.cells #[.int .i64 ya, .int .i64 yb] 35) = w7 at *
      generalize wr.heap.size = J at *
      have c0 : w7.cell? ⟨J, 0, none⟩ = some (.int .i64 ya) := hJ7.out.at_ rfl
      have c1 : w7.cell? ⟨J, 1, none⟩ = some (.int .i64 yb) := hJ7.out.at_ rfl
      clear s0 s1 hbn hownh
      have hIs := Lib.hid (fun w' => inR_any At nt ct ya yb w')
      cases hin : inB (ya, yb) nt with
      | false =>
        have hR := Lib.hid (show repS l t (hs.take (k + 1)) = (out, e) from by rw [hN.out]; exact repN_skip1 (by rw [hx0, ← htc.out.1]; exact hin))
        rw [hin] at hIs
        replace hin := Lib.hid hin
        replace hx0 := Lib.hid hx0
        go_wp2_with (go_at_call 28; refine (hIs.out _).mono ?_; rintro en w8 ⟨rfl, hb8⟩)
        go_roundw
        case rel => exact ⟨_, _, k + 1, rfl, rfl, by omega, by rw [hR.out], rfl, by rw [hR.out]; exact hown7.out.keep hb8, hB7.out.trans (hb8.mono hB7.out.size)⟩
        case measure => simp [intOf]; omega
      | true =>
        by_cases hya : ya < (e : Int)
        · have hR := Lib.hid (show repS l t (hs.take (k + 1)) = (out, e) from by rw [hN.out]; exact repN_skip2 (by rw [hx0]; exact hya))
          have d1 : decide ((e : Int) ≤ ya) = false := decide_eq_false (by omega)
          rw [hin] at hIs
          replace hin := Lib.hid hin
          replace hx0 := Lib.hid hx0
          replace hya := Lib.hid hya
          go_wp2_with (go_at_call 28; refine (hIs.out _).mono ?_; rintro en w8 ⟨rfl, hb8⟩; have c08 : w8.cell? ⟨J, 0, none⟩ = some (.int .i64 ya) := (hJ7.out.keep hb8).at_ rfl)
          go_roundw
          case rel => exact ⟨_, _, k + 1, rfl, rfl, by omega, by rw [hR.out], rfl, by rw [hR.out]; exact hown7.out.keep hb8, hB7.out.trans (hb8.mono hB7.out.size)⟩
          case measure => simp [intOf]; omega
        · have h3 := inB_iff.1 hin
          obtain ⟨a, rfl⟩ : ∃ a : Nat, ya = (a : Int) := Int.eq_ofNat_of_zero_le h3.1
          obtain ⟨b, rfl⟩ : ∃ b : Nat, yb = (b : Int) := Int.eq_ofNat_of_zero_le (Int.le_trans h3.1 h3.2.1)
          have hab : a ≤ b := by have := h3.2.1; simp at this; omega
          have hbn' : b ≤ nt := by have := h3.2.2; simp at this; omega
          have hea : e ≤ a := by omega
          have hR := Lib.hid (show repS l t (hs.take (k + 1)) = (out ++ cutL t e a ++ expL t x l, b) from by rw [hN.out]; exact repN_take hx0 (by rw [← htc.out.1]; exact hin) hea)
          have hcl := cutL_len t e a
          have hl1 := Lib.hid (show out.length + (cutL t e a).length ≤ 1000000000 from by have h1 := hlen.out; have h2 := htc.out.1; simp only at h1; omega)
          have hl2 := Lib.hid (show (out ++ cutL t e a).length + (expL t x l).length ≤ 1000000000 from by have h1 := hlen.out; have h2 := htc.out.1; have h3 := hMk.out; rw [List.length_append]; simp only at h1; omega)
          have hcv := Lib.hid (fun (w' : World) (hb : Below w.heap.size w w') => cut_val (hIn.out.byt.below (hb.mono hB.out)) htc.out.1 htc.out.2.1 htc.out.2.2.1 hea (Nat.le_trans hab hbn'))
          have d1 : decide ((e : Int) ≤ (a : Int)) = true := decide_eq_true (by omega)
          have d1' : decide (e ≤ a) = true := decide_eq_true (by omega)
          rw [hin] at hIs
          replace hin := Lib.hid hin
          replace hx0 := Lib.hid hx0
          clear h3 hya hcl
          go_upto_region 8 with (go_at_call 28; refine (hIs.out _).mono ?_; rintro en w8 ⟨rfl, hb8⟩; have c08 : w8.cell? ⟨J, 0, none⟩ = some (.int .i64 (a : Int)) := (hJ7.out.keep hb8).at_ rfl)
          have hJ8 := Lib.hid (hJ7.out.keep hb8)
          have hB8 := Lib.hid (hB7.out.trans (hb8.mono hB7.out.size))
          have hown8 := Lib.hid (hown7.out.keep hb8)
          have hS8 := Lib.hid (show SRr J #[.int .i64 (a : Int), .int .i64 (b : Int)] w.heap.size w w8.drew from ⟨hJ8.out.drew, below_drewN hB8.out 1⟩)
          have hown9 := Lib.hid (show OwnB w8.drew w.heap.size v out from hown8.out.keep (below_drewN (Below.refl _ _) 1))
          clear hb8 c08 c0 c1 hJ7 hown7 hB7 hJ8 hown8
          have hact : a ≤ ct := by omega
          by_cases hca : ct = e
          · obtain rfl : a = e := by omega
            obtain rfl : b = a := by omega
            subst hca
            replace hcv := Lib.hid (fun (w' : World) (hb : Below w.heap.size w w') => (hcv.out w' hb).1 rfl)
            go_wp2
            refine wp_region_held_drew (S := SRr J #[.int .i64 (ct : Int), .int .i64 (ct : Int)] w.heap.size w) (by kernel_rfl) hS8.out (fun hS => ?_)
            generalize w8.drew = wd at *
            refine wpAnyH_take (i := 0) (v := ?_) rfl (by kernel_rfl) (by kernel_rfl) (by kernel_rfl) (fun _ _ _ h => h) (Or.inl ⟨by rfl, ?_⟩) hS ?_
            rotate_left
            · (intro w' hS'; go_simp; try with_reducible rfl)
            (try simp only [Act.put, List.getElem_toArray, List.getElem_cons_zero, List.getElem_cons_succ, List.setIfInBounds_toArray, List.set_cons_zero, List.set_cons_succ])
            refine wpAnyH_take (i := 1) (v := ?_) rfl (by kernel_rfl) (by kernel_rfl) (by kernel_rfl) (fun _ _ _ h => h) (Or.inl ⟨by rfl, ?_⟩) hS ?_
            rotate_left
            · (intro w' hS'; go_simp; try with_reducible rfl)
            (try simp only [Act.put, List.getElem_toArray, List.getElem_cons_zero, List.getElem_cons_succ, List.setIfInBounds_toArray, List.set_cons_zero, List.set_cons_succ])
            refine wpAnyH_take (i := 2) (v := ?_) rfl (by kernel_rfl) (by kernel_rfl) (by kernel_rfl) (fun _ _ _ h => h) (Or.inl ⟨by rfl, ?_⟩) hS ?_
            rotate_left
            · (intro w' hS'; go_simp; try with_reducible rfl)
            (try simp only [Act.put, List.getElem_toArray, List.getElem_cons_zero, List.getElem_cons_succ, List.setIfInBounds_toArray, List.set_cons_zero, List.set_cons_succ])
            refine wpAnyH_take (i := 3) (v := ?_) rfl (by kernel_rfl) (by kernel_rfl) (by kernel_rfl) (fun _ _ _ h => h) (Or.inl ⟨by rfl, ?_⟩) hS ?_
            rotate_left
            · (intro w' hS'; go_simp; try with_reducible rfl)
            (try simp only [Act.put, List.getElem_toArray, List.getElem_cons_zero, List.getElem_cons_succ, List.setIfInBounds_toArray, List.set_cons_zero, List.set_cons_succ])
            refine wpAnyH_take (i := 4) (v := ?_) rfl (by kernel_rfl) (by kernel_rfl) (by kernel_rfl) (fun _ _ _ h => h) (Or.inl ⟨by rfl, ?_⟩) hS ?_
            rotate_left
            · (intro w' hS'; have ha : w'.cell? ⟨J, 0, none⟩ = some (.int .i64 (ct : Int)) := hS'.1.at_ rfl; go_simp; try with_reducible rfl)
            (try simp only [Act.put, List.getElem_toArray, List.getElem_cons_zero, List.getElem_cons_succ, List.setIfInBounds_toArray, List.set_cons_zero, List.set_cons_succ])
            refine wpAnyH_take (i := 5) (v := ?_) rfl (by kernel_rfl) (by kernel_rfl) (by kernel_rfl) (fun _ _ _ h => h) (Or.inl ⟨by rfl, ?_⟩) hS ?_
            rotate_left
            · (intro w' hS'; go_simp; try with_reducible rfl)
            (try simp only [Act.put, List.getElem_toArray, List.getElem_cons_zero, List.getElem_cons_succ, List.setIfInBounds_toArray, List.set_cons_zero, List.set_cons_succ])
            refine wpAnyH_take (i := 7) (v := ?_) rfl (by kernel_rfl) (by kernel_rfl) (by kernel_rfl) (fun _ _ _ h => h) (Or.inl ⟨by rfl, ?_⟩) hS ?_
            rotate_left
            · (intro w' hS'; go_simp; try with_reducible rfl)
            (try simp only [Act.put, List.getElem_toArray, List.getElem_cons_zero, List.getElem_cons_succ, List.setIfInBounds_toArray, List.set_cons_zero, List.set_cons_succ])
            refine wpAnyH_take (i := 8) (v := ?_) rfl (by kernel_rfl) (by kernel_rfl) (by kernel_rfl) (fun _ _ _ h => h) (Or.inl ⟨by rfl, ?_⟩) hS ?_
            rotate_left
            · (intro w' hS'; go_simp; try with_reducible rfl)
            (try simp only [Act.put, List.getElem_toArray, List.getElem_cons_zero, List.getElem_cons_succ, List.setIfInBounds_toArray, List.set_cons_zero, List.set_cons_succ])
            refine wpAnyH_take (i := 9) (v := ?_) rfl (by kernel_rfl) (by kernel_rfl) (by kernel_rfl) (fun _ _ _ h => h) (Or.inl ⟨by rfl, ?_⟩) hS ?_
            rotate_left
            · (intro w' hS'; go_simp; try with_reducible rfl)
            (try simp only [Act.put, List.getElem_toArray, List.getElem_cons_zero, List.getElem_cons_succ, List.setIfInBounds_toArray, List.set_cons_zero, List.set_cons_succ])
            refine wpAnyH_take (i := 10) (v := ?_) rfl (by kernel_rfl) (by kernel_rfl) (by kernel_rfl) (fun _ _ _ h => h) (Or.inl ⟨by rfl, ?_⟩) hS ?_
            rotate_left
            · (intro w' hS'; go_simp; try with_reducible rfl)
            (try simp only [Act.put, List.getElem_toArray, List.getElem_cons_zero, List.getElem_cons_succ, List.setIfInBounds_toArray, List.set_cons_zero, List.set_cons_succ])
            refine wpAnyH_take (i := 11) (v := ?_) rfl (by kernel_rfl) (by kernel_rfl) (by kernel_rfl) (fun _ _ _ h => h) (Or.inl ⟨by rfl, ?_⟩) hS ?_
            rotate_left
            · (intro w' hS'; go_simp; try with_reducible rfl)
            (try simp only [Act.put, List.getElem_toArray, List.getElem_cons_zero, List.getElem_cons_succ, List.setIfInBounds_toArray, List.set_cons_zero, List.set_cons_succ])
            refine wpAnyH_take (i := 12) (v := _) rfl (by kernel_rfl) (by kernel_rfl) (by kernel_rfl) (fun _ _ _ h => h) (yieldsIf_load_mid (by rfl) _ _ rfl (bb) oo rfl (L) _ (fun _ hS' => hrgB.out _ hS'.2) Try.underlying38 rfl (by rw [hLl.out]; exact sw_size_hit)) hS ?_
            (try simp only [Act.put, List.getElem_toArray, List.getElem_cons_zero, List.getElem_cons_succ, List.setIfInBounds_toArray, List.set_cons_zero, List.set_cons_succ])
            refine wpAnyH_ready (rs := [6]) (by kernel_rfl) (by simp) ?_
            refine AllReadyH.cons rfl (fun K hK => ?_) AllReadyH.nil
            rw [if_pos (by rfl)]
            refine wp_app (.tmp 32) (.tmp 37) rfl rfl hown9.out rfl (hcv.out _ hS.2) hl1.out hS.2.size ?_
            intro v1 w1 hown1 h1
            have hSn : SRr J #[.int .i64 (ct : Int), .int .i64 (ct : Int)] w.heap.size w w1 := ⟨h1.held _ _ _ (by decide) hS.1, h1.below _ hS.2⟩
            refine hK.out _ _ hSn (fun _ => ?_)
            clear hK K
            replace hS := hSn
            clear hSn
            (try simp only [Act.put, List.getElem_toArray, List.getElem_cons_zero, List.getElem_cons_succ, List.setIfInBounds_toArray, List.set_cons_zero, List.set_cons_succ])
            refine wpAnyH_ready (rs := [13]) (by kernel_rfl) (by simp) ?_
            refine AllReadyH.cons rfl (fun K hK => ?_) AllReadyH.nil
            go_simp
            refine (hEx.out w1 hS.2).mono ?_
            rintro en w2 ⟨⟨u, rfl, hu⟩, hbc⟩
            have hSn : SRr J #[.int .i64 (ct : Int), .int .i64 (ct : Int)] w.heap.size w w2 := ⟨hS.1.keep hbc, hS.2.trans (hbc.mono hS.2.size)⟩
            go_simp
            refine hK.out _ _ hSn (fun _ => ?_)
            clear hK K
            have hown2 := hown1.keep hbc
            replace hS := hSn
            clear hSn
            (try simp only [Act.put, List.getElem_toArray, List.getElem_cons_zero, List.getElem_cons_succ, List.setIfInBounds_toArray, List.set_cons_zero, List.set_cons_succ])
            refine wpAnyH_ready (rs := [14]) (by kernel_rfl) (by simp) ?_
            refine AllReadyH.cons rfl (fun K hK => ?_) AllReadyH.nil
            rw [if_pos (by rfl)]
            refine wp_app (.tmp 38) (.tmp 45) rfl rfl hown2 rfl hu.byt hl2.out hS.2.size ?_
            intro v3 w3 hown3 h3
            have hSn : SRr J #[.int .i64 (ct : Int), .int .i64 (ct : Int)] w.heap.size w w3 := ⟨h3.held _ _ _ (by decide) hS.1, h3.below _ hS.2⟩
            refine hK.out _ _ hSn (fun _ => ?_)
            clear hK K
            replace hS := hSn
            clear hSn
            (try simp only [Act.put, List.getElem_toArray, List.getElem_cons_zero, List.getElem_cons_succ, List.setIfInBounds_toArray, List.set_cons_zero, List.set_cons_succ])
            refine wpAnyH_take (i := 15) (v := ?_) rfl (by kernel_rfl) (by kernel_rfl) (by kernel_rfl) (fun _ _ _ h => h) (Or.inl ⟨by rfl, ?_⟩) hS ?_
            rotate_left
            · (intro w' hS'; go_simp; try with_reducible rfl)
            (try simp only [Act.put, List.getElem_toArray, List.getElem_cons_zero, List.getElem_cons_succ, List.setIfInBounds_toArray, List.set_cons_zero, List.set_cons_succ])
            refine wpAnyH_done (by kernel_rfl) ?_ _
            have c1 : w3.cell? ⟨J, 1, none⟩ = some (.int .i64 (ct : Int)) := hS.1.at_ rfl
            go_wp2
            go_roundw
            case rel => exact ⟨_, _, k + 1, rfl, rfl, by omega, by rw [hR.out], rfl, by rw [hR.out]; exact hown3, hS.2⟩
            case measure => simp [intOf]; omega
          · replace hcv := Lib.hid (fun (w' : World) (hb : Below w.heap.size w w') => (hcv.out w' hb).2 hca)
            go_wp2
            refine wp_region_held_drew (S := SRr J #[.int .i64 (a : Int), .int .i64 (b : Int)] w.heap.size w) (by kernel_rfl) hS8.out (fun hS => ?_)
            generalize w8.drew = wd at *
            refine wpAnyH_take (i := 0) (v := ?_) rfl (by kernel_rfl) (by kernel_rfl) (by kernel_rfl) (fun _ _ _ h => h) (Or.inl ⟨by rfl, ?_⟩) hS ?_
            rotate_left
            · (intro w' hS'; go_simp; try with_reducible rfl)
            (try simp only [Act.put, List.getElem_toArray, List.getElem_cons_zero, List.getElem_cons_succ, List.setIfInBounds_toArray, List.set_cons_zero, List.set_cons_succ])
            refine wpAnyH_take (i := 1) (v := ?_) rfl (by kernel_rfl) (by kernel_rfl) (by kernel_rfl) (fun _ _ _ h => h) (Or.inl ⟨by rfl, ?_⟩) hS ?_
            rotate_left
            · (intro w' hS'; go_simp; try with_reducible rfl)
            (try simp only [Act.put, List.getElem_toArray, List.getElem_cons_zero, List.getElem_cons_succ, List.setIfInBounds_toArray, List.set_cons_zero, List.set_cons_succ])
            refine wpAnyH_take (i := 2) (v := ?_) rfl (by kernel_rfl) (by kernel_rfl) (by kernel_rfl) (fun _ _ _ h => h) (Or.inl ⟨by rfl, ?_⟩) hS ?_
            rotate_left
            · (intro w' hS'; go_simp; try with_reducible rfl)
            (try simp only [Act.put, List.getElem_toArray, List.getElem_cons_zero, List.getElem_cons_succ, List.setIfInBounds_toArray, List.set_cons_zero, List.set_cons_succ])
            refine wpAnyH_take (i := 3) (v := ?_) rfl (by kernel_rfl) (by kernel_rfl) (by kernel_rfl) (fun _ _ _ h => h) (Or.inl ⟨by rfl, ?_⟩) hS ?_
            rotate_left
            · (intro w' hS'; go_simp; try with_reducible rfl)
            (try simp only [Act.put, List.getElem_toArray, List.getElem_cons_zero, List.getElem_cons_succ, List.setIfInBounds_toArray, List.set_cons_zero, List.set_cons_succ])
            refine wpAnyH_take (i := 4) (v := ?_) rfl (by kernel_rfl) (by kernel_rfl) (by kernel_rfl) (fun _ _ _ h => h) (Or.inl ⟨by rfl, ?_⟩) hS ?_
            rotate_left
            · (intro w' hS'; have ha : w'.cell? ⟨J, 0, none⟩ = some (.int .i64 (a : Int)) := hS'.1.at_ rfl; go_simp; try with_reducible rfl)
            (try simp only [Act.put, List.getElem_toArray, List.getElem_cons_zero, List.getElem_cons_succ, List.setIfInBounds_toArray, List.set_cons_zero, List.set_cons_succ])
            refine wpAnyH_take (i := 5) (v := ?_) rfl (by kernel_rfl) (by kernel_rfl) (by kernel_rfl) (fun _ _ _ h => h) (Or.inl ⟨by rfl, ?_⟩) hS ?_
            rotate_left
            · (intro w' hS'; go_simp; try with_reducible rfl)
            (try simp only [Act.put, List.getElem_toArray, List.getElem_cons_zero, List.getElem_cons_succ, List.setIfInBounds_toArray, List.set_cons_zero, List.set_cons_succ])
            refine wpAnyH_take (i := 7) (v := ?_) rfl (by kernel_rfl) (by kernel_rfl) (by kernel_rfl) (fun _ _ _ h => h) (Or.inl ⟨by rfl, ?_⟩) hS ?_
            rotate_left
            · (intro w' hS'; go_simp; try with_reducible rfl)
            (try simp only [Act.put, List.getElem_toArray, List.getElem_cons_zero, List.getElem_cons_succ, List.setIfInBounds_toArray, List.set_cons_zero, List.set_cons_succ])
            refine wpAnyH_take (i := 8) (v := ?_) rfl (by kernel_rfl) (by kernel_rfl) (by kernel_rfl) (fun _ _ _ h => h) (Or.inl ⟨by rfl, ?_⟩) hS ?_
            rotate_left
            · (intro w' hS'; go_simp; try with_reducible rfl)
            (try simp only [Act.put, List.getElem_toArray, List.getElem_cons_zero, List.getElem_cons_succ, List.setIfInBounds_toArray, List.set_cons_zero, List.set_cons_succ])
            refine wpAnyH_take (i := 9) (v := ?_) rfl (by kernel_rfl) (by kernel_rfl) (by kernel_rfl) (fun _ _ _ h => h) (Or.inl ⟨by rfl, ?_⟩) hS ?_
            rotate_left
            · (intro w' hS'; go_simp; try with_reducible rfl)
            (try simp only [Act.put, List.getElem_toArray, List.getElem_cons_zero, List.getElem_cons_succ, List.setIfInBounds_toArray, List.set_cons_zero, List.set_cons_succ])
            refine wpAnyH_take (i := 10) (v := ?_) rfl (by kernel_rfl) (by kernel_rfl) (by kernel_rfl) (fun _ _ _ h => h) (Or.inl ⟨by rfl, ?_⟩) hS ?_
            rotate_left
            · (intro w' hS'; go_simp; try with_reducible rfl)
            (try simp only [Act.put, List.getElem_toArray, List.getElem_cons_zero, List.getElem_cons_succ, List.setIfInBounds_toArray, List.set_cons_zero, List.set_cons_succ])
            refine wpAnyH_take (i := 11) (v := ?_) rfl (by kernel_rfl) (by kernel_rfl) (by kernel_rfl) (fun _ _ _ h => h) (Or.inl ⟨by rfl, ?_⟩) hS ?_
            rotate_left
            · (intro w' hS'; go_simp; try with_reducible rfl)
            (try simp only [Act.put, List.getElem_toArray, List.getElem_cons_zero, List.getElem_cons_succ, List.setIfInBounds_toArray, List.set_cons_zero, List.set_cons_succ])
            refine wpAnyH_take (i := 12) (v := _) rfl (by kernel_rfl) (by kernel_rfl) (by kernel_rfl) (fun _ _ _ h => h) (yieldsIf_load_mid (by rfl) _ _ rfl (bb) oo rfl (L) _ (fun _ hS' => hrgB.out _ hS'.2) Try.underlying38 rfl (by rw [hLl.out]; exact sw_size_hit)) hS ?_
            (try simp only [Act.put, List.getElem_toArray, List.getElem_cons_zero, List.getElem_cons_succ, List.setIfInBounds_toArray, List.set_cons_zero, List.set_cons_succ])
            refine wpAnyH_ready (rs := [6]) (by kernel_rfl) (by simp) ?_
            refine AllReadyH.cons rfl (fun K hK => ?_) AllReadyH.nil
            rw [if_pos (by rfl)]
            refine wp_app (.tmp 32) (.tmp 37) rfl rfl hown9.out rfl (hcv.out _ hS.2) hl1.out hS.2.size ?_
            intro v1 w1 hown1 h1
            have hSn : SRr J #[.int .i64 (a : Int), .int .i64 (b : Int)] w.heap.size w w1 := ⟨h1.held _ _ _ (by decide) hS.1, h1.below _ hS.2⟩
            refine hK.out _ _ hSn (fun _ => ?_)
            clear hK K
            replace hS := hSn
            clear hSn
            (try simp only [Act.put, List.getElem_toArray, List.getElem_cons_zero, List.getElem_cons_succ, List.setIfInBounds_toArray, List.set_cons_zero, List.set_cons_succ])
            refine wpAnyH_ready (rs := [13]) (by kernel_rfl) (by simp) ?_
            refine AllReadyH.cons rfl (fun K hK => ?_) AllReadyH.nil
            go_simp
            refine (hEx.out w1 hS.2).mono ?_
            rintro en w2 ⟨⟨u, rfl, hu⟩, hbc⟩
            have hSn : SRr J #[.int .i64 (a : Int), .int .i64 (b : Int)] w.heap.size w w2 := ⟨hS.1.keep hbc, hS.2.trans (hbc.mono hS.2.size)⟩
            go_simp
            refine hK.out _ _ hSn (fun _ => ?_)
            clear hK K
            have hown2 := hown1.keep hbc
            replace hS := hSn
            clear hSn
            (try simp only [Act.put, List.getElem_toArray, List.getElem_cons_zero, List.getElem_cons_succ, List.setIfInBounds_toArray, List.set_cons_zero, List.set_cons_succ])
            refine wpAnyH_ready (rs := [14]) (by kernel_rfl) (by simp) ?_
            refine AllReadyH.cons rfl (fun K hK => ?_) AllReadyH.nil
            rw [if_pos (by rfl)]
            refine wp_app (.tmp 38) (.tmp 45) rfl rfl hown2 rfl hu.byt hl2.out hS.2.size ?_
            intro v3 w3 hown3 h3
            have hSn : SRr J #[.int .i64 (a : Int), .int .i64 (b : Int)] w.heap.size w w3 := ⟨h3.held _ _ _ (by decide) hS.1, h3.below _ hS.2⟩
            refine hK.out _ _ hSn (fun _ => ?_)
            clear hK K
            replace hS := hSn
            clear hSn
            (try simp only [Act.put, List.getElem_toArray, List.getElem_cons_zero, List.getElem_cons_succ, List.setIfInBounds_toArray, List.set_cons_zero, List.set_cons_succ])
            refine wpAnyH_take (i := 15) (v := ?_) rfl (by kernel_rfl) (by kernel_rfl) (by kernel_rfl) (fun _ _ _ h => h) (Or.inl ⟨by rfl, ?_⟩) hS ?_
            rotate_left
            · (intro w' hS'; go_simp; try with_reducible rfl)
            (try simp only [Act.put, List.getElem_toArray, List.getElem_cons_zero, List.getElem_cons_succ, List.setIfInBounds_toArray, List.set_cons_zero, List.set_cons_succ])
            refine wpAnyH_done (by kernel_rfl) ?_ _
            have c1 : w3.cell? ⟨J, 1, none⟩ = some (.int .i64 (b : Int)) := hS.1.at_ rfl
            go_wp2
            go_roundw
            case rel => exact ⟨_, _, k + 1, rfl, rfl, by omega, by rw [hR.out], rfl, by rw [hR.out]; exact hown3, hS.2⟩
            case measure => simp [intOf]; omega
    · obtain rfl : k = nh := by omega
      have hall : hs.take k = hs := by rw [hnhh.out, List.take_length]
      rw [hall] at hownh hlen hle
      rw [hall]
      have hst : ∃ st, repS l t hs = st := ⟨_, rfl⟩
      obtain ⟨st, hst⟩ := hst
      have hR := Lib.hid (show repL l t hs = st.1 ++ cutL t st.2 nt from by unfold repL cutL; rw [hst, htc.out.1, List.take_length])
      rw [hst] at hownh hlen hle
      rw [hst]
      obtain ⟨out, e⟩ := st
      have hle' : e ≤ nt := hle
      have hcv := Lib.hid (cut_val (hIn.out.byt.below (hbrh.out.mono hB.out)) htc.out.1 htc.out.2.1 htc.out.2.2.1 hle' (Nat.le_refl nt))
      have hl1 := Lib.hid (show out.length + (cutL t e nt).length ≤ 1000000000 from by have h1 := hlen.out; have h2 := cutL_len t e nt; simp only at h1; omega)
      replace hst := Lib.hid hst
      clear hall
      by_cases hca : ct = e
      · obtain rfl : nt = e := by omega
        subst hca
        replace hcv := Lib.hid (hcv.out.1 rfl)
        go_wp2_with (at_builtin; refine wpList_app rfl (.tmp 49) (.tmp 52) rfl rfl hownh.out rfl hcv.out hl1.out hbrh.out.size ?_; intro v9 w9 hown9 h9)
        go_ret
        exact ⟨⟨_, rfl, by rw [hR.out]; exact hown9⟩, h9.below _ hbrh.out⟩
      · replace hcv := Lib.hid (hcv.out.2 hca)
        go_wp2_with (at_builtin; refine wpList_app rfl (.tmp 49) (.tmp 52) rfl rfl hownh.out rfl hcv.out hl1.out hbrh.out.size ?_; intro v9 w9 hown9 h9)
        go_ret
        exact ⟨⟨_, rfl, by rw [hR.out]; exact hown9⟩, h9.below _ hbrh.out⟩
end
end Go.Proofs.Ytgkemjjdgpoacaa
