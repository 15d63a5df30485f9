/- Contract: Replace of package swap. -/
import Derived.Test.YtgkemjjdgpoacaaSwpE
set_option linter.unusedVariables false
set_option linter.unusedSimpArgs false
set_option maxRecDepth 100000
namespace Go.Proofs.Ytgkemjjdgpoacaa
open Go.RowKit

theorem sw_size_hit : (Try.prog.info? 38).map (·.size) = some 20 := by kernel_rfl
theorem repN_skip1 {l : List Prt} {t : List UInt8} {st : List UInt8 × Nat} {h : Spn} (hi : inB (h 0) t.length = false) : repN l t st h = st := by
  unfold repN; rw [if_neg (by rw [hi]; rintro ⟨h, -⟩; cases h)]
theorem repN_skip2 {l : List Prt} {t : List UInt8} {st : List UInt8 × Nat} {h : Spn} (hi : (h 0).1 < (st.2 : Int)) : repN l t st h = st := by
  unfold repN; rw [if_neg (by rintro ⟨-, h⟩; omega)]
theorem repN_take {l : List Prt} {t : List UInt8} {out : List UInt8} {e a b : Nat} {h : Spn} (h0 : h 0 = ((a : Int), (b : Int))) (hi : inB ((a : Int), (b : Int)) t.length = true) (he : e ≤ a) : repN l t (out, e) h = (out ++ cutL t e a ++ expL t h l, b) := by
  unfold repN; rw [h0, if_pos ⟨hi, by show (e : Int) ≤ (a : Int); omega⟩]; rfl
/-- The bytes of a text from one place to another, as the slice that is cut. -/
theorem cut_val {w : World} {B : Nat} {At : Option Addr} {nt ct : Nat} {t : List UInt8} (h : Byt w B At t) (hn : nt = t.length) (hc : nt ≤ ct) (hm : ct ≤ maxLen) {a b : Nat} (hab : a ≤ b) (hb : b ≤ nt) :
    (ct = a → BytV w B (.slice At 0 0) (cutL t a b)) ∧ (ct ≠ a → BytV w B (.slice (At.map (·.add a)) (b - a) (ct - a)) (cutL t a b)) := by
  have hl := cutL_len t a b
  have hcut := h.cut (i := a) (j := b) (cap := ct) (by rw [← hn]; exact hb) (by rw [← hn]; exact hc)
  refine ⟨fun e => ?_, fun e => ?_⟩
  · rw [if_pos e] at hcut
    exact ⟨_, _, _, rfl, by omega, Nat.le_refl _, Nat.zero_le _, hcut⟩
  · rw [if_neg e] at hcut
    exact ⟨_, _, _, rfl, by rw [hl, ← hn, Nat.min_eq_left hb], by omega, by omega, hcut⟩
section
variable {w : World} {B : Nat} {At : Option Addr} {nt ct : Nat} {t : List UInt8} {A : Option Addr} {n c : Nat} {l : List Prt} {Ah : Option Addr} {nh ch : Nat} {hs : List Spn}
set_option maxHeartbeats 8000000 in
theorem replace_any (h : SwIn w B A n c l At nt ct t) (hnh : nh = hs.length) (hch : nh ≤ ch) (hmh : ch ≤ maxLen) (hh : Hts w B Ah hs) (hM : ∀ x ∈ hs, (expL t x l).length ≤ 10000) (hn1 : nt ≤ 1000) (hn2 : nh ≤ 100) :
    Calls Try.prog 17 #[.slice A n c, .slice At nt ct, .slice Ah nh ch] w (BytQ w (repL l t hs)) := by
  have hIn := Lib.hid h
  have hHs := Lib.hid hh
  have hMh := Lib.hid hM
  have hnhh := Lib.hid hnh
  have htc := Lib.hid (show nt = t.length ∧ nt ≤ ct ∧ ct ≤ maxLen ∧ nt ≤ 1000 from ⟨h.nt_, h.tc, h.tm, hn1⟩)
  have hct : ct ≤ 9223372036854775807 := by have := h.tm; unfold maxLen at this; omega
  have hnc : nt ≤ ct := h.tc
  have hB := Lib.hid h.base
  unfold maxLen at hmh
  clear h hh hM hnh
  go_enter Try.func17, Try.ntmps17
  go_wp2
  go_loopw [7, 8, 14] (fun v e i wr => ∃ (v0 : Value) (k : Nat), v0 = v ∧ k ≤ nh ∧ e = .int .i64 ((repS l t (hs.take k)).2 : Nat) ∧ i = .int .i64 (k : Nat) ∧ OwnB wr w.heap.size v (repS l t (hs.take k)).1 ∧ Below w.heap.size w wr) (fun _ _ i _ => nh - (intOf i).toNat)
  case atStart => exact ⟨_, 0, rfl, Nat.zero_le _, rfl, rfl, OwnB.nil _ _, Below.refl _ _⟩
  case round =>
    obtain ⟨v, k, rfl, hk, rfl, rfl, hown, hbr⟩ := hrel
    have hlen := Lib.hid (show (repS l t (hs.take k)).1.length ≤ 100 * 11000 from by
      have h1 := repS_take_len l t hs 10000 hMh.out k
      have h2 : hs.length * (t.length + 10000) ≤ 100 * 11000 := Nat.mul_le_mul (by rw [← hnhh.out]; exact hn2) (by have := htc.out.2.2.2; rw [← htc.out.1]; omega)
      omega)
    have hle : (repS l t (hs.take k)).2 ≤ nt := by rw [htc.out.1]; exact repS_le l t _
    have hownh := Lib.hid hown
    have hbrh := Lib.hid hbr
    clear hown hbr
    by_cases hlt : k < nh
    · have hkx : k < hs.length := by rw [← hnhh.out]; exact hlt
      have hN := Lib.hid (repS_take l t hs hkx)
      have hMk := Lib.hid (hMh.out _ (List.getElem_mem hkx))
      obtain ⟨ad, bb, oo, rfl, hadd, hbb, hrg⟩ := (hHs.out.below (hbrh.out.mono hB.out)) k hkx
      have hrgh := Lib.hid hrg
      have hst : ∃ st, repS l t (hs.take k) = st := ⟨_, rfl⟩
      obtain ⟨st, hst⟩ := hst
      rw [hst] at hN hownh hlen hle
      rw [hst]
      obtain ⟨out, e⟩ := st
      replace hst := Lib.hid hst
      have hle' : e ≤ nt := hle
      generalize hhk : hs[k]'hkx = x at *
      replace hhk := Lib.hid hhk
      have hkI : (k : Int) < (nh : Int) := by omega
      have hw2 : IntKind.i64.wrap ((k : Int) + 1) = (k : Int) + 1 := IntWalk.i64_in _ (by omega)
      have hnull := Lib.hid (held_new wr 38 #[.int .i64 0, .int .i64 0, .int .i64 0, .int .i64 0, .int .i64 0, .int .i64 0, .int .i64 0, .int .i64 0, .int .i64 0, .int .i64 0, .int .i64 0, .int .i64 0, .int .i64 0, .int .i64 0, .int .i64 0, .int .i64 0, .int .i64 0, .int .i64 0, .int .i64 0, .int .i64 0])
      have hK6 := Lib.hid (hnull.out.row (hitC x))
      have hb6 := Lib.hid (below_row ((Below.refl wr.heap.size wr).alloc (Nat.le_refl _) (.cells #[.int .i64 0, .int .i64 0, .int .i64 0, .int .i64 0, .int .i64 0, .int .i64 0, .int .i64 0, .int .i64 0, .int .i64 0, .int .i64 0, .int .i64 0, .int .i64 0, .int .i64 0, .int .i64 0, .int .i64 0, .int .i64 0, .int .i64 0, .int .i64 0, .int .i64 0, .int .i64 0] 38)) (Nat.le_refl _) (hitC x))
      have hMs := Lib.hid (hitC_size x)
      have hMo := Lib.hid (hit_cells x)
      have hML := Lib.hid (show hitC x = (hitL x).toArray from rfl)
      have hLl := Lib.hid (hitL_len x)
      have hEx := Lib.hid (fun (w' : World) (hb : Below w.heap.size w w') => show Calls Try.prog 15 #[.slice A n c, .slice At nt ct, .agg (hitC x)] w' (BytQ w' (expL t x l)) from expand_any (hIn.out.below hb) (Nat.le_trans hMk.out (by decide)))
      have hsp := Lib.hid (fun (w' : World) (K : Nat) (h : Held w' K 38 (hitC x)) => span_there h (k := 0) (by decide))
      rw [hML.out] at hK6 hb6 hMs hMo hEx hsp
      have hx0 : ∃ y, x 0 = y := ⟨_, rfl⟩
      obtain ⟨y, hx0⟩ := hx0
      rw [hx0] at hsp
      obtain ⟨ya, yb⟩ := y
      generalize hL : hitL x = L at *
      replace hL := Lib.hid hL
      go_upto_region 6 with (first
        | (refine wpList_load_mid rfl 38 (.tmp 16) rfl bb oo rfl L _ hrgh.out Try.underlying38 rfl (by rw [hLl.out]; exact sw_size_hit) ?_)
        | (refine wpList_store_row rfl 38 (.tmp 10) (.tmp 17) rfl wr.heap.size L.toArray rfl rfl 38 _ hnull.out (by rw [hMs.out]; exact sw_size_hit) (by rw [hMs.out]; rfl) hMo.out ?_))
      generalize (wr.alloc (.cells #[.int .i64 0, .int .i64 0, .int .i64 0, .int .i64 0, .int .i64 0, .int .i64 0, .int .i64 0, .int .i64 0, .int .i64 0, .int .i64 0, .int .i64 0, .int .i64 0, .int .i64 0, .int .i64 0, .int .i64 0, .int .i64 0, .int .i64 0, .int .i64 0, .int .i64 0, .int .i64 0] 38)).setRow wr.heap.size L.toArray = w6 at *
      have hown6 := Lib.hid (hownh.out.keep hb6.out)
      have hB6 := Lib.hid (hbrh.out.trans (hb6.out.mono hbrh.out.size))
      generalize wr.heap.size = K at *
      have ⟨s0, s1⟩ : w6.cell? ⟨K, 0, none⟩ = some (.int .i64 ya) ∧ w6.cell? ⟨K, 1, none⟩ = some (.int .i64 yb) := hsp.out w6 K hK6.out
      clear hb6 hnull
      have hbn := Lib.hid (show Below w6.heap.size w6 (w6.alloc (.cells #[.int .i64 ya, .int .i64 yb] 35)) from (Below.refl w6.heap.size w6).alloc (Nat.le_refl _) _)
      have hJ7 := Lib.hid (held_new w6 35 #[.int .i64 ya, .int .i64 yb])
      have hK7 := Lib.hid (hK6.out.keep hbn.out)
      have hown7 := Lib.hid (hown6.out.keep hbn.out)
      have hB7 := Lib.hid (hB6.out.trans (hbn.out.mono hB6.out.size))
      go_upto_region 7 with fail
      generalize w6.alloc (.cells #[.int .i64 ya, .int .i64 yb] 35) = w7 at *
      generalize w6.heap.size = J at *
      have c0 : w7.cell? ⟨J, 0, none⟩ = some (.int .i64 ya) := hJ7.out.at_ rfl
      have c1 : w7.cell? ⟨J, 1, none⟩ = some (.int .i64 yb) := hJ7.out.at_ rfl
      clear s0 s1 hK6 hown6 hB6 hbn hownh
      have hIs := Lib.hid (fun w' => isPart_any At nt ct ya yb w')
      cases hin : inB (ya, yb) nt with
      | false =>
        have hR := Lib.hid (show repS l t (hs.take (k + 1)) = (out, e) from by rw [hN.out]; exact repN_skip1 (by rw [hx0, ← htc.out.1]; exact hin))
        rw [hin] at hIs
        replace hin := Lib.hid hin
        replace hx0 := Lib.hid hx0
        go_wp2_with (go_at_call 29; refine (hIs.out _).mono ?_; rintro en w8 ⟨rfl, hb8⟩)
        go_roundw
        case rel => exact ⟨_, k + 1, rfl, by omega, by rw [hR.out], rfl, by rw [hR.out]; exact hown7.out.keep hb8, hB7.out.trans (hb8.mono hB7.out.size)⟩
        case measure => simp [intOf]; omega
      | true =>
        by_cases hya : ya < (e : Int)
        · have hR := Lib.hid (show repS l t (hs.take (k + 1)) = (out, e) from by rw [hN.out]; exact repN_skip2 (by rw [hx0]; exact hya))
          have d1 : decide (ya < (e : Int)) = true := decide_eq_true hya
          rw [hin] at hIs
          replace hin := Lib.hid hin
          replace hx0 := Lib.hid hx0
          go_wp2_with (go_at_call 29; refine (hIs.out _).mono ?_; rintro en w8 ⟨rfl, hb8⟩; have c08 : w8.cell? ⟨J, 0, none⟩ = some (.int .i64 ya) := (hJ7.out.keep hb8).at_ rfl)
          go_roundw
          case rel => exact ⟨_, k + 1, rfl, by omega, by rw [hR.out], rfl, by rw [hR.out]; exact hown7.out.keep hb8, hB7.out.trans (hb8.mono hB7.out.size)⟩
          case measure => simp [intOf]; omega
        · have h3 := inB_iff.1 hin
          obtain ⟨a, rfl⟩ : ∃ a : Nat, ya = (a : Int) := Int.eq_ofNat_of_zero_le h3.1
          obtain ⟨b, rfl⟩ : ∃ b : Nat, yb = (b : Int) := Int.eq_ofNat_of_zero_le (Int.le_trans h3.1 h3.2.1)
          have hab : a ≤ b := by have := h3.2.1; simp at this; omega
          have hbn' : b ≤ nt := by have := h3.2.2; simp at this; omega
          have hea : e ≤ a := by omega
          have hR := Lib.hid (show repS l t (hs.take (k + 1)) = (out ++ cutL t e a ++ expL t x l, b) from by rw [hN.out]; exact repN_take hx0 (by rw [← htc.out.1]; exact hin) hea)
          have hcl := cutL_len t e a
          have hl1 := Lib.hid (show out.length + (cutL t e a).length ≤ 1000000000 from by have h1 := hlen.out; have h2 := htc.out.1; simp only at h1; omega)
          have hl2 := Lib.hid (show (out ++ cutL t e a).length + (expL t x l).length ≤ 1000000000 from by have h1 := hlen.out; have h2 := htc.out.1; have h3 := hMk.out; rw [List.length_append]; simp only at h1; omega)
          have hcv := Lib.hid (fun (w' : World) (hb : Below w.heap.size w w') => cut_val (hIn.out.byt.below (hb.mono hB.out)) htc.out.1 htc.out.2.1 htc.out.2.2.1 hea (Nat.le_trans hab hbn'))
          have d1 : decide ((a : Int) < (e : Int)) = false := decide_eq_false (by omega)
          have d1' : decide (a < e) = false := decide_eq_false (by omega)
          rw [hin] at hIs
          replace hin := Lib.hid hin
          replace hx0 := Lib.hid hx0
          clear h3 hya hcl
          by_cases hca : ct = e
          · obtain rfl : a = e := by omega
            obtain rfl : b = a := by omega
            subst hca
            replace hcv := Lib.hid (fun (w' : World) (hb : Below w.heap.size w w') => (hcv.out w' hb).1 rfl)
            go_wp2_with (first
              | (go_at_call 29; refine (hIs.out _).mono ?_; rintro en w8 ⟨rfl, hb8⟩; have hJ8 := Lib.hid (hJ7.out.keep hb8); have hK8 := Lib.hid (hK7.out.keep hb8); have hown8 := Lib.hid (hown7.out.keep hb8); have hB8 := Lib.hid (hB7.out.trans (hb8.mono hB7.out.size)); have c08 : w8.cell? ⟨J, 0, none⟩ = some (.int .i64 (ct : Int)) := hJ8.out.at_ rfl; have hv8 := Lib.hid (hcv.out _ hB8.out); clear hb8)
              | (at_builtin; refine wpList_app rfl (.tmp 31) (.tmp 36) rfl rfl hown8.out rfl hv8.out hl1.out hB8.out.size ?_; intro v9 w9 hown9' h9; have hown9 := Lib.hid hown9'; have hB9 := Lib.hid (h9.below _ hB8.out); have hJ9 := Lib.hid (h9.held _ _ _ (by decide) hJ8.out); have hK9 := Lib.hid (h9.held _ _ _ (by decide) hK8.out); clear hown9' h9)
              | (have _h := hB9; refine wpList_load_row rfl 38 (.tmp 10) rfl K rfl 38 _ (0, 0) _ hK9.out Try.underlying38 rfl (by rw [hMs.out]; exact sw_size_hit) ?_)
              | (have _h := hB9; go_at_call 15; refine (hEx.out w9 hB9.out).mono ?_; rintro en w10 ⟨⟨u, rfl, hu⟩, hb10⟩; have hu10 := Lib.hid hu.byt; have hown10 := Lib.hid (hown9.out.keep hb10); have hB10 := Lib.hid (hB9.out.trans (hb10.mono hB9.out.size)); have hJ10 := Lib.hid (hJ9.out.keep hb10); clear hu hb10)
              | (have _h := hB10; at_builtin; refine wpList_app rfl (.tmp 38) (.tmp 42) rfl rfl hown10.out rfl hu10.out hl2.out hB10.out.size ?_; intro v11 w11 hown11 h11; have hB11 := Lib.hid (h11.below _ hB10.out); have c111 : w11.cell? ⟨J, 1, none⟩ = some (.int .i64 (ct : Int)) := (h11.held _ _ _ (by decide) hJ10.out).at_ rfl))
            go_roundw
            case rel => exact ⟨_, k + 1, rfl, by omega, by rw [hR.out], rfl, by rw [hR.out]; exact hown11, hB11.out⟩
            case measure => simp [intOf]; omega
          · replace hcv := Lib.hid (fun (w' : World) (hb : Below w.heap.size w w') => (hcv.out w' hb).2 hca)
            go_wp2_with (first
              | (go_at_call 29; refine (hIs.out _).mono ?_; rintro en w8 ⟨rfl, hb8⟩; have hJ8 := Lib.hid (hJ7.out.keep hb8); have hK8 := Lib.hid (hK7.out.keep hb8); have hown8 := Lib.hid (hown7.out.keep hb8); have hB8 := Lib.hid (hB7.out.trans (hb8.mono hB7.out.size)); have c08 : w8.cell? ⟨J, 0, none⟩ = some (.int .i64 (a : Int)) := hJ8.out.at_ rfl; have hv8 := Lib.hid (hcv.out _ hB8.out); clear hb8)
              | (at_builtin; refine wpList_app rfl (.tmp 31) (.tmp 36) rfl rfl hown8.out rfl hv8.out hl1.out hB8.out.size ?_; intro v9 w9 hown9' h9; have hown9 := Lib.hid hown9'; have hB9 := Lib.hid (h9.below _ hB8.out); have hJ9 := Lib.hid (h9.held _ _ _ (by decide) hJ8.out); have hK9 := Lib.hid (h9.held _ _ _ (by decide) hK8.out); clear hown9' h9)
              | (have _h := hB9; refine wpList_load_row rfl 38 (.tmp 10) rfl K rfl 38 _ (0, 0) _ hK9.out Try.underlying38 rfl (by rw [hMs.out]; exact sw_size_hit) ?_)
              | (have _h := hB9; go_at_call 15; refine (hEx.out w9 hB9.out).mono ?_; rintro en w10 ⟨⟨u, rfl, hu⟩, hb10⟩; have hu10 := Lib.hid hu.byt; have hown10 := Lib.hid (hown9.out.keep hb10); have hB10 := Lib.hid (hB9.out.trans (hb10.mono hB9.out.size)); have hJ10 := Lib.hid (hJ9.out.keep hb10); clear hu hb10)
              | (have _h := hB10; at_builtin; refine wpList_app rfl (.tmp 38) (.tmp 42) rfl rfl hown10.out rfl hu10.out hl2.out hB10.out.size ?_; intro v11 w11 hown11 h11; have hB11 := Lib.hid (h11.below _ hB10.out); have c111 : w11.cell? ⟨J, 1, none⟩ = some (.int .i64 (b : Int)) := (h11.held _ _ _ (by decide) hJ10.out).at_ rfl))
            go_roundw
            case rel => exact ⟨_, k + 1, rfl, by omega, by rw [hR.out], rfl, by rw [hR.out]; exact hown11, hB11.out⟩
            case measure => simp [intOf]; omega
    · obtain rfl : k = nh := by omega
      have hall : hs.take k = hs := by rw [hnhh.out, List.take_length]
      rw [hall] at hownh hlen hle
      rw [hall]
      have hst : ∃ st, repS l t hs = st := ⟨_, rfl⟩
      obtain ⟨st, hst⟩ := hst
      have hR := Lib.hid (show repL l t hs = st.1 ++ cutL t st.2 nt from by unfold repL cutL; rw [hst, htc.out.1, List.take_length])
      rw [hst] at hownh hlen hle
      rw [hst]
      obtain ⟨out, e⟩ := st
      have hle' : e ≤ nt := hle
      have hcv := Lib.hid (cut_val (hIn.out.byt.below (hbrh.out.mono hB.out)) htc.out.1 htc.out.2.1 htc.out.2.2.1 hle' (Nat.le_refl nt))
      have hl1 := Lib.hid (show out.length + (cutL t e nt).length ≤ 1000000000 from by have h1 := hlen.out; have h2 := cutL_len t e nt; simp only at h1; omega)
      replace hst := Lib.hid hst
      clear hall
      by_cases hca : ct = e
      · obtain rfl : nt = e := by omega
        subst hca
        replace hcv := Lib.hid (hcv.out.1 rfl)
        go_wp2_with (at_builtin; refine wpList_app rfl (.tmp 47) (.tmp 50) rfl rfl hownh.out rfl hcv.out hl1.out hbrh.out.size ?_; intro v9 w9 hown9 h9)
        go_ret
        exact ⟨⟨_, rfl, by rw [hR.out]; exact hown9⟩, h9.below _ hbrh.out⟩
      · replace hcv := Lib.hid (hcv.out.2 hca)
        go_wp2_with (at_builtin; refine wpList_app rfl (.tmp 47) (.tmp 50) rfl rfl hownh.out rfl hcv.out hl1.out hbrh.out.size ?_; intro v9 w9 hown9 h9)
        go_ret
        exact ⟨⟨_, rfl, by rw [hR.out]; exact hown9⟩, h9.below _ hbrh.out⟩
end
end Go.Proofs.Ytgkemjjdgpoacaa
