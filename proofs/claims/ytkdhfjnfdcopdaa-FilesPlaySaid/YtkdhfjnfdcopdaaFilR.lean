/- Contracts of the references of package files: New. -/
import Derived.Test.YtkdhfjnfdcopdaaFilQ
namespace Go.Proofs.Ytkdhfjnfdcopdaa
open Go.RowKit

theorem newGo_consR (out r : List Fil) (f : Fil) : newGo out (f :: r) = if (posN out f.1).isSome then ([], 5) else if (putF out f.1 f.2).2 = 0 then newGo (putF out f.1 f.2).1 r else ([], (putF out f.1 f.2).2) := rfl
def RelRN (w : World) (fs : List Fil) (n : Nat) (v i : Value) (wr : World) : Prop :=
  ∃ (k : Nat) (out : List Fil) (A : Option Addr) (m c : Nat), k ≤ n ∧ i = .int .i64 (k : Nat) ∧ v = .slice A m c ∧ Hid (m = out.length) ∧ m ≤ c ∧ c ≤ maxLen ∧ Fils wr (fun k => w.heap.size ≤ k) A out ∧ Hid (newGo out (fs.drop k) = newGo [] fs) ∧ Hid (OkF out) ∧ Below w.heap.size w wr
theorem RelRN.mk {w : World} {fs : List Fil} {n : Nat} {v i : Value} {wr : World}
    (h : ∃ (k : Nat) (out : List Fil) (A : Option Addr) (m c : Nat), k ≤ n ∧ i = .int .i64 (k : Nat) ∧ v = .slice A m c ∧ Hid (m = out.length) ∧ m ≤ c ∧ c ≤ maxLen ∧ Fils wr (fun k => w.heap.size ≤ k) A out ∧ Hid (newGo out (fs.drop k) = newGo [] fs) ∧ Hid (OkF out) ∧ Below w.heap.size w wr) : RelRN w fs n v i wr := h

set_option maxHeartbeats 4000000 in
theorem refNew_any (A : Option Addr) (n c : Nat) (fs : List Fil) (w : World) (hn : n = fs.length) (hnc : n ≤ c) (hz : ∀ f ∈ fs, f.1.size ≤ maxLen) (h : Fils w (fun k => k < w.heap.size) A fs) :
    Calls Try.prog 10 #[.slice A n c] w fun e w' => PutPost w w' (fun _ => False) (newF fs) e ∧ Below w.heap.size w w' := by
  by_cases hbig : 16 < n
  · have hF : newF fs = ([], 7) := by unfold newF; rw [if_pos (by omega)]
    rw [hF]
    clear hF h hn
    go_enter Try.func10, Try.ntmps10
    go_wp2
    go_ret2
    exact ⟨⟨none, 0, 0, rfl, rfl, Nat.le_refl _, by simp [maxLen], Fils.none_ _ _ _⟩, Below.refl _ _⟩
  · have hF : newF fs = newGo [] fs := by unfold newF; rw [if_neg (by omega)]
    rw [hF]
    clear hF
    have hno : ∀ w' c, newGo [] fs = ([], c) → PutPost w w' (fun _ => False) (newGo [] fs) (.returned (.tuple #[.slice none 0 0, .int .i64 c])) := fun w' c e => by
      rw [e]; exact ⟨none, 0, 0, rfl, rfl, Nat.le_refl _, by simp [maxLen], Fils.none_ _ _ _⟩
    replace hno := Lib.hid hno
    replace hz := Lib.hid hz
    replace hn := Lib.hid hn
    replace h := Lib.hid h
    generalize hR : newGo [] fs = R at *
    replace hR := Lib.hid hR
    go_enter Try.func10, Try.ntmps10
    go_wp2
    go_loopw [4, 5, 6, 7] (fun v i _ _ wr => RelRN w fs n v i wr) (fun _ i _ _ _ => n - (intOf i).toNat)
    case atStart =>
      exact RelRN.mk ⟨0, [], none, 0, 0, by omega, rfl, rfl, Lib.hid rfl, Nat.le_refl _, by simp [maxLen], Fils.none_ _ _ _, Lib.hid (by rw [List.drop_zero]), Lib.hid ok_nil, Below.refl _ _⟩
    case round =>
      obtain ⟨k, out, A0, m0, c0, hk, rfl, rfl, hm0, hmc0, hcm0, hO, hgo, hok, hbr⟩ := hrel
      by_cases hlt : k < n
      · have hlk : k < fs.length := by have := hn.out; omega
        obtain ⟨ad, A1, n1, c1, hA, hbk, hd, he1, hn1, hc1, hm1, hB1⟩ := (h.out.belowB hbr).at_ hlk
        subst hA
        have hnm := hz.out _ (List.getElem_mem hlk)
        have hdr : fs.drop k = fs[k]'hlk :: fs.drop (k + 1) := List.drop_eq_getElem_cons hlk
        have hst0 := hgo.out
        rw [hdr, newGo_consR] at hst0
        clear hdr
        generalize fs[k]'hlk = x at *
        obtain ⟨nm, l⟩ := x
        have hstep : (if (posN out nm).isSome then ([], 5) else if (putF out nm l).2 = 0 then newGo (putF out nm l).1 (fs.drop (k + 1)) else ([], (putF out nm l).2)) = newGo [] fs := hst0
        clear hst0
        have hI := Lib.hid (refIsName_any nm wr hnm)
        have hPl := at_any A0 m0 c0 out nm _ wr hm0.out hmc0 hcm0 hO
        have hput := fun (w1 : World) (hb : Below wr.heap.size wr w1) => refPut_any A0 m0 c0 out nm A1 n1 c1 l _ (fun _ => True) w1 hm0.out hmc0 hcm0 (hO.below hb) hok.out.1 hnm hn1
          (BytQ.keep hB1 (fun p hq _ => hb.cell (Nat.lt_of_lt_of_le hq hbr.size)) (fun k hk _ => trivial))
        have hokp := putF_ok hok.out nm l
        have hnmok := fun j hj => name_ok hok.out (nm := nm) (k := j) hj
        replace hokp := Lib.hid hokp
        replace hput := Lib.hid hput
        have hdw : Below wr.heap.size wr wr.drew := (Below.refl _ wr).drew
        unfold maxLen at hm1 hcm0
        clear hn1 hB1 hO
        cases hp : posN out nm with
        | some j =>
          rw [posI_some hp] at hPl
          rw [hp, if_pos (by rfl)] at hstep
          rw [hnmok j hp] at hI
          replace hPl := Lib.hid hPl
          replace hstep := Lib.hid hstep
          clear hp hnmok
          go_wp2_with (first
            | (go_at_call 27; refine (hI.out).mono ?_; rintro e w1 ⟨rfl, rfl⟩)
            | (go_at_call 20; refine (hPl.out).mono ?_; rintro e w1 ⟨rfl, rfl⟩))
          go_ret2
          exact ⟨hno.out _ 5 (hR.out.symm.trans hstep.out.symm), hbr⟩
        | none =>
          rw [posI_neg hp] at hPl
          rw [hp, if_neg (by simp)] at hstep
          replace hPl := Lib.hid hPl
          clear hp hnmok
          generalize hpe : putF out nm l = pe at *
          obtain ⟨out', e0⟩ := pe
          replace hstep : (if e0 = 0 then newGo out' (fs.drop (k + 1)) else ([], e0)) = newGo [] fs := hstep
          clear hpe
          by_cases he : e0 = 0
          · subst he
            rw [if_pos rfl] at hstep
            replace hstep := Lib.hid hstep
            cases hb : isNm nm
            all_goals rw [hb] at hI
            all_goals clear hb
            all_goals go_wp2_with (first
              | (go_at_call 27; refine (hI.out).mono ?_; rintro e w1 ⟨rfl, rfl⟩)
              | (go_at_call 20; refine (hPl.out).mono ?_; rintro e w1 ⟨rfl, rfl⟩))
            all_goals go_region_with (go_at_call 12; refine (hput.out _ (by first | exact hdw | exact Below.refl _ _)).mono ?_; rintro e w2 ⟨⟨A9, n9, c9, rfl, k1, k2, k3, k4⟩, hb2⟩; replace k1 := Lib.hid k1; replace k4 := Lib.hid k4)
            all_goals go_wp2
            all_goals go_roundw
            all_goals try (case rel => exact RelRN.mk ⟨k + 1, out', A9, n9, c9, by omega, by go_num, rfl, k1, k2, k3, k4.out.mono (fun _ hq _ => hq.elim id fun h => Nat.le_trans hbr.size h), hstep, hokp, hbr.trans ((hdw.trans (hb2.mono hdw.size)).mono hbr.size)⟩)
            all_goals try (case measure => simp [intOf]; omega)
          · rw [if_neg he] at hstep
            have hne0 : (e0 == 0) = false := by rw [beq_eq_false_iff_ne]; exact he
            replace hstep := Lib.hid hstep
            clear he
            cases hb : isNm nm
            all_goals rw [hb] at hI
            all_goals clear hb
            all_goals go_wp2_with (first
              | (go_at_call 27; refine (hI.out).mono ?_; rintro e w1 ⟨rfl, rfl⟩)
              | (go_at_call 20; refine (hPl.out).mono ?_; rintro e w1 ⟨rfl, rfl⟩))
            all_goals go_region_with (go_at_call 12; refine (hput.out _ (by first | exact hdw | exact Below.refl _ _)).mono ?_; rintro e w2 ⟨⟨A9, n9, c9, rfl, k1, k2, k3, k4⟩, hb2⟩; replace k1 := Lib.hid k1; replace k4 := Lib.hid k4)
            all_goals go_wp2
            all_goals go_ret2
            all_goals exact ⟨hno.out _ e0 (hR.out.symm.trans hstep.out.symm), hbr.trans ((hdw.trans (hb2.mono hdw.size)).mono hbr.size)⟩
      · obtain rfl : k = n := by omega
        have hend := hgo.out
        rw [List.drop_of_length_le (by rw [← hn.out]; exact Nat.le_refl _)] at hend
        replace hend : (out, (0 : Int)) = newGo [] fs := hend
        have hRR : R = (out, 0) := hR.out.symm.trans hend.symm
        clear hend
        subst hRR
        go_wp2
        go_ret2
        exact ⟨⟨A0, m0, c0, rfl, hm0.out, hmc0, hcm0, hO.mono fun _ h _ => .inr h⟩, hbr⟩
end Go.Proofs.Ytkdhfjnfdcopdaa
