/- Contracts of package files that only read: Len, Get, IsName, fit, room, refusal. -/
import Derived.Test.YtkdhfjnfdcopdaaFilC
namespace Go.Proofs.Ytkdhfjnfdcopdaa
open Go.RowKit

set_option maxHeartbeats 1000000 in
theorem len_any (F : Nat → Prop) (T : Nat) (fs : List Fil) (nm : ByteArray) (w : World) (h : Tab w F T fs) :
    Calls Try.prog 22 #[.pointer (some ⟨T, 0, none⟩), .string nm] w fun e w' => e = .returned (.int .i64 (lenF fs nm)) ∧ Below w.heap.size w w' := by
  have hP := place_any F T fs nm w h
  obtain ⟨v, vs, h⟩ := h
  have hslot := h.slot
  have hlt := h.lt
  obtain ⟨A, cap, rfl, h1, h2, hF⟩ := h.row.fils
  clear h
  unfold maxLen at h2
  cases hp : posN fs nm with
  | none =>
    rw [posI_neg hp] at hP
    have hL : lenF fs nm = -1 := by simp [lenF, hp]
    rw [hL]
    have hP := Lib.hid hP
    clear hL hp hF
    go_enter Try.func22, Try.ntmps22
    go_wp2_with (go_at_call 29; refine (hP.out).mono ?_; rintro e w' ⟨rfl, hb'⟩)
    go_ret
    exact ⟨rfl, hb'⟩
  | some k =>
    obtain ⟨hk, -⟩ := posN_lt hp
    rw [posI_some hp] at hP
    have hL : lenF fs nm = ((fs[k]'hk).2.length : Int) := by simp only [lenF, hp]; rw [getF_some hp hk]
    rw [hL]
    obtain ⟨ad, A1, n1, c1, hA, hbk, -, he1, hn1, hc1, hm1, -⟩ := hF.at_ hk
    subst hA
    rw [← hn1]
    have hP := Lib.hid hP
    have hbb : (ad.add (k * 2)).block < w.heap.size := by rw [block_add]; exact hbk
    unfold maxLen at hm1
    clear hL hn1 hp hF
    generalize fs.length = n at *
    go_enter Try.func22, Try.ntmps22
    go_wp2_with (go_at_call 29; refine (hP.out).mono ?_; rintro e w' ⟨rfl, hb'⟩
                 have hslot' := (hb'.cell (p := ⟨T, 0, none⟩) hlt).trans hslot
                 have he' := (hb'.cell (p := ⟨(ad.add (k * 2)).block, (ad.add (k * 2)).off + 1, none⟩) hbb).trans he1)
    go_ret
    exact ⟨rfl, hb'⟩

set_option maxHeartbeats 1000000 in
theorem get_any (F : Nat → Prop) (T : Nat) (fs : List Fil) (nm : ByteArray) (w : World) (h : Tab w F T fs) (hok : OkF fs) :
    Calls Try.prog 19 #[.pointer (some ⟨T, 0, none⟩), .string nm] w fun e w' => ∃ v, e = .returned (.tuple #[v, .bool (posN fs nm).isSome]) ∧ w'.ownsRow w.heap.size 5 1 v (getF fs nm).length (bv (getF fs nm)) ∧ Below w.heap.size w w' := by
  have hP := place_any F T fs nm w h
  have hg := getF_le hok nm
  obtain ⟨v, vs, h⟩ := h
  have hslot := h.slot
  have hlt := h.lt
  obtain ⟨A, cap, rfl, h1, h2, hF⟩ := h.row.fils
  clear h hok
  unfold maxLen at h2
  cases hp : posN fs nm with
  | none =>
    rw [posI_neg hp] at hP
    rw [getF_none hp]
    have hP := Lib.hid hP
    clear hp hF hg
    go_enter Try.func19, Try.ntmps19
    go_wp2_with (go_at_call 29; refine (hP.out).mono ?_; rintro e w' ⟨rfl, hb'⟩)
    go_ret2
    exact ⟨_, rfl, World.ownsRow_nil _ _ _ _, hb'⟩
  | some k =>
    obtain ⟨hk, -⟩ := posN_lt hp
    rw [posI_some hp] at hP
    rw [getF_some hp hk] at hg ⊢
    obtain ⟨ad, A1, n1, c1, hA, hbk, -, he1, hn1, hc1, hm1, hB⟩ := hF.at_ hk
    subst hA
    have hP := Lib.hid hP
    have hbb : (ad.add (k * 2)).block < w.heap.size := by rw [block_add]; exact hbk
    have hC := Lib.hid (fun (w' : World) (hb : Below w.heap.size w w') => clone_any A1 n1 c1 (fs[k]'hk).2 w.heap.size w' hn1 (by omega) (hB.byt.below hb))
    rw [← hn1] at hg ⊢
    clear hF hn1 hp hB
    unfold maxLen at hm1
    generalize (fs[k]'hk).2 = l at *
    generalize fs.length = n at *
    go_enter Try.func19, Try.ntmps19
    go_wp2_with (first
      | (go_at_call 29; refine (hP.out).mono ?_; rintro e w' ⟨rfl, hb'⟩
         have hslot' := (hb'.cell (p := ⟨T, 0, none⟩) hlt).trans hslot
         have he' := (hb'.cell (p := ⟨(ad.add (k * 2)).block, (ad.add (k * 2)).off + 1, none⟩) hbb).trans he1)
      | (go_at_call 33; refine (hC.out _ hb').mono ?_; rintro e w2 ⟨v2, rfl, ho, hb2⟩))
    go_ret2
    exact ⟨_, rfl, own_base ho hb'.size, hb'.trans (hb2.mono hb'.size)⟩

theorem bytesWorld_below (w : World) (e : TypeId) (s : ByteArray) : Below w.heap.size w (Lib.bytesWorld w e s) :=
  ⟨rfl, rfl, rfl, by rw [Lib.bytesWorld_size]; omega, fun k hk => Lib.bytesWorld_at_old w e s k hk⟩
set_option maxHeartbeats 1000000 in
theorem isName_any (s : ByteArray) (w : World) (hs : s.size ≤ maxLen) :
    Calls Try.prog 28 #[.string s] w fun e w' => e = .returned (.bool (isNm s)) ∧ Below w.heap.size w w' := by
  unfold maxLen at hs
  by_cases hb : s.size < 1 ∨ 64 < s.size
  · rw [isNm_long hb]
    rcases hb with hb | hb
    · go_enter Try.func28, Try.ntmps28
      go_wp2
      go_ret
      exact ⟨rfl, Below.refl _ _⟩
    · go_enter Try.func28, Try.ntmps28
      go_wp2
      go_ret
      exact ⟨rfl, Below.refl _ _⟩
  · have h1 : 1 ≤ s.size := by omega
    have h2 : s.size ≤ 64 := by omega
    have hI := Lib.hid (isNm_in h1 h2)
    have kc := Lib.run_convert_string_bytes (P := Try.prog) w 9 35 5 s Try.underlying9 Try.underlying35 Try.underlying5
    have hcell := Lib.hid (fun (j : Nat) (hj : j < s.size) => show (Lib.bytesWorld w 5 s).cell? ⟨w.heap.size, j, none⟩ = some (.int .u8 ((s[j]'hj).toNat : Int)) by
      rw [Lib.bytesWorld_cell w _ s j hj]
      simp [List.getD, List.getElem?_eq_getElem (show j < s.data.toList.length from hj)]
      rfl)
    have hB := bytesWorld_below w 5 s
    have hcap := grownCap_ge w s.size 0 5
    clear hb
    generalize grownCap w s.size 0 5 = cp at *
    go_enter Try.func28, Try.ntmps28
    go_wp2
    go_loop [4, 16] (fun _ i => ∃ k : Nat, k ≤ s.size ∧ i = .int .i64 (k : Nat) ∧ Hid (isNm s = (s.data.toList.drop k).all okChar)) (fun _ i => s.size - (intOf i).toNat)
    case atStart => exact ⟨0, by omega, rfl, Lib.hid (by rw [hI.out, List.drop_zero])⟩
    case round =>
      obtain ⟨k, hk, rfl, hr⟩ := hrel
      by_cases hlt : k < s.size
      · have hst := Lib.hid (all_step s k hlt)
        have hc := hcell.out k hlt
        have hno : Hid ((((s[k]'hlt).toNat : Int) < 33 ∨ 126 < ((s[k]'hlt).toNat : Int)) → isNm s = false) := Lib.hid fun h => by rw [hr.out, hst.out, okChar_no h]; rfl
        have hyes : Hid (¬ ((s[k]'hlt).toNat : Int) < 33 → ¬ 126 < ((s[k]'hlt).toNat : Int) → isNm s = (s.data.toList.drop (k + 1)).all okChar) := Lib.hid fun a b => by rw [hr.out, hst.out, okChar_yes a b]; rfl
        clear hst hr
        generalize ((s[k]'hlt).toNat : Int) = ch at *
        by_cases ha : ch < 33
        · have hF := Lib.hid (hno.out (.inl ha))
          go_wp2
          go_ret
          exact ⟨ret_bool hF.out.symm, hB⟩
        · by_cases hb : 126 < ch
          · have hF := Lib.hid (hno.out (.inr hb))
            go_wp2
            go_ret
            exact ⟨ret_bool hF.out.symm, hB⟩
          · have hF := Lib.hid (hyes.out ha hb)
            go_wp2
            go_round
            case rel => exact ⟨k + 1, by omega, by go_num, hF⟩
            case measure => simp [intOf]; omega
      · obtain rfl : k = s.size := by omega
        go_wp2
        go_ret
        refine ⟨ret_bool ?_, hB⟩
        rw [hr.out, List.drop_of_length_le (by rw [len_toList]; omega)]; rfl
end Go.Proofs.Ytkdhfjnfdcopdaa
