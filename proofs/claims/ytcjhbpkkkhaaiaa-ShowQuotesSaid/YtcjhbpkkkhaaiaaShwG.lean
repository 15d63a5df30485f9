/- Layer 4: the contract of show.Unquote. -/
import Derived.Test.YtcjhbpkkkhaaiaaShwF
namespace Go.Proofs.Ytcjhbpkkkhaaiaa
open Go.RowKit

theorem unmark_err (r : List UInt8) (e : Int) (h : unmarkS r = .error e) : e = 2 ∨ e = 10 := by
  match r with
  | [] => simp [unmarkS] at h; exact Or.inl h.symm
  | c :: r =>
    by_cases hc : c = 92
    · rw [unmark_esc hc] at h
      split at h
      · simp at h
      · split at h
        · simp at h
        · rename_i e' he
          simp at h
          exact h ▸ octG_err _ _ _ _ he
    · rw [unmark_plain hc] at h; simp at h
theorem unmark_len {r : List UInt8} {c : UInt8} {n : Nat} (h : unmarkS r = .ok (c, n)) : n + 1 ≤ r.length := by
  match r with
  | [] => simp [unmarkS] at h
  | d :: r =>
    by_cases hc : d = 92
    · rw [unmark_esc hc] at h
      split at h
      · rename_i b hb
        simp at h
        match r with
        | [] => simp at hb
        | _ :: _ => simp; omega
      · split at h
        · rename_i b hb
          simp at h
          match r with
          | [] => simp [octG] at hb
          | [_] => unfold octG at hb; split at hb <;> simp [octG] at hb
          | [_, _] =>
            unfold octG at hb
            split at hb
            · unfold octG at hb
              split at hb <;> simp [octG] at hb
            · simp at hb
          | _ :: _ :: _ :: _ => simp; omega
        · simp at h
    · rw [unmark_plain hc] at h; simp at h; simp; omega

/-- What is handed back. -/
def unqT : Except Int (List UInt8 × Nat) → List UInt8 × Nat × Int
  | .ok (b, j) => (b, j, 0)
  | .error e => ([], 0, e)
theorem unqS_quote {s : List UInt8} {j : Nat} (b : List UInt8) (h : s[j]? = some 34) : unqS s j b = .ok (b, j + 1) := by
  rw [unqS, if_pos (List.getElem?_eq_some_iff.1 h).1, if_pos h]
theorem unqS_err {s : List UInt8} {j : Nat} (b : List UInt8) {e : Int} (h : s[j]? ≠ some 34) (hj : j ≤ s.length) (hu : unmarkS (s.drop j) = .error e) : unqS s j b = .error e := by
  by_cases hl : j < s.length
  · rw [unqS, if_pos hl, if_neg h, hu]
  · rw [List.drop_of_length_le (by omega)] at hu
    rw [unqS, if_neg hl]
    simpa [unmarkS] using hu
theorem unqS_ok {s : List UInt8} {j : Nat} (b : List UInt8) {c : UInt8} {n : Nat} (h : s[j]? ≠ some 34) (hu : unmarkS (s.drop j) = .ok (c, n)) : unqS s j b = unqS s (j + (n + 1)) (b ++ [c]) := by
  have hl := unmark_len hu
  rw [List.length_drop] at hl
  rw [unqS, if_pos (by omega), if_neg h, hu]
theorem ext_drop (s : ByteArray) (j : Nat) : (s.extract j s.size).data.toList = s.data.toList.drop j := by
  rw [ByteArray.data_extract, Array.toList_extract, List.extract_eq_take_drop]
  exact List.take_of_length_le (by rw [List.length_drop, len_toList]; omega)
/-- beginsQuote where a text goes on. -/
theorem begins_at (s : ByteArray) (j : Nat) (w : World) :
    Calls Try.prog 19 #[.string (s.extract j s.size)] w fun e w' => e = .returned (.bool (s.data.toList[j]? == some 34)) ∧ w = w' := by
  have h := begins_any (s.extract j s.size) w
  rw [ext_drop, List.head?_drop] at h
  exact h
theorem unmark_at (s : ByteArray) (j : Nat) (w : World) :
    Calls Try.prog 20 #[.string (s.extract j s.size)] w fun e w' => e = .returned (unmR (unmarkS (s.data.toList.drop j))) ∧ w = w' := by
  have h := unmark_any (s.extract j s.size) w
  rw [ext_drop] at h
  exact h

def UnqRel (s : ByteArray) (k : Nat) (W : World) (vj v : Value) (w : World) : Prop :=
  ∃ (j : Nat) (o : List UInt8), vj = .int .i64 (j : Int) ∧ j ≤ s.size ∧ o.length ≤ j ∧ unqS s.data.toList j o = unqS s.data.toList (k + 1) [] ∧ w.ownsRow W.heap.size 5 1 v o.length (bv o) ∧ Below W.heap.size W w
theorem UnqRel.mk {s : ByteArray} {k : Nat} {W : World} {vj v : Value} {w : World} (j : Nat) (o : List UInt8) (h1 : vj = .int .i64 (j : Int)) (h2 : j ≤ s.size) (h3 : o.length ≤ j) (h4 : unqS s.data.toList j o = unqS s.data.toList (k + 1) [])
    (h5 : w.ownsRow W.heap.size 5 1 v o.length (bv o)) (h6 : Below W.heap.size W w) : UnqRel s k W vj v w := ⟨j, o, h1, h2, h3, h4, h5, h6⟩

set_option maxHeartbeats 2000000 in
theorem unquote_any (s : ByteArray) (a : Int) (w : World) (hs : s.size ≤ 100000) (ha : a ≤ 9223372036854775807) :
    Calls Try.prog 11 #[.string s, .int .i64 a] w fun e w' => ∃ v, e = .returned (.tuple #[v, .int .i64 ((unqT (unquoteS s.data.toList a)).2.1 : Int), .int .i64 (unqT (unquoteS s.data.toList a)).2.2]) ∧
      w'.ownsRow w.heap.size 5 1 v (unqT (unquoteS s.data.toList a)).1.length (bv (unqT (unquoteS s.data.toList a)).1) ∧ Below w.heap.size w w' := by
  by_cases h0 : a < 0
  · have hu : unquoteS s.data.toList a = .error 1 := by unfold unquoteS; rw [if_pos (Or.inl h0)]
    rw [hu]
    clear hu
    go_enter Try.func11, Try.ntmps11
    go_wp2_with fail
    go_ret3
    exact ⟨_, rfl, World.ownsRow_nil _ _ _ _, Below.refl _ _⟩
  · obtain ⟨k, rfl⟩ := Int.eq_ofNat_of_zero_le (show 0 ≤ a by omega)
    by_cases h1 : s.size < k
    · have hu : unquoteS s.data.toList (k : Int) = .error 1 := by unfold unquoteS; rw [if_pos (Or.inr (by rw [len_toList]; omega))]
      rw [hu]
      clear hu
      go_enter Try.func11, Try.ntmps11
      go_wp2_with fail
      go_ret3
      exact ⟨_, rfl, World.ownsRow_nil _ _ _ _, Below.refl _ _⟩
    · have hu : unquoteS s.data.toList (k : Int) = if s.data.toList[k]? = some 34 then unqS s.data.toList (k + 1) [] else .error 9 := by
        unfold unquoteS; rw [if_neg (by rw [len_toList]; omega), Int.toNat_natCast]
      have hks : k ≤ s.size := by omega
      by_cases h2 : s.data.toList[k]? = some 34
      · rw [hu, if_pos h2]
        have hlt : k < s.size := (List.getElem?_eq_some_iff.1 h2).1
        have hB := begins_at s k
        rw [show (s.data.toList[k]? == some 34) = true by simpa using h2] at hB
        replace hB := Lib.hid hB
        have hBA := Lib.hid (begins_at s)
        have hUA := Lib.hid (unmark_at s)
        clear hu h2
        obtain ⟨i0, hi, hz0, hi1, hi2⟩ : ∃ i0, Try.prog.info? 5 = some i0 ∧ i0.zero = some (.int .u8 0) ∧ i0.size = 1 ∧ i0.bytes = 1 := by
          obtain ⟨i0, h1, h2⟩ := Option.map_eq_some_iff.1 byteInfoL
          simp at h2
          exact ⟨i0, h1, h2.1, h2.2.1, h2.2.2⟩
        have hI1 := Lib.hid hi1
        have hI2 := Lib.hid hi2
        clear hi1 hi2
        go_enter Try.func11, Try.ntmps11
        go_wp2_with (go_at_call 19; refine (hB.out _).mono ?_; rintro e w' ⟨rfl, rfl⟩)
        go_loopw [1, 7] (fun vj v wr => UnqRel s k w vj v wr) (fun vj _ _ => s.size - (intOf vj).toNat)
        case atStart => exact UnqRel.mk (k + 1) [] (by go_num) (by omega) (by simp) rfl (World.ownsRow_nil _ _ _ _) (Below.refl _ _)
        case round =>
          obtain ⟨j, o, rfl, hj, ho, hr, hown, hb⟩ := hrel
          clear hB
          replace hb := Lib.hid hb
          by_cases h3 : s.data.toList[j]? = some 34
          · have hB := hBA.out j
            rw [show (s.data.toList[j]? == some 34) = true by simpa using h3] at hB
            replace hB := Lib.hid hB
            have hfin : Hid (unqS s.data.toList (k + 1) [] = .ok (o, j + 1)) := Lib.hid (hr.symm.trans (unqS_quote o h3))
            have hjl : j < s.size := (List.getElem?_eq_some_iff.1 h3).1
            clear hr h3
            go_wp2_with (go_at_call 19; refine (hB.out _).mono ?_; rintro e w' ⟨rfl, rfl⟩)
            go_ret3
            exact ⟨_, by rw [hfin.out]; rfl, by rw [hfin.out]; exact hown, hb.out⟩
          · have hB := hBA.out j
            rw [show (s.data.toList[j]? == some 34) = false by simpa using h3] at hB
            replace hB := Lib.hid hB
            have hU := hUA.out j
            match hm : unmarkS (s.data.toList.drop j) with
            | .error e =>
              have hfin : Hid (unqS s.data.toList (k + 1) [] = .error e) := Lib.hid (hr.symm.trans (unqS_err o h3 hj hm))
              rw [hm] at hU
              replace hU := Lib.hid (show ∀ w, Calls Try.prog 20 #[.string (s.extract j s.size)] w fun e' w' => e' = .returned (.tuple #[.int .u8 0, .int .i64 0, .int .i64 e]) ∧ w = w' from hU)
              have he := unmark_err _ _ hm
              clear hr h3 hm hBA hUA
              rcases he with rfl | rfl
              all_goals
                go_wp2_with (first
                  | (go_at_call 19; refine (hB.out _).mono ?_; rintro e w' ⟨rfl, rfl⟩)
                  | (go_at_call 20; refine (hU.out _).mono ?_; rintro e w' ⟨rfl, rfl⟩))
                go_ret3
                exact ⟨_, by rw [hfin.out]; rfl, by rw [hfin.out]; exact World.ownsRow_nil _ _ _ _, hb.out⟩
            | .ok (c, n) =>
              have hr2 := Lib.hid ((unqS_ok o h3 hm).symm.trans hr)
              have hl := unmark_len hm
              rw [List.length_drop, len_toList] at hl
              rw [hm] at hU
              replace hU := Lib.hid (show ∀ w, Calls Try.prog 20 #[.string (s.extract j s.size)] w fun e' w' => e' = .returned (.tuple #[.int .u8 (c.toNat : Int), .int .i64 ((n : Int) + 1), .int .i64 0]) ∧ w = w' from hU)
              clear hr h3 hm hBA hUA
              go_wp2_with (first
                | (go_at_call 19; refine (hB.out _).mono ?_; rintro e w' ⟨rfl, rfl⟩)
                | (go_at_call 20; refine (hU.out _).mono ?_; rintro e w' ⟨rfl, rfl⟩)
                | (at_builtin; refine wpList_append_at rfl _ _ 22 rfl w.heap.size 5 i0 (.int .u8 0) 1 1 Try.underlying22 hi hz0 hI1.out hI2.out rfl (by decide) _ _ _ rfl (hown.alloc _) (some ⟨wr.heap.size, 0, none⟩) 1 1 [.int .u8 (c.toNat : Int)] rfl rfl (src_new wr [.int .u8 (c.toNat : Int)] 5) (by simp [Value.oneCell']) (by unfold maxLen; omega) (by omega) (by have := hb.out.size; simp; omega) ?_; intro v3 w3 hown3 hg3 _; have hb3 := below_append (hb.out.alloc hb.out.size _) (hown.alloc _) (by have := hb.out.size; simp; omega) hg3))
              go_round
              case rel => exact UnqRel.mk (j + (n + 1)) (o ++ [c]) (by go_num) (by omega) (by simp; omega) hr2.out (by rw [List.length_append, bv_append]; exact hown3) hb3
              case measure => simp [intOf]; omega
      · rw [hu, if_neg h2]
        have hB := begins_at s k
        rw [show (s.data.toList[k]? == some 34) = false by simpa using h2] at hB
        replace hB := Lib.hid hB
        clear hu h2
        go_enter Try.func11, Try.ntmps11
        go_wp2_with (go_at_call 19; refine (hB.out _).mono ?_; rintro e w' ⟨rfl, rfl⟩)
        go_ret3
        exact ⟨_, rfl, World.ownsRow_nil _ _ _ _, Below.refl _ _⟩
end Go.Proofs.Ytcjhbpkkkhaaiaa
