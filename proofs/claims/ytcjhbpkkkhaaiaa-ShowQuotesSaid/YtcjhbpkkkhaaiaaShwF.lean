/- Layer 4: what a text begins with: beginsQuote, short, octal, unmark. -/
import Derived.Test.YtcjhbpkkkhaaiaaShwE
import Derived.Test.YtcjhbpkkkhaaiaaShelf
namespace Go.Proofs.Ytcjhbpkkkhaaiaa
open Go.RowKit

theorem begins_any (s : ByteArray) (w : World) :
    Calls Try.prog 19 #[.string s] w fun e w' => e = .returned (.bool (s.data.toList.head? == some 34)) ∧ w = w' := by
  have h := Lib.hid (Try.strings_HasPrefix s ⟨#[34]⟩ w)
  have he : Hid (Lib.hasPrefix s.data.toList [34] = (s.data.toList.head? == some 34)) := by
    apply Lib.hid
    match s.data.toList with
    | [] => rfl
    | x :: r =>
      by_cases hx : x = 34
      · subst hx; simp [Lib.hasPrefix]
      · have h1 : ((34 : UInt8) == x) = false := by simpa using fun e => hx e.symm
        have h2 : (x == 34) = false := by simpa using hx
        simp [Lib.hasPrefix, List.isPrefixOf, h1, h2]
  go_enter Try.func19, Try.ntmps19
  go_wp2_with (go_at_call 25; refine (h.out).mono ?_; rintro e w' ⟨rfl, rfl⟩)
  go_ret
  exact ⟨ret_bool he.out, rfl⟩

theorem short_cases (x : UInt8) : (x = 92 ∨ x = 34) ∨ ((x ≠ 92 ∧ x ≠ 34) ∧ shortB x = none ∧ Lib.indexByte lettersL x = -1) ∨ ((x ≠ 92 ∧ x ≠ 34) ∧ ∃ i : Nat, i < 7 ∧ Lib.indexByte lettersL x = i ∧ shortB x = some (UInt8.ofNat (7 + i))) := by
  have h := all_u8 (fun x => (x == 92 || x == 34) || (((x != 92 && x != 34) && (shortB x == none && Lib.indexByte lettersL x == -1)) || ((x != 92 && x != 34) && (decide (0 ≤ Lib.indexByte lettersL x) && decide (Lib.indexByte lettersL x < 7) && shortB x == some (UInt8.ofNat (7 + (Lib.indexByte lettersL x).toNat)))))) (by decide +kernel) x
  simp only [Bool.or_eq_true, Bool.and_eq_true, beq_iff_eq, bne_iff_ne, decide_eq_true_eq] at h
  rcases h with h | h | ⟨hn, ⟨h0, h1⟩, h2⟩
  · exact Or.inl h
  · exact Or.inr (Or.inl h)
  · exact Or.inr (Or.inr ⟨hn, (Lib.indexByte lettersL x).toNat, by omega, by omega, h2⟩)

theorem head_at (s : ByteArray) (h : 0 < s.size) : s.data.toList.head? = some s[0] := by
  rw [List.head?_eq_getElem?, List.getElem?_eq_getElem (by rw [len_toList]; exact h)]; rfl
theorem not_empty (s : ByteArray) (h : 0 < s.size) : (s.toList == []) = false := by
  have : s ≠ ⟨#[]⟩ := by rintro rfl; simp [ByteArray.size] at h
  rw [beq_eq_false_iff_ne, ByteArray.toList_eq]
  intro e
  exact this (bytes_ext e)

theorem short_any (s : ByteArray) (w : World) :
    Calls Try.prog 26 #[.string s] w fun e w' => e = .returned (.tuple #[.int .u8 ((((s.data.toList.head?.bind shortB).getD 0).toNat : Nat) : Int), .bool (s.data.toList.head?.bind shortB).isSome]) ∧ w = w' := by
  by_cases h0 : s.size = 0
  · have : s = ⟨#[]⟩ := bytes_ext (List.eq_nil_of_length_eq_zero h0)
    subst this
    go_enter Try.func26, Try.ntmps26
    go_wp2
    go_ret2
    exact ⟨rfl, rfl⟩
  · have hIB := Lib.hid (Try.strings_IndexByte ⟨#[97, 98, 116, 110, 118, 102, 114]⟩)
    have hpos : 0 < s.size := by omega
    have hne := not_empty s hpos
    rw [head_at s hpos]
    show Calls _ _ _ _ fun e w' => e = .returned (.tuple #[.int .u8 ((((shortB s[0]).getD 0).toNat : Nat) : Int), .bool (shortB s[0]).isSome]) ∧ w = w'
    rcases short_cases s[0] with h | ⟨⟨h1, h2⟩, h3, h4⟩ | ⟨⟨h1, h2⟩, i, hi, h4, h3⟩
    · have hr : Hid (shortB s[0] = some s[0]) := Lib.hid (by unfold shortB; rw [if_pos (by simpa using h)])
      by_cases h5 : s[0] = 92
      · have g1 : ((s[0].toNat : Int) == 92) = true := by rw [h5]; rfl
        clear h h5
        go_enter Try.func26, Try.ntmps26
        go_wp2_with fail
        go_ret2
        exact ⟨by rw [hr.out]; rfl, rfl⟩
      · have h6 : s[0] = 34 := h.resolve_left h5
        have g1 : ((s[0].toNat : Int) == 92) = false := u8_ne (b := 92) h5
        have g2 : ((s[0].toNat : Int) == 34) = true := by rw [h6]; rfl
        clear h h5 h6
        go_enter Try.func26, Try.ntmps26
        go_wp2_with fail
        go_ret2
        exact ⟨by rw [hr.out]; rfl, rfl⟩
    · have g1 : ((s[0].toNat : Int) == 92) = false := u8_ne (b := 92) h1
      have g2 : ((s[0].toNat : Int) == 34) = false := u8_ne (b := 34) h2
      rw [h3]
      have h4 : Lib.indexByte [97, 98, 116, 110, 118, 102, 114] s[0] = -1 := h4
      clear h1 h2 h3
      go_enter Try.func26, Try.ntmps26
      go_wp2_with (go_at_call 32; refine (hIB.out _ _).mono ?_; rintro e w' ⟨rfl, rfl⟩)
      go_ret2
      exact ⟨rfl, rfl⟩
    · have g1 : ((s[0].toNat : Int) == 92) = false := u8_ne (b := 92) h1
      have g2 : ((s[0].toNat : Int) == 34) = false := u8_ne (b := 34) h2
      rw [h3]
      have h4 : Lib.indexByte [97, 98, 116, 110, 118, 102, 114] s[0] = i := h4
      have e1 : IntKind.i64.wrap (7 + (i : Int)) = 7 + (i : Int) := IntWalk.i64_in _ (by omega)
      have e2 : IntKind.u8.wrap (7 + (i : Int)) = 7 + (i : Int) := IntWalk.u8_in _ (by omega)
      have e3 : Hid (((UInt8.ofNat (7 + i)).toNat : Int) = 7 + (i : Int)) := Lib.hid (by simp; omega)
      clear h1 h2 h3
      go_enter Try.func26, Try.ntmps26
      go_wp2_with (go_at_call 32; refine (hIB.out _ _).mono ?_; rintro e w' ⟨rfl, rfl⟩)
      go_ret2
      exact ⟨by rw [Option.getD_some, e3.out]; rfl, rfl⟩

def octR : Except Int UInt8 → Value
  | .ok b => .tuple #[.int .u8 (b.toNat : Int), .int .i64 0]
  | .error e => .tuple #[.int .u8 0, .int .i64 e]
theorem octG_step (s : ByteArray) (i m n : Nat) (h : i < s.size) : octG (m + 1) n (s.data.toList.drop i) = if 48 ≤ s[i].toNat ∧ s[i].toNat ≤ 55 then octG m (8 * n + (s[i].toNat - 48)) (s.data.toList.drop (i + 1)) else .error 10 := by
  have hl : i < s.data.toList.length := by rw [len_toList]; exact h
  rw [List.drop_eq_getElem_cons hl]
  rfl
theorem octG_end (s : ByteArray) (i m n : Nat) (h : s.size ≤ i) : octG (m + 1) n (s.data.toList.drop i) = .error 2 := by
  rw [List.drop_of_length_le (by rw [len_toList]; exact h)]; rfl
def OctRel (s : ByteArray) (vi vn : Value) : Prop := ∃ i n : Nat, i ≤ 3 ∧ i ≤ s.size ∧ n ≤ 511 ∧ (n < 1 ∨ 1 ≤ i) ∧ (n < 8 ∨ 2 ≤ i) ∧ (n < 64 ∨ 3 ≤ i) ∧ vi = .int .i64 (i : Int) ∧ vn = .int .i64 (n : Int) ∧ octG (3 - i) n (s.data.toList.drop i) = octG 3 0 s.data.toList
theorem OctRel.mk {s : ByteArray} {vi vn : Value} (i n : Nat) (h1 : i ≤ 3) (h0 : i ≤ s.size) (h2 : n ≤ 511) (h3 : n < 1 ∨ 1 ≤ i) (h4 : n < 8 ∨ 2 ≤ i) (h5 : n < 64 ∨ 3 ≤ i) (h6 : vi = .int .i64 (i : Int)) (h7 : vn = .int .i64 (n : Int)) (h8 : octG (3 - i) n (s.data.toList.drop i) = octG 3 0 s.data.toList) : OctRel s vi vn :=
  ⟨i, n, h1, h0, h2, h3, h4, h5, h6, h7, h8⟩

set_option maxHeartbeats 1000000 in
theorem octal_any (s : ByteArray) (w : World) :
    Calls Try.prog 27 #[.string s] w fun e w' => e = .returned (octR (octG 3 0 s.data.toList)) ∧ w = w' := by
  go_enter Try.func27, Try.ntmps27
  go_wp2
  go_loop [6, 4] (fun vi vn => OctRel s vi vn) (fun vi _ => 3 - (intOf vi).toNat)
  case atStart => exact OctRel.mk 0 0 (by omega) (by omega) (by omega) (by omega) (by omega) (by omega) rfl rfl rfl
  case round =>
    obtain ⟨i, n, h1, h0, h2, h3, h4, h5, rfl, rfl, hr⟩ := hrel
    by_cases hi : i = 3
    · subst hi
      by_cases hn : n ≤ 255
      · have hfin : Hid (octG 3 0 s.data.toList = .ok (UInt8.ofNat n)) := Lib.hid (by rw [← hr]; show (if 255 < n then _ else _) = _; rw [if_neg (by omega)])
        have g1 : decide (255 < (n : Int)) = false := by simp; omega
        have e2 : IntKind.u8.wrap (n : Int) = (n : Int) := IntWalk.u8_in _ (by omega)
        clear hr h3 h4 h5
        go_wp2
        go_ret2
        exact ⟨by rw [hfin.out]; show _ = Ending.returned (.tuple #[.int .u8 ((UInt8.ofNat n).toNat : Int), .int .i64 0]); rw [show ((UInt8.ofNat n).toNat : Int) = (n : Int) by simp; omega]; rfl, rfl⟩
      · have hfin : Hid (octG 3 0 s.data.toList = .error 10) := Lib.hid (by rw [← hr]; show (if 255 < n then _ else _) = _; rw [if_pos (by omega)])
        have g1 : decide (255 < (n : Int)) = true := by simp; omega
        clear hr h3 h4 h5
        go_wp2
        go_ret2
        exact ⟨by rw [hfin.out]; rfl, rfl⟩
    · have hi3 : i < 3 := by omega
      by_cases hs : i < s.size
      · have hst := octG_step s i (2 - i) n hs
        rw [show 2 - i + 1 = 3 - i by omega, hr] at hst
        by_cases hd : 48 ≤ s[i].toNat ∧ s[i].toNat ≤ 55
        · rw [if_pos hd] at hst
          replace hst := Lib.hid hst
          clear hr
          go_wp2
          go_round
          case rel => exact OctRel.mk (i + 1) (8 * n + (s[i].toNat - 48)) (by omega) (by omega) (by omega) (by omega) (by omega) (by omega) (by go_num) (by go_num) (by rw [show 3 - (i + 1) = 2 - i by omega]; exact hst.out.symm)
          case measure => simp [intOf]; omega
        · rw [if_neg hd] at hst
          replace hst := Lib.hid hst
          clear hr
          go_wp2
          all_goals
            go_ret2
            exact ⟨by rw [hst.out]; rfl, rfl⟩
      · have hst := octG_end s i (2 - i) n (by omega)
        rw [show 2 - i + 1 = 3 - i by omega, hr] at hst
        replace hst := Lib.hid hst
        clear hr
        go_wp2
        all_goals
          go_ret2
          exact ⟨by rw [hst.out]; rfl, rfl⟩

def unmR : Except Int (UInt8 × Nat) → Value
  | .ok (b, k) => .tuple #[.int .u8 (b.toNat : Int), .int .i64 ((k : Int) + 1), .int .i64 0]
  | .error e => .tuple #[.int .u8 0, .int .i64 0, .int .i64 e]
theorem octG_err : ∀ (k n : Nat) (r : List UInt8) (e : Int), octG k n r = .error e → e = 2 ∨ e = 10
  | 0, n, _, e, h => by
    unfold octG at h
    split at h <;> simp at h
    exact Or.inr h.symm
  | k + 1, n, [], e, h => by simp [octG] at h; exact Or.inl h.symm
  | k + 1, n, c :: r, e, h => by
    unfold octG at h
    split at h
    · exact octG_err k _ r e h
    · simp at h; exact Or.inr h.symm
theorem cons_at (s : ByteArray) (h : 0 < s.size) : s.data.toList = s[0] :: (s.extract 1 s.size).data.toList := by
  have hl : 0 < s.data.toList.length := h
  rw [ByteArray.data_extract, Array.toList_extract, List.extract_eq_take_drop]
  rw [List.take_of_length_le (by rw [List.length_drop, len_toList]; omega)]
  conv => lhs; rw [← List.drop_zero (l := s.data.toList), List.drop_eq_getElem_cons hl]
  rfl

theorem unmark_plain {c : UInt8} (h : c ≠ 92) (r : List UInt8) : unmarkS (c :: r) = .ok (c, 0) := by simp [unmarkS, h]
theorem unmark_esc {c : UInt8} (h : c = 92) (r : List UInt8) : unmarkS (c :: r) = match r.head?.bind shortB with
      | some b => .ok (b, 1)
      | none => match octG 3 0 r with
        | .ok b => .ok (b, 3)
        | .error e => .error e := by 
  simp only [unmarkS, h, ne_eq, not_true_eq_false, if_false]; rfl

set_option maxHeartbeats 1000000 in
theorem unmark_any (s : ByteArray) (w : World) :
    Calls Try.prog 20 #[.string s] w fun e w' => e = .returned (unmR (unmarkS s.data.toList)) ∧ w = w' := by
  by_cases h0 : s.size = 0
  · have : s = ⟨#[]⟩ := bytes_ext (List.eq_nil_of_length_eq_zero h0)
    subst this
    go_enter Try.func20, Try.ntmps20
    go_wp2
    go_ret3
    exact ⟨rfl, rfl⟩
  · have hpos : 0 < s.size := by omega
    have hne := not_empty s hpos
    have hS := short_any (s.extract 1 s.size)
    have hO := octal_any (s.extract 1 s.size)
    rw [cons_at s hpos]
    by_cases hx : s[0] = 92
    · have g1 : ((s[0].toNat : Int) == 92) = true := by rw [hx]; rfl
      rw [unmark_esc hx]
      replace hx := Lib.hid hx
      match h1 : (s.extract 1 s.size).data.toList.head?.bind shortB with
      | some b =>
        rw [h1] at hS
        replace hS := Lib.hid hS
        clear hO h1
        go_enter Try.func20, Try.ntmps20
        go_wp2_with (go_at_call 26; refine (hS.out _).mono ?_; rintro e w' ⟨rfl, rfl⟩)
        go_ret3
        exact ⟨rfl, rfl⟩
      | none =>
        rw [h1] at hS
        replace hS := Lib.hid hS
        match h2 : octG 3 0 (s.extract 1 s.size).data.toList with
        | .ok b =>
          rw [h2] at hO
          replace hO := Lib.hid (show ∀ w, Calls Try.prog 27 #[.string (s.extract 1 s.size)] w fun e w' => e = .returned (.tuple #[.int .u8 (b.toNat : Int), .int .i64 0]) ∧ w = w' from hO)
          clear h1 h2
          go_enter Try.func20, Try.ntmps20
          go_wp2_with (first
            | (go_at_call 26; refine (hS.out _).mono ?_; rintro e w' ⟨rfl, rfl⟩)
            | (go_at_call 27; refine (hO.out _).mono ?_; rintro e w' ⟨rfl, rfl⟩))
          go_ret3
          exact ⟨rfl, rfl⟩
        | .error e =>
          rw [h2] at hO
          replace hO := Lib.hid (show ∀ w, Calls Try.prog 27 #[.string (s.extract 1 s.size)] w fun e' w' => e' = .returned (.tuple #[.int .u8 0, .int .i64 e]) ∧ w = w' from hO)
          have he := octG_err _ _ _ _ h2
          clear h1 h2
          rcases he with rfl | rfl
          all_goals
            go_enter Try.func20, Try.ntmps20
            go_wp2_with (first
              | (go_at_call 26; refine (hS.out _).mono ?_; rintro e w' ⟨rfl, rfl⟩)
              | (go_at_call 27; refine (hO.out _).mono ?_; rintro e w' ⟨rfl, rfl⟩))
            go_ret3
            exact ⟨rfl, rfl⟩
    · have g1 : ((s[0].toNat : Int) == 92) = false := u8_ne (b := 92) hx
      rw [unmark_plain hx]
      clear hx hS hO
      go_enter Try.func20, Try.ntmps20
      go_wp2_with fail
      go_ret3
      exact ⟨rfl, rfl⟩
end Go.Proofs.Ytcjhbpkkkhaaiaa
