/- Layer 4: the contract of the reference's Unquote. -/
import Derived.Test.YtcjhbpkkkhaaiaaShwG
import Derived.Deep.QuietTactic
import Derived.BigQuiet
namespace Go.Proofs.Ytcjhbpkkkhaaiaa
open Go.RowKit

/-- The last byte below a number that has a mark of two bytes that ends so. -/
def oneAt : Nat → UInt8 → Int
  | 0, _ => -1
  | c + 1, x => if (markL (UInt8.ofNat c)).length = 2 ∧ (markL (UInt8.ofNat c))[1]? = some x then c else oneAt c x
theorem one_all (x : UInt8) : (x = 34 → shortB x = some 34) ∧ (x ≠ 34 → match shortB x with
    | some y => oneAt 256 x = (y.toNat : Int)
    | none => oneAt 256 x = -1) := by
  have h := all_u8 (fun x => if x == 34 then shortB x == some 34 else match shortB x with
    | some y => oneAt 256 x == (y.toNat : Int)
    | none => oneAt 256 x == -1) (by decide +kernel) x
  constructor
  · rintro rfl; rfl
  · intro hx
    rw [if_neg (by simpa using hx)] at h
    split <;> split at h <;> simp_all

/-- A number's mark, the reference's, as a string. -/
theorem refMark_nat (c : Nat) (hc : c < 256) : ∃ m : ByteArray, m.data.toList = markL (UInt8.ofNat c) ∧
    ∀ w, Calls Try.prog 21 #[.int .u8 (c : Int)] w fun e w' => e = .returned (.string m) ∧ Below w.heap.size w w' :=
  ⟨⟨(markL (UInt8.ofNat c)).toArray⟩, rfl, fun w => refMark_int _ (UInt8.ofNat c) (by simp; omega) w⟩
theorem oneAt_yes {c : Nat} {x : UInt8} {m : ByteArray} (hm : m.data.toList = markL (UInt8.ofNat c)) (h : 1 < m.size) (h2 : m.size = 2) (hx : m[1] = x) : oneAt (c + 1) x = c := by
  rw [oneAt, if_pos]
  rw [← hm]
  exact ⟨h2, by rw [List.getElem?_eq_getElem (by rw [len_toList]; exact h)]; exact congrArg some hx⟩
theorem oneAt_no {c : Nat} {x : UInt8} {m : ByteArray} (hm : m.data.toList = markL (UInt8.ofNat c)) (h : 1 < m.size) (hx : m[1] ≠ x) : oneAt (c + 1) x = oneAt c x := by
  rw [oneAt, if_neg]
  rw [← hm]
  rintro ⟨_, h3⟩
  rw [List.getElem?_eq_getElem (by rw [len_toList]; exact h)] at h3
  exact hx (Option.some.inj h3)
theorem oneAt_len {c : Nat} {x : UInt8} {m : ByteArray} (hm : m.data.toList = markL (UInt8.ofNat c)) (h : m.size ≠ 2) : oneAt (c + 1) x = oneAt c x := by
  rw [oneAt, if_neg]
  rw [← hm]
  rintro ⟨h3, _⟩
  exact h h3

def RUnq (s : ByteArray) (k : Nat) (W : World) (vj v : Value) (w : World) : Prop :=
  ∃ (j : Nat) (o : List UInt8), vj = .int .i64 (j : Int) ∧ j ≤ s.size ∧ o.length ≤ j ∧ unqS s.data.toList j o = unqS s.data.toList (k + 1) [] ∧ w.ownsRow W.heap.size 5 1 v o.length (bv o) ∧ Below W.heap.size W w
theorem RUnq.mk {s : ByteArray} {k : Nat} {W : World} {vj v : Value} {w : World} (j : Nat) (o : List UInt8) (h1 : vj = .int .i64 (j : Int)) (h2 : j ≤ s.size) (h3 : o.length ≤ j) (h4 : unqS s.data.toList j o = unqS s.data.toList (k + 1) [])
    (h5 : w.ownsRow W.heap.size 5 1 v o.length (bv o)) (h6 : Below W.heap.size W w) : RUnq s k W vj v w := ⟨j, o, h1, h2, h3, h4, h5, h6⟩
def OneRel (x : UInt8) (W : World) (vc vo : Value) (w : World) : Prop := ∃ c : Nat, c ≤ 256 ∧ vc = .int .i64 (c : Int) ∧ vo = .int .i64 (oneAt c x) ∧ Below W.heap.size W w
theorem OneRel.mk {x : UInt8} {W : World} {vc vo : Value} {w : World} (c : Nat) (h1 : c ≤ 256) (h2 : vc = .int .i64 (c : Int)) (h3 : vo = .int .i64 (oneAt c x)) (h4 : Below W.heap.size W w) : OneRel x W vc vo w := ⟨c, h1, h2, h3, h4⟩

theorem u8_bne {a b : UInt8} (h : a ≠ b) : (((a.toNat : Nat) : Int) != ((b.toNat : Nat) : Int)) = true := by rw [bne, u8_ne h]; rfl
theorem unmark_oct_ok {c : UInt8} {r : List UInt8} {b : UInt8} (h : c = 92) (hs : r.head?.bind shortB = none) (ho : octG 3 0 r = .ok b) : unmarkS (c :: r) = .ok (b, 3) := by rw [unmark_esc h]; simp [hs, ho]
theorem unmark_oct_err {c : UInt8} {r : List UInt8} {e : Int} (h : c = 92) (hs : r.head?.bind shortB = none) (ho : octG 3 0 r = .error e) : unmarkS (c :: r) = .error e := by rw [unmark_esc h]; simp [hs, ho]
def ROct (s : ByteArray) (p : Nat) (vi vn : Value) : Prop := ∃ i n : Nat, i ≤ 3 ∧ p + i ≤ s.size ∧ n ≤ 511 ∧ (n < 1 ∨ 1 ≤ i) ∧ (n < 8 ∨ 2 ≤ i) ∧ (n < 64 ∨ 3 ≤ i) ∧ vi = .int .i64 (i : Int) ∧ vn = .int .i64 (n : Int) ∧ octG (3 - i) n (s.data.toList.drop (p + i)) = octG 3 0 (s.data.toList.drop p)
theorem ROct.mk {s : ByteArray} {p : Nat} {vi vn : Value} (i n : Nat) (h1 : i ≤ 3) (h0 : p + i ≤ s.size) (h2 : n ≤ 511) (h3 : n < 1 ∨ 1 ≤ i) (h4 : n < 8 ∨ 2 ≤ i) (h5 : n < 64 ∨ 3 ≤ i) (h6 : vi = .int .i64 (i : Int)) (h7 : vn = .int .i64 (n : Int)) (h8 : octG (3 - i) n (s.data.toList.drop (p + i)) = octG 3 0 (s.data.toList.drop p)) : ROct s p vi vn :=
  ⟨i, n, h1, h0, h2, h3, h4, h5, h6, h7, h8⟩
theorem unqS_end {s : List UInt8} {j : Nat} (b : List UInt8) (h : s.length ≤ j) : unqS s j b = .error 2 := by
  rw [unqS, if_neg (by omega)]
theorem drop_at (s : ByteArray) (j : Nat) (h : j < s.size) : s.data.toList.drop j = s[j] :: s.data.toList.drop (j + 1) := List.drop_eq_getElem_cons (l := s.data.toList) (by rw [len_toList]; exact h)
theorem get_at (s : ByteArray) (j : Nat) (h : j < s.size) : s.data.toList[j]? = some s[j] := List.getElem?_eq_getElem (l := s.data.toList) (by rw [len_toList]; exact h)

set_option maxRecDepth 100000 in
set_option maxHeartbeats 4000000 in
theorem refUnquote_any (s : ByteArray) (a : Int) (w : World) (hs : s.size ≤ 100000) (ha : a ≤ 9223372036854775807) :
    Calls Try.prog 13 #[.string s, .int .i64 a] w fun e w' => ∃ v, e = .returned (.tuple #[v, .int .i64 ((unqT (unquoteS s.data.toList a)).2.1 : Int), .int .i64 (unqT (unquoteS s.data.toList a)).2.2]) ∧
      w'.ownsRow w.heap.size 5 1 v (unqT (unquoteS s.data.toList a)).1.length (bv (unqT (unquoteS s.data.toList a)).1) ∧ Below w.heap.size w w' := by
  by_cases h0 : a < 0
  · have hu : unquoteS s.data.toList a = .error 1 := by unfold unquoteS; rw [if_pos (Or.inl h0)]
    rw [hu]
    clear hu
    go_enter Try.func13, Try.ntmps13
    go_wp2_with fail
    go_ret3
    exact ⟨_, rfl, World.ownsRow_nil _ _ _ _, Below.refl _ _⟩
  · obtain ⟨k, rfl⟩ := Int.eq_ofNat_of_zero_le (show 0 ≤ a by omega)
    by_cases h1 : s.size < k
    · have hu : unquoteS s.data.toList (k : Int) = .error 1 := by unfold unquoteS; rw [if_pos (Or.inr (by rw [len_toList]; omega))]
      rw [hu]
      clear hu
      go_enter Try.func13, Try.ntmps13
      go_wp2_with fail
      go_ret3
      exact ⟨_, rfl, World.ownsRow_nil _ _ _ _, Below.refl _ _⟩
    · have hu : unquoteS s.data.toList (k : Int) = if s.data.toList[k]? = some 34 then unqS s.data.toList (k + 1) [] else .error 9 := by
        unfold unquoteS; rw [if_neg (by rw [len_toList]; omega), Int.toNat_natCast]
      have hks : k ≤ s.size := by omega
      by_cases hke : k = s.size
      · subst hke
        rw [hu, if_neg (by rw [List.getElem?_eq_none (by rw [len_toList]; omega)]; simp)]
        clear hu
        go_enter Try.func13, Try.ntmps13
        go_wp2_with fail
        go_ret3
        exact ⟨_, rfl, World.ownsRow_nil _ _ _ _, Below.refl _ _⟩
      · have hlt : k < s.size := by omega
        rw [get_at s k hlt] at hu
        have g0 : ((k : Int) == (s.size : Int)) = false := by simp; omega
        by_cases h2 : s[k] = 34
        · rw [hu, if_pos (congrArg some h2)]
          have g2 : ((s[k].toNat : Int) != 34) = false := by rw [h2]; rfl
          clear hu h2
          obtain ⟨i0, hi, hz0, hi1, hi2⟩ : ∃ i0, Try.prog.info? 5 = some i0 ∧ i0.zero = some (.int .u8 0) ∧ i0.size = 1 ∧ i0.bytes = 1 := by
            obtain ⟨i0, h1, h2⟩ := Option.map_eq_some_iff.1 byteInfoL
            simp at h2
            exact ⟨i0, h1, h2.1, h2.2.1, h2.2.2⟩
          have hI1 := Lib.hid hi1
          have hI2 := Lib.hid hi2
          clear hi1 hi2
          go_enter Try.func13, Try.ntmps13
          go_wp2_with fail
          go_loopw [8, 7] (fun vj v wr => RUnq s k w vj v wr) (fun vj _ _ => s.size - (intOf vj).toNat)
          case atStart => exact RUnq.mk (k + 1) [] (by go_num) (by omega) (by simp) rfl (World.ownsRow_nil _ _ _ _) (Below.refl _ _)
          case round =>
            obtain ⟨j, o, rfl, hj, ho, hr, hown, hb⟩ := hrel
            replace hb := Lib.hid hb
            clear g2
            by_cases hjl : j < s.size
            · by_cases h3 : s[j] = 34
              · have g3 : ((s[j].toNat : Int) == 34) = true := by rw [h3]; rfl
                have hfin : Hid (unqS s.data.toList (k + 1) [] = .ok (o, j + 1)) := Lib.hid (hr.symm.trans (unqS_quote o ((get_at s j hjl).trans (congrArg some h3))))
                clear hr h3
                go_wp2_with fail
                go_ret3
                exact ⟨_, by rw [hfin.out]; rfl, by rw [hfin.out]; exact hown, hb.out⟩
              · have g3 : ((s[j].toNat : Int) == 34) = false := u8_ne (b := 34) h3
                have hn34 : s.data.toList[j]? ≠ some 34 := by rw [get_at s j hjl]; simpa using h3
                by_cases h4 : s[j] = 92
                · have g4 : ((s[j].toNat : Int) != 92) = false := by rw [h4]; rfl
                  by_cases hj1 : j + 1 < s.size
                  · have g5 : ((j : Int) + 1 == (s.size : Int)) = false := by simp; omega
                    obtain ⟨p, hjp⟩ : ∃ p : Nat, p = j + 1 := ⟨_, rfl⟩
                    have hp1 : p < s.size := by omega
                    have hp1i : (p : Int) < (s.size : Int) := by omega
                    have hp0i : (0 : Int) ≤ (p : Int) := by omega
                    have hjp1 : p ≤ j + 1 := by omega
                    have hjp2 : j + 1 ≤ p := by omega
                    have hM := Lib.hid refMark_nat
                    have ej : Hid ((j : Int) + 1 = (p : Int)) := Lib.hid (by omega)
                    replace hjp := Lib.hid hjp
                    clear h3
                    replace h4 := Lib.hid h4
                    replace hr := Lib.hid hr
                    replace hn34 := Lib.hid hn34
                    go_wp2_with fail
                    rename World => w1
                    rw [ej.out]
                    go_loopw [10, 9] (fun vc vo wx => OneRel s[p] w1 vc vo wx) (fun vc _ _ => 256 - (intOf vc).toNat)
                    case atStart => exact OneRel.mk 0 (by omega) rfl rfl (Below.refl _ _)
                    case round =>
                      obtain ⟨c, hc, rfl, rfl, hb1⟩ := hrel
                      by_cases hc2 : c < 256
                      · obtain ⟨m, hmx, hM0⟩ := hM.out c hc2
                        replace hM0 := Lib.hid hM0
                        have e1 : IntKind.u8.wrap (c : Int) = (c : Int) := IntWalk.u8_in _ (by omega)
                        by_cases hm2 : m.size = 2
                        · have q1 : ((m.size : Int) == 2) = true := by simp; omega
                          have hm1 : 1 < m.size := by omega
                          have hm1i : (1 : Int) < (m.size : Int) := by omega
                          by_cases hmx1 : m[1] = s[p]
                          · have q2 : ((m[1].toNat : Int) == (s[p].toNat : Int)) = true := by rw [hmx1]; simp
                            have ho := Lib.hid (oneAt_yes hmx hm1 hm2 hmx1)
                            clear hmx hm2 hmx1
                            go_wp2_with (go_at_call 21; refine (hM0.out _).mono ?_; rintro e w4 ⟨rfl, hb4⟩)
                            go_quiet (fail)
                            go_wp2
                            go_round
                            case rel => exact OneRel.mk (c + 1) (by omega) (by go_num) (by rw [ho.out]) (below_drewN (hb1.trans (hb4.mono hb1.size)) _)
                            case measure => simp [intOf]; omega
                          · have q2 : ((m[1].toNat : Int) == (s[p].toNat : Int)) = false := u8_ne hmx1
                            have ho := Lib.hid (oneAt_no hmx hm1 hmx1)
                            clear hmx hm2 hmx1
                            go_wp2_with (go_at_call 21; refine (hM0.out _).mono ?_; rintro e w4 ⟨rfl, hb4⟩)
                            go_quiet (fail)
                            go_wp2
                            go_round
                            case rel => exact OneRel.mk (c + 1) (by omega) (by go_num) (by rw [ho.out]) (below_drewN (hb1.trans (hb4.mono hb1.size)) _)
                            case measure => simp [intOf]; omega
                        · have q1 : ((m.size : Int) == 2) = false := by simp; omega
                          have ho := Lib.hid (oneAt_len (x := s[p]) hmx hm2)
                          clear hmx hm2
                          go_wp2_with (go_at_call 21; refine (hM0.out _).mono ?_; rintro e w4 ⟨rfl, hb4⟩)
                          go_quiet (fail)
                          go_wp2
                          go_round
                          case rel => exact OneRel.mk (c + 1) (by omega) (by go_num) (by rw [ho.out]) (below_drewN (hb1.trans (hb4.mono hb1.size)) _)
                          case measure => simp [intOf]; omega
                      · obtain rfl : c = 256 := by omega
                        have hown2 := own_below hown hb1
                        have hb2 := Lib.hid (hb.out.trans (hb1.mono hb.out.size))
                        clear hown hb hb1 hM hc hc2
                        have h1a := one_all s[p]
                        have hue : ∀ b, shortB s[p] = some b → unmarkS (s.data.toList.drop j) = .ok (b, 1) := fun b hb => by
                          rw [drop_at s j hjl, unmark_esc h4.out, List.head?_drop, ← hjp.out, get_at s p hp1]; simp [hb]
                        by_cases h5 : s[p] = 34
                        · have g6 : ((s[p].toNat : Int) == 34) = true := by rw [h5]; rfl
                          have hr2 := Lib.hid ((unqS_ok o hn34.out (hue 34 (h1a.1 h5))).symm.trans hr.out)
                          clear h1a hue h5
                          go_wp2_with (at_builtin; refine wpList_append_at rfl _ _ 22 rfl w.heap.size 5 i0 (.int .u8 0) 1 1 Try.underlying22 hi hz0 hI1.out hI2.out rfl (by decide) _ _ _ rfl (hown2.alloc _) (some ⟨wr.heap.size, 0, none⟩) 1 1 [.int .u8 34] rfl rfl (src_new wr [.int .u8 34] 5) (by simp [Value.oneCell']) (by unfold maxLen; omega) (by omega) (by have := hb2.out.size; simp; omega) ?_; intro v3 w3 hown3 hg3 _; have hb3 := below_append (hb2.out.alloc hb2.out.size _) (hown2.alloc _) (by have := hb2.out.size; simp; omega) hg3)
                          go_round
                          case rel => exact RUnq.mk (p + 1) (o ++ [34]) (by go_num) (by omega) (by simp; omega) (by rw [show p + 1 = j + (1 + 1) by omega]; exact hr2.out) (by rw [List.length_append, bv_append]; exact hown3) hb3
                          case measure => simp [intOf]; omega
                        · have g6 : ((s[p].toNat : Int) == 34) = false := u8_ne (b := 34) h5
                          have h1b := h1a.2 h5
                          clear h1a h5
                          match hsh : shortB s[p] with
                          | some y =>
                            rw [hsh] at h1b
                            have hov : oneAt 256 s[p] = (y.toNat : Int) := h1b
                            rw [hov]
                            have hr2 := Lib.hid ((unqS_ok o hn34.out (hue y hsh)).symm.trans hr.out)
                            have hy := y.toNat_lt
                            have e2 : IntKind.u8.wrap (y.toNat : Int) = (y.toNat : Int) := IntWalk.u8_in _ (by omega)
                            clear hue hsh h1b hov
                            go_wp2_with (at_builtin; refine wpList_append_at rfl _ _ 22 rfl w.heap.size 5 i0 (.int .u8 0) 1 1 Try.underlying22 hi hz0 hI1.out hI2.out rfl (by decide) _ _ _ rfl (hown2.alloc _) (some ⟨wr.heap.size, 0, none⟩) 1 1 [.int .u8 (y.toNat : Int)] rfl rfl (src_new wr [.int .u8 (y.toNat : Int)] 5) (by simp [Value.oneCell']) (by unfold maxLen; omega) (by omega) (by have := hb2.out.size; simp; omega) ?_; intro v3 w3 hown3 hg3 _; have hb3 := below_append (hb2.out.alloc hb2.out.size _) (hown2.alloc _) (by have := hb2.out.size; simp; omega) hg3)
                            go_round
                            case rel => exact RUnq.mk (p + 1) (o ++ [y]) (by go_num) (by omega) (by simp; omega) (by rw [show p + 1 = j + (1 + 1) by omega]; exact hr2.out) (by rw [List.length_append, bv_append]; exact hown3) hb3
                            case measure => simp [intOf]; omega
                          | none =>
                            rw [hsh] at h1b
                            have hov : oneAt 256 s[p] = -1 := h1b
                            rw [hov]
                            have hss : (s.data.toList.drop (j + 1)).head?.bind shortB = none := by
                              rw [List.head?_drop, ← hjp.out, get_at s p hp1]; exact hsh
                            have hok : ∀ b, octG 3 0 (s.data.toList.drop p) = .ok b → unmarkS (s.data.toList.drop j) = .ok (b, 3) := fun b hb => by
                              rw [drop_at s j hjl]; exact unmark_oct_ok h4.out hss (hjp.out ▸ hb)
                            have her : ∀ e, octG 3 0 (s.data.toList.drop p) = .error e → unmarkS (s.data.toList.drop j) = .error e := fun e hb => by
                              rw [drop_at s j hjl]; exact unmark_oct_err h4.out hss (hjp.out ▸ hb)
                            replace hok := Lib.hid hok
                            replace her := Lib.hid her
                            clear hue hsh h1b hov hss
                            go_wp2_with fail
                            go_loop [13, 12] (fun vk vn => ROct s p vk vn) (fun vk _ => 3 - (intOf vk).toNat)
                            case atStart => exact ROct.mk 0 0 (by omega) (by omega) (by omega) (by omega) (by omega) (by omega) rfl rfl rfl
                            case round =>
                              obtain ⟨i, n, q1, q0, q2, q3, q4, q5, rfl, rfl, hro⟩ := hrel
                              by_cases hi3 : i < 3
                              · by_cases hs3 : p + i < s.size
                                · have hst := octG_step s (p + i) (2 - i) n hs3
                                  rw [show 2 - i + 1 = 3 - i by omega, hro] at hst
                                  have a1 : (0 : Int) ≤ (p : Int) + (i : Int) := by omega
                                  by_cases hd : 48 ≤ s[p + i].toNat ∧ s[p + i].toNat ≤ 55
                                  · rw [if_pos hd] at hst
                                    replace hst := Lib.hid hst
                                    clear hro
                                    go_wp2_with fail
                                    go_round
                                    case rel => exact ⟨_, _, _, _, _, ROct.mk (vi := .int .i64 ((i : Int) + 1)) (vn := .int .i64 ((n : Int) * 8 + (s[p + i].toNat : Int) - 48)) (i + 1) (8 * n + (s[p + i].toNat - 48)) (by omega) (by omega) (by omega) (by omega) (by omega) (by omega) (by go_num) (by go_num) (by rw [show 3 - (i + 1) = 2 - i by omega]; exact hst.out.symm), rfl, rfl, rfl, rfl, rfl⟩
                                    case measure => simp [intOf]; omega
                                  · rw [if_neg hd] at hst
                                    have hfin : Hid (unqS s.data.toList (k + 1) [] = .error 10) := Lib.hid (hr.out.symm.trans (unqS_err o hn34.out hj (her.out 10 hst)))
                                    clear hro hst
                                    go_wp2_with fail
                                    all_goals
                                      go_ret3
                                      exact ⟨_, by rw [hfin.out]; rfl, by rw [hfin.out]; exact World.ownsRow_nil _ _ _ _, hb2.out⟩
                                · have hst := octG_end s (p + i) (2 - i) n (by omega)
                                  rw [show 2 - i + 1 = 3 - i by omega, hro] at hst
                                  have hfin : Hid (unqS s.data.toList (k + 1) [] = .error 2) := Lib.hid (hr.out.symm.trans (unqS_err o hn34.out hj (her.out 2 hst)))
                                  clear hro hst
                                  go_wp2_with fail
                                  all_goals
                                    go_ret3
                                    exact ⟨_, by rw [hfin.out]; rfl, by rw [hfin.out]; exact World.ownsRow_nil _ _ _ _, hb2.out⟩
                              · obtain rfl : i = 3 := by omega
                                by_cases hn : n ≤ 255
                                · have ho3 : octG 3 0 (s.data.toList.drop p) = .ok (UInt8.ofNat n) := by rw [← hro]; show (if 255 < n then _ else _) = _; rw [if_neg (by omega)]
                                  have hr2 := Lib.hid ((unqS_ok o hn34.out (hok.out _ ho3)).symm.trans hr.out)
                                  have e2 : IntKind.u8.wrap (n : Int) = (n : Int) := IntWalk.u8_in _ (by omega)
                                  have e4 : Hid (((UInt8.ofNat n).toNat : Int) = (n : Int)) := Lib.hid (by simp; omega)
                                  have g1 : decide (255 < (n : Int)) = false := by simp; omega
                                  have hl4 : p + 3 ≤ s.size := q0
                                  clear hro ho3 q3 q4 q5
                                  go_wp2_with (at_builtin; refine wpList_append_at rfl _ _ 22 rfl w.heap.size 5 i0 (.int .u8 0) 1 1 Try.underlying22 hi hz0 hI1.out hI2.out rfl (by decide) _ _ _ rfl (hown2.alloc _) (some ⟨wr.heap.size, 0, none⟩) 1 1 [.int .u8 (n : Int)] rfl rfl (src_new wr [.int .u8 (n : Int)] 5) (by simp [Value.oneCell']) (by unfold maxLen; omega) (by omega) (by have := hb2.out.size; simp; omega) ?_; intro v3 w3 hown3 hg3 _; have hb3 := below_append (hb2.out.alloc hb2.out.size _) (hown2.alloc _) (by have := hb2.out.size; simp; omega) hg3)
                                  go_round
                                  case rel => exact RUnq.mk (p + 3) (o ++ [UInt8.ofNat n]) (by go_num) (by omega) (by simp; omega) (by rw [show p + 3 = j + (3 + 1) by omega]; exact hr2.out) (by rw [List.length_append, bv_append]; show World.ownsRow _ _ _ _ _ _ (bv o ++ [.int .u8 ((UInt8.ofNat n).toNat : Int)]); rw [e4.out]; exact hown3) hb3
                                  case measure => simp [intOf]; omega
                                · have ho3 : octG 3 0 (s.data.toList.drop p) = .error 10 := by rw [← hro]; show (if 255 < n then _ else _) = _; rw [if_pos (by omega)]
                                  have hfin : Hid (unqS s.data.toList (k + 1) [] = .error 10) := Lib.hid (hr.out.symm.trans (unqS_err o hn34.out hj (her.out 10 ho3)))
                                  have g1 : decide (255 < (n : Int)) = true := by simp; omega
                                  clear hro ho3 q3 q4 q5
                                  go_wp2_with fail
                                  go_ret3
                                  exact ⟨_, by rw [hfin.out]; rfl, by rw [hfin.out]; exact World.ownsRow_nil _ _ _ _, hb2.out⟩
                  · have hue : unmarkS (s.data.toList.drop j) = .error 2 := by
                      rw [drop_at s j hjl, unmark_esc h4, List.drop_of_length_le (by rw [len_toList]; omega)]; rfl
                    have hfin : Hid (unqS s.data.toList (k + 1) [] = .error 2) := Lib.hid (hr.symm.trans (unqS_err o hn34 hj hue))
                    have g5 : ((j : Int) + 1 == (s.size : Int)) = true := by simp; omega
                    clear hr h3 h4 hn34 hue
                    go_wp2_with fail
                    go_ret3
                    exact ⟨_, by rw [hfin.out]; rfl, by rw [hfin.out]; exact World.ownsRow_nil _ _ _ _, hb.out⟩
                · have g4 : ((s[j].toNat : Int) != 92) = true := u8_bne (b := 92) h4
                  have hr2 := Lib.hid ((unqS_ok o hn34 (by rw [drop_at s j hjl]; exact unmark_plain h4 _)).symm.trans hr)
                  clear h3 h4 hn34 hr
                  go_wp2_with (at_builtin; refine wpList_append_at rfl _ _ 22 rfl w.heap.size 5 i0 (.int .u8 0) 1 1 Try.underlying22 hi hz0 hI1.out hI2.out rfl (by decide) _ _ _ rfl (hown.alloc _) (some ⟨wr.heap.size, 0, none⟩) 1 1 [.int .u8 (s[j].toNat : Int)] rfl rfl (src_new wr [.int .u8 (s[j].toNat : Int)] 5) (by simp [Value.oneCell']) (by unfold maxLen; omega) (by omega) (by have := hb.out.size; simp; omega) ?_; intro v3 w3 hown3 hg3 _; have hb3 := below_append (hb.out.alloc hb.out.size _) (hown.alloc _) (by have := hb.out.size; simp; omega) hg3)
                  go_round
                  case rel => exact RUnq.mk (j + 1) (o ++ [s[j]]) (by go_num) (by omega) (by simp; omega) hr2.out (by rw [List.length_append, bv_append]; exact hown3) hb3
                  case measure => simp [intOf]; omega
            · have hfin : Hid (unqS s.data.toList (k + 1) [] = .error 2) := Lib.hid (hr.symm.trans (unqS_end o (by rw [len_toList]; omega)))
              have hje : decide ((j : Int) < (s.size : Int)) = false := by simp; omega
              clear hr
              go_wp2_with fail
              go_ret3
              exact ⟨_, by rw [hfin.out]; rfl, by rw [hfin.out]; exact World.ownsRow_nil _ _ _ _, hb.out⟩
        · rw [hu, if_neg (fun e => h2 (Option.some.inj e))]
          have g2 : ((s[k].toNat : Int) != 34) = true := u8_bne (b := 34) h2
          clear hu h2
          go_enter Try.func13, Try.ntmps13
          go_wp2_with fail
          go_ret3
          exact ⟨_, rfl, World.ownsRow_nil _ _ _ _, Below.refl _ _⟩
end Go.Proofs.Ytcjhbpkkkhaaiaa
