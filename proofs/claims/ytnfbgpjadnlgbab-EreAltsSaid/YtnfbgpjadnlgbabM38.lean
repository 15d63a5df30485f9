/- Contract: interval. -/
import Derived.Test.YtnfbgpjadnlgbabM37
set_option linter.unusedVariables false
set_option maxRecDepth 100000
namespace Go.Proofs.Ytnfbgpjadnlgbab
open Go.RowKit

theorem bbegins_is {A : Option Addr} {n c : Nat} {l : List UInt8} {w : World} (h : Inp w A n c l) (s : ByteArray) (b : Bool) (hb : bg s.data.toList l = b) :
    Calls Try.prog 39 #[.slice A n c, .string s] w fun e w' => e = .returned (.bool b) ∧ Below w.heap.size w w' := by
  have := bbegins_any A n c l s w h
  rwa [hb] at this

def ivR : Option (Int × Int × Nat) → Ending
  | none => .returned (.tuple #[.int .i64 0, .int .i64 0, .int .i64 0, .bool false])
  | some (lo, hi, j) => .returned (.tuple #[.int .i64 lo, .int .i64 hi, .int .i64 (j : Int), .bool true])
theorem cat_toList (a b : ByteArray) : (a ++ b).data.toList = a.data.toList ++ b.data.toList := by simp
theorem results_tmp4 {fn : Func} {t u v q : Tmp} (h : fn.results = #[.tmp t, .tmp u, .tmp v, .tmp q]) (tmps : Array Value) (P : Program) (w : World) :
    (results fn tmps).run P w = .ok (.tuple #[tmps.getD t undef, tmps.getD u undef, tmps.getD v undef, tmps.getD q undef]) w := by
  simp [results, h]
set_option maxHeartbeats 4000000 in
theorem interval_any (sb se : ByteArray) (hse : 0 < se.size) (hsz : se.size ≤ 100000) (hsb : sb.size ≤ 100000) {A : Option Addr} {n c : Nat} {l : List UInt8} {w : World} (h : Inp w A n c l) :
    Calls Try.prog 49 #[.slice A n c, .string sb, .string se] w fun e w' => e = ivR (ivG sb.size se.data.toList l) ∧ Below w.heap.size w w' := by
  have hns : n ≤ 100000 := h.2.2.2.1
  have hnc := h.2.1
  have hcm := h.2.2.1
  unfold maxLen at hcm
  have hnl := h.1
  have hEl : se.data.toList.length = se.size := (len_toList se)
  have hEn : bg se.data.toList [] = false := by
    cases hq : se.data.toList with
    | nil => rw [hq] at hEl; simp at hEl; omega
    | cons a b => rfl
  have hNum := Lib.hid (fun (a : Int) (w1 : World) (hb : Below w.heap.size w w1) => num_any A c l n a 255 _ w1 h.1 ((h.grow hb).2.2.2.2.1) (by unfold maxLen; omega) hnc (by decide) (by decide))
  have hBg := Lib.hid (fun (k : Nat) (hk : k ≤ n) (w1 : World) (hb : Below w.heap.size w w1) (s : ByteArray) (r : Bool) (hr : bg s.data.toList (l.drop k) = r) => bbegins_is ((h.grow hb).drop hk) s r hr)
  have hR := Lib.hid (Below.refl w.heap.size w)
  have hbl := Lib.hid hnl
  clear h
  generalize hz : ivG sb.size se.data.toList l = Z
  replace hz := Lib.hid hz
  unfold ivG at hz
  simp only [hEl] at hz
  rcases hq : numS l (sb.size : Int) 255 with ⟨x, y, e⟩
  have hN1 := Lib.hid (hNum.out (sb.size : Int) w hR.out)
  rw [hq] at hN1
  by_cases he : e = 0
  case neg =>
    obtain ⟨rfl, rfl⟩ := numS_bad hq he
    have hz' : none = Z := by have := hz.out; rw [hq, if_pos he] at this; exact this
    subst hz'
    have heb : (e != 0) = true := by rw [bne_iff_ne]; exact he
    clear hz hnl hq
    unfold three at hN1
    go_enter Try.func49, Try.ntmps49
    go_wp2_with (go_at_call 58; refine (hN1.out).mono ?_; rintro e w1 ⟨rfl, rfl⟩)
    (try simp only [Exit.inBlock, Exit.then])
    refine bodyPost_ret (results_tmp4 rfl _ _ _) rfl ?_
    exact ⟨rfl, hR.out⟩
  case pos =>
    subst he
    obtain ⟨k, rfl, h1, h2, h3, h4⟩ := numS_ok (a := sb.size) hq
    have hkn : k ≤ n := by omega
    have hz1 := hz.out
    rw [hq] at hz1
    simp only at hz1
    rw [if_neg (by simp), Int.toNat_natCast] at hz1
    replace hq := Lib.hid hq
    clear hz
    unfold three at hN1
    simp only at hN1
    cases hb1 : bg (44 :: se.data.toList) (l.drop k) with
    | true =>
      have hb2 := bg_tail hb1
      have hrm := bg_room hb1
      simp only [List.length_cons, hEl] at hrm
      replace hrm : k + (se.size + 1) ≤ l.length := hrm.resolve_left (by simp)
      rw [hb1, if_pos rfl] at hz1
      subst hz1
      have hB1 := Lib.hid (hBg.out k hkn w hR.out (⟨#[44]⟩ ++ se) true (by rw [cat_toList]; exact hb1))
      have hB2 := Lib.hid (fun w1 hb => hBg.out (k + 1) (by omega) w1 hb se true hb2)
      have hck : ¬ c = k := by omega
      have hck1 : ¬ c = k + 1 := by omega
      have hk3 : k + 1 + se.size ≤ n := by omega
      clear hEl hEn
      rw [if_neg hck] at hB1
      rw [if_neg hck1, show (Option.map (fun x : Addr => x.add (k + 1)) A) = Option.map (fun x : Addr => ⟨x.block, x.off + (k + 1), none⟩) A from rfl] at hB2
      clear hb1 hb2 hNum hBg hnl h2
      go_enter Try.func49, Try.ntmps49
      go_wp2_with (first
        | (go_at_call 58; refine (hN1.out).mono ?_; rintro e w1 ⟨rfl, rfl⟩)
        | (go_at_call 39; with_reducible show Calls _ _ #[_, Value.string (ByteArray.mk #[44] ++ se)] _ _; refine (hB1.out).mono ?_; rintro e w1 ⟨rfl, hw1⟩)
        | (go_at_call 39; with_reducible show Calls _ _ #[_, Value.string se] _ _; refine (hB2.out _ hw1).mono ?_; rintro e w2 ⟨rfl, hw2⟩))
      (try simp only [Exit.inBlock, Exit.then])
      refine bodyPost_ret (results_tmp4 rfl _ _ _) rfl ?_
      exact ⟨by unfold ivR; go_num, hw1.trans (hw2.mono hw1.size)⟩
    | false =>
      rw [hb1, if_neg (by simp)] at hz1
      by_cases hck : c = k
      · have hdn : l.drop k = [] := List.drop_eq_nil_of_le (by omega)
        rw [hdn] at hz1
        have hz' : none = Z := by
          have q := hz1
          rw [show bg [44] ([] : List UInt8) = false from rfl, if_neg (by decide), hEn, if_neg (by decide)] at q
          exact q
        subst hz'
        have hB1 := Lib.hid (hBg.out k hkn w hR.out (⟨#[44]⟩ ++ se) false (by rw [cat_toList]; exact hb1))
        have hB2 := Lib.hid (fun w1 hb => hBg.out k hkn w1 hb ⟨#[44]⟩ false (by rw [hdn]; rfl))
        have hB3 := Lib.hid (fun w1 hb => hBg.out k hkn w1 hb se false (by rw [hdn]; exact hEn))
        obtain rfl : n = k := by omega
        obtain rfl : c = n := hck
        rw [if_pos rfl, Nat.sub_self] at hB1 hB2 hB3
        clear hb1 hNum hBg hnl h2 hdn hz1
        go_enter Try.func49, Try.ntmps49
        go_wp2_with (first
          | (go_at_call 58; refine (hN1.out).mono ?_; rintro e w1 ⟨rfl, rfl⟩)
          | (go_at_call 39; with_reducible show Calls _ _ #[_, Value.string (ByteArray.mk #[44] ++ se)] _ _; refine (hB1.out).mono ?_; rintro e w1 ⟨rfl, hw1⟩)
          | (go_at_call 39; with_reducible show Calls _ _ #[_, Value.string {data := #[44]}] _ _; refine (hB2.out _ hw1).mono ?_; rintro e w2 ⟨rfl, hw2⟩; replace hw2 := hw1.trans (hw2.mono hw1.size))
          | (go_at_call 39; with_reducible show Calls _ _ #[_, Value.string se] _ _; refine (hB3.out _ hw2).mono ?_; rintro e w3 ⟨rfl, hw3⟩))
        (try simp only [Exit.inBlock, Exit.then])
        refine bodyPost_ret (results_tmp4 rfl _ _ _) rfl ?_
        exact ⟨rfl, hw2.trans (hw3.mono hw2.size)⟩
      · have hB1 := Lib.hid (hBg.out k hkn w hR.out (⟨#[44]⟩ ++ se) false (by rw [cat_toList]; exact hb1))
        rw [if_neg hck] at hB1
        cases hb2 : bg [44] (l.drop k) with
        | false =>
          have hB2 := Lib.hid (fun w1 hb => hBg.out k hkn w1 hb ⟨#[44]⟩ false hb2)
          rw [if_neg hck] at hB2
          rw [hb2, if_neg (by simp)] at hz1
          cases hb3 : bg se.data.toList (l.drop k) with
          | false =>
            have hB3 := Lib.hid (fun w1 hb => hBg.out k hkn w1 hb se false hb3)
            rw [if_neg hck] at hB3
            rw [hb3, if_neg (by simp)] at hz1
            subst hz1
            clear hb1 hb2 hb3 hNum hBg hnl h2
            go_enter Try.func49, Try.ntmps49
            go_wp2_with (first
              | (go_at_call 58; refine (hN1.out).mono ?_; rintro e w1 ⟨rfl, rfl⟩)
              | (go_at_call 39; with_reducible show Calls _ _ #[_, Value.string (ByteArray.mk #[44] ++ se)] _ _; refine (hB1.out).mono ?_; rintro e w1 ⟨rfl, hw1⟩)
              | (go_at_call 39; with_reducible show Calls _ _ #[_, Value.string {data := #[44]}] _ _; refine (hB2.out _ hw1).mono ?_; rintro e w2 ⟨rfl, hw2⟩; replace hw2 := hw1.trans (hw2.mono hw1.size))
              | (go_at_call 39; with_reducible show Calls _ _ #[_, Value.string se] _ _; refine (hB3.out _ hw2).mono ?_; rintro e w3 ⟨rfl, hw3⟩))
            (try simp only [Exit.inBlock, Exit.then])
            refine bodyPost_ret (results_tmp4 rfl _ _ _) rfl ?_
            exact ⟨rfl, hw2.trans (hw3.mono hw2.size)⟩
          | true =>
            have hB3 := Lib.hid (fun w1 hb => hBg.out k hkn w1 hb se true hb3)
            rw [if_neg hck] at hB3
            rw [hb3, if_pos rfl] at hz1
            subst hz1
            clear hb1 hb2 hb3 hNum hBg hnl h2
            go_enter Try.func49, Try.ntmps49
            go_wp2_with (first
              | (go_at_call 58; refine (hN1.out).mono ?_; rintro e w1 ⟨rfl, rfl⟩)
              | (go_at_call 39; with_reducible show Calls _ _ #[_, Value.string (ByteArray.mk #[44] ++ se)] _ _; refine (hB1.out).mono ?_; rintro e w1 ⟨rfl, hw1⟩)
              | (go_at_call 39; with_reducible show Calls _ _ #[_, Value.string {data := #[44]}] _ _; refine (hB2.out _ hw1).mono ?_; rintro e w2 ⟨rfl, hw2⟩; replace hw2 := hw1.trans (hw2.mono hw1.size))
              | (go_at_call 39; with_reducible show Calls _ _ #[_, Value.string se] _ _; refine (hB3.out _ hw2).mono ?_; rintro e w3 ⟨rfl, hw3⟩))
            (try simp only [Exit.inBlock, Exit.then])
            refine bodyPost_ret (results_tmp4 rfl _ _ _) rfl ?_
            exact ⟨by unfold ivR; go_num, hw2.trans (hw3.mono hw2.size)⟩
        | true =>
          have hB2 := Lib.hid (fun w1 hb => hBg.out k hkn w1 hb ⟨#[44]⟩ true hb2)
          rw [if_neg hck] at hB2
          rw [hb2, if_pos rfl] at hz1
          rcases hq2 : numS l ((k : Int) + 1) 255 with ⟨x2, y2, e2⟩
          have hN2 := Lib.hid (fun w1 hb => hNum.out ((k : Int) + 1) w1 hb)
          rw [hq2] at hz1 hN2
          simp only at hz1
          unfold three at hN2
          simp only at hN2
          by_cases he2 : e2 = 0
          case neg =>
            obtain ⟨rfl, rfl⟩ := numS_bad hq2 he2
            rw [if_pos (.inl he2)] at hz1
            subst hz1
            have heb : (e2 != 0) = true := by rw [bne_iff_ne]; exact he2
            clear hb1 hb2 hNum hBg hnl h2 hq2 he2
            go_enter Try.func49, Try.ntmps49
            go_wp2_with (first
              | (go_at_call 58; with_reducible refine (hN1.out).mono ?_; rintro e w1 ⟨rfl, rfl⟩)
              | (go_at_call 58; refine (hN2.out _ hw2).mono ?_; rintro e w1 ⟨rfl, rfl⟩)
              | (go_at_call 39; with_reducible show Calls _ _ #[_, Value.string (ByteArray.mk #[44] ++ se)] _ _; refine (hB1.out).mono ?_; rintro e w1 ⟨rfl, hw1⟩)
              | (go_at_call 39; with_reducible show Calls _ _ #[_, Value.string {data := #[44]}] _ _; refine (hB2.out _ hw1).mono ?_; rintro e w2 ⟨rfl, hw2⟩; replace hw2 := hw1.trans (hw2.mono hw1.size)))
            (try simp only [Exit.inBlock, Exit.then])
            refine bodyPost_ret (results_tmp4 rfl _ _ _) rfl ?_
            exact ⟨rfl, hw2⟩
          case pos =>
            subst he2
            obtain ⟨k2, rfl, g1, g2, g3, g4⟩ := numS_ok (a := k + 1) (by rw [← hq2]; rfl)
            replace hq2 := Lib.hid hq2
            by_cases hlt : x2 < x
            · rw [if_pos (.inr hlt)] at hz1
              subst hz1
              have hdl : decide (x2 < x) = true := decide_eq_true hlt
              clear hb1 hb2 hNum hBg hnl h2 g2
              go_enter Try.func49, Try.ntmps49
              go_wp2_with (first
                | (go_at_call 58; with_reducible refine (hN1.out).mono ?_; rintro e w1 ⟨rfl, rfl⟩)
                | (go_at_call 58; refine (hN2.out _ hw2).mono ?_; rintro e w1 ⟨rfl, rfl⟩)
                | (go_at_call 39; with_reducible show Calls _ _ #[_, Value.string (ByteArray.mk #[44] ++ se)] _ _; refine (hB1.out).mono ?_; rintro e w1 ⟨rfl, hw1⟩)
                | (go_at_call 39; with_reducible show Calls _ _ #[_, Value.string {data := #[44]}] _ _; refine (hB2.out _ hw1).mono ?_; rintro e w2 ⟨rfl, hw2⟩; replace hw2 := hw1.trans (hw2.mono hw1.size)))
              (try simp only [Exit.inBlock, Exit.then])
              refine bodyPost_ret (results_tmp4 rfl _ _ _) rfl ?_
              exact ⟨rfl, hw2⟩
            · rw [if_neg (by simp; omega), Int.toNat_natCast] at hz1
              have hdl : decide (x2 < x) = false := decide_eq_false hlt
              have hk2n : k2 ≤ n := by omega
              cases hb3 : bg se.data.toList (l.drop k2) with
              | false =>
                rw [hb3, if_neg (by simp)] at hz1
                subst hz1
                have hB3 := Lib.hid (fun w1 hb => hBg.out k2 hk2n w1 hb se false hb3)
                by_cases hck2 : c = k2
                · obtain rfl : n = k2 := by omega
                  obtain rfl : c = n := hck2
                  rw [if_pos rfl, Nat.sub_self] at hB3
                  clear hb1 hb2 hb3 hNum hBg hnl h2 g2
                  go_enter Try.func49, Try.ntmps49
                  go_wp2_with (first
                    | (go_at_call 58; with_reducible refine (hN1.out).mono ?_; rintro e w1 ⟨rfl, rfl⟩)
                    | (go_at_call 58; refine (hN2.out _ hw2).mono ?_; rintro e w1 ⟨rfl, rfl⟩)
                    | (go_at_call 39; with_reducible show Calls _ _ #[_, Value.string (ByteArray.mk #[44] ++ se)] _ _; refine (hB1.out).mono ?_; rintro e w1 ⟨rfl, hw1⟩)
                    | (go_at_call 39; with_reducible show Calls _ _ #[_, Value.string {data := #[44]}] _ _; refine (hB2.out _ hw1).mono ?_; rintro e w2 ⟨rfl, hw2⟩; replace hw2 := hw1.trans (hw2.mono hw1.size))
                    | (go_at_call 39; with_reducible show Calls _ _ #[_, Value.string se] _ _; refine (hB3.out _ hw2).mono ?_; rintro e w3 ⟨rfl, hw3⟩))
                  (try simp only [Exit.inBlock, Exit.then])
                  refine bodyPost_ret (results_tmp4 rfl _ _ _) rfl ?_
                  exact ⟨rfl, hw2.trans (hw3.mono hw2.size)⟩
                · rw [if_neg hck2] at hB3
                  clear hb1 hb2 hb3 hNum hBg hnl h2 g2
                  go_enter Try.func49, Try.ntmps49
                  go_wp2_with (first
                    | (go_at_call 58; with_reducible refine (hN1.out).mono ?_; rintro e w1 ⟨rfl, rfl⟩)
                    | (go_at_call 58; refine (hN2.out _ hw2).mono ?_; rintro e w1 ⟨rfl, rfl⟩)
                    | (go_at_call 39; with_reducible show Calls _ _ #[_, Value.string (ByteArray.mk #[44] ++ se)] _ _; refine (hB1.out).mono ?_; rintro e w1 ⟨rfl, hw1⟩)
                    | (go_at_call 39; with_reducible show Calls _ _ #[_, Value.string {data := #[44]}] _ _; refine (hB2.out _ hw1).mono ?_; rintro e w2 ⟨rfl, hw2⟩; replace hw2 := hw1.trans (hw2.mono hw1.size))
                    | (go_at_call 39; with_reducible show Calls _ _ #[_, Value.string se] _ _; refine (hB3.out _ hw2).mono ?_; rintro e w3 ⟨rfl, hw3⟩))
                  (try simp only [Exit.inBlock, Exit.then])
                  refine bodyPost_ret (results_tmp4 rfl _ _ _) rfl ?_
                  exact ⟨rfl, hw2.trans (hw3.mono hw2.size)⟩
              | true =>
                have hrm : k2 + se.size ≤ l.length := by
                  rcases bg_room hb3 with e | e
                  · rw [e] at hEl; simp at hEl; omega
                  · rw [hEl] at e; exact e
                rw [hb3, if_pos rfl] at hz1
                subst hz1
                have hB3 := Lib.hid (fun w1 hb => hBg.out k2 hk2n w1 hb se true hb3)
                have hck2 : ¬ c = k2 := by omega
                rw [if_neg hck2] at hB3
                clear hb1 hb2 hb3 hNum hBg hnl h2 g2 hrm
                go_enter Try.func49, Try.ntmps49
                go_wp2_with (first
                  | (go_at_call 58; with_reducible refine (hN1.out).mono ?_; rintro e w1 ⟨rfl, rfl⟩)
                  | (go_at_call 58; refine (hN2.out _ hw2).mono ?_; rintro e w1 ⟨rfl, rfl⟩)
                  | (go_at_call 39; with_reducible show Calls _ _ #[_, Value.string (ByteArray.mk #[44] ++ se)] _ _; refine (hB1.out).mono ?_; rintro e w1 ⟨rfl, hw1⟩)
                  | (go_at_call 39; with_reducible show Calls _ _ #[_, Value.string {data := #[44]}] _ _; refine (hB2.out _ hw1).mono ?_; rintro e w2 ⟨rfl, hw2⟩; replace hw2 := hw1.trans (hw2.mono hw1.size))
                  | (go_at_call 39; with_reducible show Calls _ _ #[_, Value.string se] _ _; refine (hB3.out _ hw2).mono ?_; rintro e w3 ⟨rfl, hw3⟩))
                (try simp only [Exit.inBlock, Exit.then])
                refine bodyPost_ret (results_tmp4 rfl _ _ _) rfl ?_
                exact ⟨by unfold ivR; go_num, hw2.trans (hw3.mono hw2.size)⟩
end Go.Proofs.Ytnfbgpjadnlgbab
