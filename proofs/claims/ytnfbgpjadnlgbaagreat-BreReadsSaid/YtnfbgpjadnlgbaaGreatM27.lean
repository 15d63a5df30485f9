/- Contract of the parser of basic texts: branch. What a law hands to packages that read bytes: MaxLen holds some number; bytes just laid. A parser that stands at the beginning of a text; what comes out of a text that is one. -/
import Derived.Test.YtnfbgpjadnlgbaaGreatM26
import Derived.Deep.RegionLaw
import Derived.Deep.AppendLies
import Derived.Test.YtnfbgpjadnlgbaaGreatM16
import Derived.Lib.SlBytesConst
import Derived.Test.YtnfbgpjadnlgbaaGreatM25
set_option linter.unusedVariables false
set_option maxRecDepth 100000
namespace Go.Proofs.YtnfbgpjadnlgbaaGreat
open Go.RowKit

/-- While a branch is read. -/
def RelBr (w : World) (B T : Nat) (A : Option Addr) (n c : Nat) (l : List UInt8) (v : Value) (ns : List Nod) (g i : Nat) (cl : Nat → Bool) (inG : Bool) (pv : Value) (wr : World) : Prop :=
  (∃ v' ns' g' i' cl' ps, Psr wr B T A n c l v' ns' g' i' cl' 0 ∧ ChP w wr T v v' ∧ Pcs w.heap.size wr pv ps ∧ (∀ p ∈ ps, okP (ns'.length : Int) p = true) ∧ ns.length ≤ ns'.length ∧ g ≤ g' ∧ i ≤ i' ∧ ps.length ≤ i' ∧
    ∀ lv, lv.isEmpty = !inG → Steps l ⟨.B, i, ns, g, cl, [], lv⟩ ⟨.L, i', ns', g', cl', ps, lv⟩) ∨
  (∃ v' ns' g' i' cl' q, q ≠ 0 ∧ Psr wr B T A n c l v' ns' g' i' cl' q ∧ ChP w wr T v v' ∧ ∀ lv, lv.isEmpty = !inG → Ends l ⟨.B, i, ns, g, cl, [], lv⟩ (.bad i' q))
section
variable {t : List UInt8} {i : Nat} {ns : List Nod} {g : Nat} {cl : Nat → Bool} {ps : List Int} {lv : List (Nat × List Int)} {x : Int}
theorem step_bol (hb : bg [94] (t.drop i) = true) (hl : ns.length < 1000) : step t ⟨.B, i, ns, g, cl, ps, lv⟩ = .go ⟨.L, i + 1, ns ++ [bolN], g, cl, [(ns.length : Int)], lv⟩ := by
  show stepB t _ = _
  simp only [stepB, putS]
  rw [if_pos hb, if_pos hl]
theorem step_bol_full (hb : bg [94] (t.drop i) = true) (hl : ¬ ns.length < 1000) : step t ⟨.B, i, ns, g, cl, ps, lv⟩ = .bad (i + 1) 8 := by
  show stepB t _ = _
  simp only [stepB, putS]
  rw [if_pos hb, if_neg hl]
theorem step_plain (hb : bg [94] (t.drop i) = false) : step t ⟨.B, i, ns, g, cl, ps, lv⟩ = .go ⟨.L, i, ns, g, cl, [], lv⟩ := by
  show stepB t _ = _
  simp only [stepB, putS]
  rw [if_neg (by rw [hb]; decide)]
theorem step_open_end (hlv : lv.isEmpty = false) (hi : i = t.length) : step t ⟨.L, i, ns, g, cl, ps, lv⟩ = .bad i 14 := by
  cases lv with
  | nil => cases hlv
  | cons a lv =>
    obtain ⟨q, p⟩ := a
    show stepL t ⟨.L, i, ns, g, cl, ps, (q, p) :: lv⟩ = _
    simp only [stepL]
    rw [if_pos (by omega)]
theorem step_cat_full {inG : Bool} (hlv : lv.isEmpty = !inG) (he : if inG then bg [92, 41] (t.drop i) = true else i = t.length) (hc : catS ns ps = none) : step t ⟨.L, i, ns, g, cl, ps, lv⟩ = .bad i 8 := by
  cases lv with
  | nil =>
    obtain rfl : inG = false := by cases inG <;> simp at hlv ⊢
    simp at he
    show stepL t ⟨.L, i, ns, g, cl, ps, []⟩ = _
    simp only [stepL]
    rw [if_pos (by omega), hc]
  | cons a lv =>
    obtain ⟨q, p⟩ := a
    obtain rfl : inG = true := by cases inG <;> simp at hlv ⊢
    simp at he
    have := bg_room he
    simp at this
    show stepL t ⟨.L, i, ns, g, cl, ps, (q, p) :: lv⟩ = _
    simp only [stepL]
    rw [if_neg (by omega), if_pos he, hc]
end
section
variable {w : World} {B T : Nat} {A : Option Addr} {n c : Nat} {l : List UInt8} {v : Value} {ns : List Nod} {g i : Nat} {cl : Nat → Bool} {inG : Bool}
theorem new_ints (w : World) (z : Int) : ∀ (j : Nat) (u : Value), [Value.int .i64 z][j]? = some u → (w.alloc (.cells #[.int .i64 z] 3)).cell? ((⟨w.heap.size, 0, none⟩ : Addr).add j) = some u := World.news_of_block (heap_alloc_new w _)
/-- Behind a ^ . -/
theorem relBr_bol {w1 w8 w6 : World} {z : Int} {v6 : Value} (h1 : ChP w w1 T v v) (hT : T < w.heap.size) (hs : w.heap.size ≤ w1.heap.size) (hb : bg [94] (l.drop i) = true)
    (hy : YPut w1 B T A n c l v ns g cl (i + 1) bolN (.returned (.int .i64 z)) w8) (ho : w6.ownsRow w.heap.size 3 1 v6 1 [.int .i64 z]) (hg : (w8.alloc (.cells #[.int .i64 z] 3)).grownBy w6 none) :
    RelBr w B T A n c l v ns g i cl inG v6 w6 := by
  have hP : ∀ w8 : World, w1.heap.size ≤ w8.heap.size → Pcs w.heap.size (w8.alloc (.cells #[.int .i64 z] 3)) (.slice none 0 0) [] := fun w8 h8 => ⟨World.ownsRow_nil _ _ _ _, by simp; omega⟩
  rcases hy with ⟨hl, v', e1, h3, h4⟩ | ⟨hl, v', e1, h3, h4⟩
  · obtain rfl : z = (ns.length : Int) := by simpa using e1
    refine .inl ⟨v', _, g, i + 1, cl, [(ns.length : Int)], (h3.keep (below_one w8 _)).grown (hP w8 h4.size) hg hT, ((h1.trans h4).trans (ChP.of_below (below_one w8 _))).grown (pv := .slice none 0 0) hg (fun k e => by cases e), (hP w8 h4.size).more ho hg.size, fun p hp => ?_, by simp, Nat.le_refl _, by omega, by simp, fun lv hlv => .one (step_bol hb hl)⟩
    simp only [List.mem_singleton] at hp
    subst hp
    rw [List.length_append]; exact okP_last _
  · exact .inr ⟨v', _, _, _, _, _, by decide, (h3.keep (below_one w8 _)).grown (hP w8 h4.size) hg hT, ((h1.trans h4).trans (ChP.of_below (below_one w8 _))).grown (pv := .slice none 0 0) hg (fun k e => by cases e), fun lv hlv => .bad (step_bol_full hb hl)⟩
variable (h : Psr w B T A n c l v ns g i cl 0)
include h
set_option maxHeartbeats 1600000 in
theorem branch_any (hB : ∀ k, k < n - i → BrOK k) :
    Calls Tryz.prog 15 #[.pointer (some ⟨T, 0, none⟩), .bool inG] w (YBranch w B T A n c l v ns g i cl inG) := by
  obtain ⟨i0, hi0, hz0, hz1, hz2⟩ := info_parts ints_info
  replace hz1 := Lib.hid hz1
  replace hz2 := Lib.hid hz2
  have hns : n ≤ 100000 := h.txt.2.2.2.1
  have hTl := Lib.hid h.lt
  have hB' := Lib.hid hB
  have hpl := Lib.hid h.le
  have hbB := Lib.hid h.bhs
  clear hB
  generalize hbr : bg [94] (l.drop i) = r
  have hX := Lib.hid (take_any h ⟨#[94]⟩ r hbr 1 rfl (by decide))
  replace hbr := Lib.hid hbr
  clear h
  go_enter Tryz.func15, Tryz.ntmps15
  go_upto_if 9 with (go_at_call 26; refine (hX.out).mono ?_; rintro e w1 ⟨rfl, hrm, h1, k1⟩; replace h1 := Lib.hid h1; replace k1 := Lib.hid k1; replace hrm := Lib.hid hrm)
  clear hX
  go_cut [5] from 10 to 21 (fun s5 wx => RelBr w B T A n c l v ns g i cl inG s5 wx)
  case first =>
    clear hB'
    cases r with
    | false =>
      go_wp2
      go_meet
      exact .inl ⟨v, ns, g, i, cl, [], h1.out, k1.out, ⟨World.ownsRow_nil _ _ _ _, k1.out.size⟩, fun p hp => (by cases hp), Nat.le_refl _, Nat.le_refl _, Nat.le_refl _, by simp, fun lv hlv => .one (step_plain hbr.out)⟩
    | true =>
      have hi1 := hrm.out (by first | exact rfl | exact trivial)
      have h1d := Lib.hid (show Psr w1.drew B T A n c l v ns g (i + 1) cl 0 from h1.out.keep (Below.refl _ _).drew)
      have k1d := Lib.hid (k1.out.trans (ChP.of_below (Below.refl _ _).drew))
      have hBo := Lib.hid (bol_any B T 0 v ns g _ h1d.out.bldr)
      have hpo := Lib.hid (fun (y : Ending) (w5 : World) => put_of h1d.out (fits_plain 7 (.inr (.inl rfl)) _ _) (x := y) (w2 := w5))
      have hsz : w.heap.size ≤ w1.drew.heap.size := k1d.out.size
      clear h1 k1 hrm
      go_wp2
      go_region_law (first
        | (refine step_append_lies _ (by rfl) _ _ 57 (by rfl) w.heap.size 3 i0 (.int .i64 0) 1 8 Tryz.underlying57 hi0 hz0 hz1.out hz2.out rfl (by decide) (.slice none 0 0) 0 [] (by rfl) (World.ownsRow_nil _ _ _ _) ⟨w8.heap.size, 0, none⟩ 1 1 [.int .i64 z] (by rfl) rfl (new_ints w8 z) (one_int z) (by omega) (by unfold maxLen; omega) (by omega) (by simp; omega) (w8.heap.size + 1) (by simp) ?_; intro g6 c6 w6 hown6 hg6 hb6 hg6lt
           replace hown6 := Lib.hid hown6
           replace hg6 := Lib.hid hg6)
        | (go_simp; go_wp2_with (first
            | (go_at_call 28; refine (hBo.out).mono ?_; intro x w4 hx0; obtain ⟨z, rfl, hx⟩ := hpo.out _ _ hx0; clear hx0; replace hx := Lib.hid hx)
            | (go_at_call 27; refine (hx.out).mono ?_; intro x w8 hy; obtain ⟨z, rfl, hy⟩ := hy.ret; have hs8 : w.heap.size ≤ w8.heap.size := Nat.le_trans hsz hy.size; replace hy := Lib.hid hy))))
      all_goals
        go_wp2
        go_meet
        exact relBr_bol k1d.out hTl.out hsz hbr.out hy.out hown6.out hg6.out
  case rest =>
    clear hbr h1 hrm
    replace hcut := Lib.hid hcut
    go_wp2
    go_loopw [5] (fun a wr => RelBr w B T A n c l v ns g i cl inG a wr) (fun _ wr => leftP n T wr)
    case atStart => exact hcut.out
    case round =>
      clear hcut k1
      rcases hrel with ⟨v2, ns2, g2, i2, cl2, ps2, h2, k2, p2, q1, q2, q3, q4, q5, q6⟩ | ⟨v2, ns2, g2, i2, cl2, ee, he, h2, k2, q6⟩
      · have hF := Lib.hid (fine_any h2)
        rw [decide_eq_true rfl] at hF
        have hle2 := h2.le
        obtain ⟨Ap, kp, rfl, -, -, -, -⟩ := p2.slice
        have hP := Lib.hid (fun w3 (hb : Below wr.heap.size wr w3) => h2.keep hb)
        have hEn := Lib.hid (ends_any h2)
        have hTW := hTl.out
        have hkeep := Lib.hid (fun (w3 : World) (hb : Below wr.heap.size wr w3) (y : Ending) (w5 : World) (hy : YNode true w3 B T A n c l v2 ns2 g2 i2 cl2 inG y w5) => show Pcs w.heap.size w5 (.slice Ap ps2.length kp) ps2 from by
          rcases hy with ⟨x, v', ns', g', i', cl', h1, h2', h3, h4, h5⟩ | ⟨v', ns', g', i', cl', q, h1, h2', h3, h4, h5⟩
          · exact (p2.below hb).chp (h2.keep hb) h4 hTW
          · exact (p2.below hb).chp (h2.keep hb) h4 hTW)
        have hcon := Lib.hid (fun (w3 : World) (hb : Below wr.heap.size wr w3) (z : Int) (w5 : World) (hy : YNode true w3 B T A n c l v2 ns2 g2 i2 cl2 inG (.returned (.int .i64 z)) w5) (v7 : Value) (w7 : World) (hpc : Pcs w.heap.size w5 (.slice Ap ps2.length kp) ps2)
          (ho : w7.ownsRow w.heap.size 3 1 v7 (ps2.length + 1) (ps2.map (Value.int .i64) ++ [.int .i64 z])) (hg : (w5.alloc (.cells #[.int .i64 z] 3)).grownBy w7 (Value.slice Ap ps2.length kp).ownBlock) => show RelBr w B T A n c l v ns g i cl inG v7 w7 ∧ leftP n T w7 < leftP n T wr from by
          have hpa := hpc.below (below_one w5 z)
          rcases hy with ⟨x, v', ns', g', i', cl', e1, ok', h3, h4, r1, r2, r3, r4⟩ | ⟨v', ns', g', i', cl', q, hq, e1, h3, h4, r4⟩
          · obtain rfl : z = x := by simpa using e1
            have h7 := (h3.keep (below_one w5 z)).grown hpa hg hTW
            refine ⟨.inl ⟨v', ns', g', i', cl', ps2 ++ [z], h7, (((k2.trans (ChP.of_below hb)).trans h4).trans (ChP.of_below (below_one w5 z))).grown hg hpc.lt, hpa.more ho hg.size, fun y hy => ?_, by omega, by omega, by omega, by rw [List.length_append, List.length_singleton]; omega, fun lv hlv => (q6 lv hlv).trans (r4 ps2 lv hlv)⟩, by rw [h7.left, h2.left]; omega⟩
            rcases List.mem_append.1 hy with hy | hy
            · exact okP_more (q1 y hy) (by omega)
            · simp only [List.mem_singleton] at hy; subst hy; exact ok'
          · have h7 := (h3.keep (below_one w5 z)).grown hpa hg hTW
            exact ⟨.inr ⟨v', ns', g', i', cl', q, hq, h7, (((k2.trans (ChP.of_below hb)).trans h4).trans (ChP.of_below (below_one w5 z))).grown hg hpc.lt, fun lv hlv => (q6 lv hlv).ends (r4 ps2 lv hlv)⟩, by rw [h7.left0 hq, h2.left]; omega⟩)
        have hPc := Lib.hid (fun (hi : i2 < n) (hc : inG = true → bg [92, 41] (l.drop i2) = false) (w3 : World) (hb : Below wr.heap.size wr w3) => piece_any (inG := inG) (h2.keep hb) hi hc (fun k hk => hB'.out k (by omega)))
        have hbase := p2.base
        have q3' := q3
        have q4' := q4
        have hnl := h2.hn
        by_cases hin : i2 = n
        · rw [decide_eq_true hin] at hEn
          cases inG with
          | true =>
            have hst := Lib.hid (fun (lv : List (Nat × List Int)) (hlv : lv.isEmpty = !true) => (q6 lv hlv).ends (.bad (step_open_end (g := g2) (cl := cl2) (ns := ns2) (ps := ps2) hlv (by omega))))
            replace k2 := Lib.hid k2
            have hC := Lib.hid (fun w4 hb4 => abranch_open (hP.out w4 hb4) hin Ap ps2.length kp)
            replace hin := Lib.hid hin
            clear h2 p2 q1 q2 q6 hPc hcon hkeep hnl
            go_wp2_with (first
              | (go_at_call 24; refine (hF.out).mono ?_; rintro y w9 ⟨rfl, rfl⟩)
              | (go_at_call 19; refine (hEn.out).mono ?_; rintro y w3 ⟨rfl, hb3⟩; replace hb3 := Lib.hid hb3)
              | (go_at_call 31; refine (hC.out _ hb3.out).mono ?_; rintro y w5 ⟨v5, ns5, g5, cl5, rfl, h5, k5⟩; replace h5 := Lib.hid h5; replace k5 := Lib.hid ((k2.out.trans (ChP.of_below hb3.out)).trans k5)))
            go_ret
            exact .inr ⟨v5, ns5, g5, i2, cl5, 14, by decide, rfl, h5.out, k5.out, hst.out⟩
          | false =>
            have hends : if false then bg [92, 41] (l.drop i2) = true else i2 = l.length := by simp; omega
            have hends2 := Lib.hid (show if (false : Bool) then bg [92, 41] (l.drop i2) = true else i2 = n by simp; exact hin)
            replace hin := Lib.hid hin
            replace hnl := Lib.hid hnl
            cases hcs : catS ns2 ps2 with
            | none =>
              have hC := Lib.hid (fun w4 hb4 => abranch_none (hP.out w4 hb4) (p2.below hb4) hTW q1 hcs false (fun e => by cases e))
              have hst := Lib.hid (fun (lv : List (Nat × List Int)) (hlv : lv.isEmpty = !false) => (q6 lv hlv).ends (.bad (step_cat_full (g := g2) (cl := cl2) hlv hends hcs)))
              replace k2 := Lib.hid k2
              clear h2 p2 q1 q2 q3 q4 q6 hPc hcon hkeep hcs hends
              go_wp2_with (first
                | (go_at_call 24; refine (hF.out).mono ?_; rintro y w9 ⟨rfl, rfl⟩)
                | (go_at_call 19; refine (hEn.out).mono ?_; rintro y w3 ⟨rfl, hb3⟩; replace hb3 := Lib.hid hb3)
                | (go_at_call 31; refine (hC.out _ hb3.out).mono ?_; rintro y w5 ⟨v5, ns5, g5, cl5, rfl, h5, k5⟩; replace h5 := Lib.hid h5; replace k5 := Lib.hid ((k2.out.trans (ChP.of_below hb3.out)).trans k5)))
              go_ret
              exact .inr ⟨v5, ns5, g5, i2, cl5, 8, by decide, rfl, h5.out, k5.out, hst.out⟩
            | some rr =>
              obtain ⟨x, ns'⟩ := rr
              have hup := catS_up q1 hcs
              have hC := Lib.hid (fun w4 hb4 => abranch_some (hP.out w4 hb4) (p2.below hb4) hTW q1 hcs false (fun e => by cases e))
              have hst := Lib.hid (show ns.length ≤ ns'.length ∧ okP (ns'.length : Int) x = true from ⟨by omega, hup.2.1⟩)
              replace q6 := Lib.hid q6
              replace hcs := Lib.hid hcs
              replace hends := Lib.hid hends
              replace k2 := Lib.hid k2
              clear h2 p2 q1 q2 hPc hcon hkeep hup
              go_wp2_with (first
                | (go_at_call 24; refine (hF.out).mono ?_; rintro y w9 ⟨rfl, rfl⟩)
                | (go_at_call 19; refine (hEn.out).mono ?_; rintro y w3 ⟨rfl, hb3⟩; replace hb3 := Lib.hid hb3)
                | (go_at_call 31; refine (hC.out _ hb3.out).mono ?_; rintro z w5 ⟨v5, rfl, h5, k5⟩; replace h5 := Lib.hid h5; replace k5 := Lib.hid ((k2.out.trans (ChP.of_below hb3.out)).trans k5)))
              go_ret
              exact .inl ⟨x, v5, ns', g2, i2, cl2, ns2, ps2, rfl, hst.out.2, h5.out, k5.out, hst.out.1, q3', q4', hcs.out, hends2.out, q6.out⟩
        · rw [decide_eq_false hin] at hEn
          have hlt : i2 < n := by omega
          cases inG with
          | false =>
            replace hPc := Lib.hid (hPc.out hlt (fun h => by cases h))
            clear h2 k2 p2 q1 q2 q3 q4 q6
            go_wp2_with (first
              | (go_at_call 24; refine (hF.out).mono ?_; rintro y w9 ⟨rfl, rfl⟩)
              | (go_at_call 19; refine (hEn.out).mono ?_; rintro y w3 ⟨rfl, hb3⟩; replace hb3 := Lib.hid hb3)
              | (go_at_call 30; refine (hPc.out _ hb3.out).mono ?_; intro y w5 hy; obtain ⟨z, rfl, hy⟩ := hy.ret; have hq := Lib.hid (hcon.out _ hb3.out _ _ hy); replace hy := Lib.hid hy; have hpc5 := Lib.hid (hkeep.out _ hb3.out _ _ hy.out))
              | (at_builtin; refine wpList_append_at rfl _ _ 57 rfl w.heap.size 3 i0 (.int .i64 0) 1 8 Tryz.underlying57 hi0 hz0 hz1.out hz2.out rfl (by decide) (.slice Ap ps2.length kp) ps2.length (ps2.map (Value.int .i64)) rfl (own_below hpc5.out.own (below_one w5 z)) (some ⟨w5.heap.size, 0, none⟩) 1 1 [.int .i64 z] rfl rfl (src_int w5 z) (one_int z) (by unfold maxLen; omega) (by omega) (by have := hpc5.out.base; simp; omega) ?_; intro v7 w7 hown7 hg7 _; replace hown7 := Lib.hid hown7; replace hg7 := Lib.hid hg7))
            have hfin := Lib.hid (hq.out _ _ hpc5.out hown7.out hg7.out)
            go_roundw
            case rel => exact hfin.out.1
            case measure => exact hfin.out.2
          | true =>
            cases hbb : bg [92, 41] (l.drop i2) with
            | true =>
              have hCm := Lib.hid (fun w3 (hb : Below wr.heap.size wr w3) => comes_is (hP.out w3 hb) ⟨#[92, 41]⟩ true hbb)
              have hends : if true then bg [92, 41] (l.drop i2) = true else i2 = l.length := by simpa using hbb
              have hends2 := Lib.hid (show if true then bg [92, 41] (l.drop i2) = true else i2 = n by simpa using hbb)
              have hne : i2 ≠ n := hin
              clear hbb
              cases hcs : catS ns2 ps2 with
              | none =>
                have hC := Lib.hid (fun w4 hb4 => abranch_none (hP.out w4 hb4) (p2.below hb4) hTW q1 hcs true (fun _ => hne))
                have hst := Lib.hid (fun (lv : List (Nat × List Int)) (hlv : lv.isEmpty = !true) => (q6 lv hlv).ends (.bad (step_cat_full (g := g2) (cl := cl2) hlv hends hcs)))
                replace k2 := Lib.hid k2
                clear h2 p2 q1 q2 q3 q4 q6 hPc hcon hkeep hcs hends
                go_wp2_with (first
                  | (go_at_call 24; refine (hF.out).mono ?_; rintro y w9 ⟨rfl, rfl⟩)
                  | (go_at_call 19; refine (hEn.out).mono ?_; rintro y w3 ⟨rfl, hb3⟩; replace hb3 := Lib.hid hb3)
                  | (go_at_call 29; refine (hCm.out _ hb3.out).mono ?_; rintro y w4 ⟨rfl, hb4⟩; replace hb4 := Lib.hid (hb3.out.trans (hb4.mono hb3.out.size)))
                  | (go_at_call 31; refine (hC.out _ hb4.out).mono ?_; rintro y w5 ⟨v5, ns5, g5, cl5, rfl, h5, k5⟩; replace h5 := Lib.hid h5; replace k5 := Lib.hid ((k2.out.trans (ChP.of_below hb4.out)).trans k5)))
                go_ret
                exact .inr ⟨v5, ns5, g5, i2, cl5, 8, by decide, rfl, h5.out, k5.out, hst.out⟩
              | some rr =>
                obtain ⟨x, ns'⟩ := rr
                have hup := catS_up q1 hcs
                have hC := Lib.hid (fun w4 hb4 => abranch_some (hP.out w4 hb4) (p2.below hb4) hTW q1 hcs true (fun _ => hne))
                have hst := Lib.hid (show ns.length ≤ ns'.length ∧ okP (ns'.length : Int) x = true from ⟨by omega, hup.2.1⟩)
                replace q6 := Lib.hid q6
                replace hcs := Lib.hid hcs
                replace hends := Lib.hid hends
                replace k2 := Lib.hid k2
                clear h2 p2 q1 q2 hPc hcon hkeep hup
                go_wp2_with (first
                  | (go_at_call 24; refine (hF.out).mono ?_; rintro y w9 ⟨rfl, rfl⟩)
                  | (go_at_call 19; refine (hEn.out).mono ?_; rintro y w3 ⟨rfl, hb3⟩; replace hb3 := Lib.hid hb3)
                  | (go_at_call 29; refine (hCm.out _ hb3.out).mono ?_; rintro y w4 ⟨rfl, hb4⟩; replace hb4 := Lib.hid (hb3.out.trans (hb4.mono hb3.out.size)))
                  | (go_at_call 31; refine (hC.out _ hb4.out).mono ?_; rintro z w5 ⟨v5, rfl, h5, k5⟩; replace h5 := Lib.hid h5; replace k5 := Lib.hid ((k2.out.trans (ChP.of_below hb4.out)).trans k5)))
                go_ret
                exact .inl ⟨x, v5, ns', g2, i2, cl2, ns2, ps2, rfl, hst.out.2, h5.out, k5.out, hst.out.1, q3', q4', hcs.out, hends2.out, q6.out⟩
            | false =>
              have hCm := Lib.hid (fun w3 (hb : Below wr.heap.size wr w3) => comes_is (hP.out w3 hb) ⟨#[92, 41]⟩ false hbb)
              replace hPc := Lib.hid (hPc.out hlt (fun _ => hbb))
              clear h2 k2 p2 q1 q2 q3 q4 q6 hbb
              go_wp2_with (first
                | (go_at_call 24; refine (hF.out).mono ?_; rintro y w9 ⟨rfl, rfl⟩)
                | (go_at_call 19; refine (hEn.out).mono ?_; rintro y w3 ⟨rfl, hb3⟩; replace hb3 := Lib.hid hb3)
                | (go_at_call 29; refine (hCm.out _ hb3.out).mono ?_; rintro y w4 ⟨rfl, hb4⟩; replace hb4 := Lib.hid (hb3.out.trans (hb4.mono hb3.out.size)))
                | (go_at_call 30; refine (hPc.out _ hb4.out).mono ?_; intro y w5 hy; obtain ⟨z, rfl, hy⟩ := hy.ret; have hq := Lib.hid (hcon.out _ hb4.out _ _ hy); replace hy := Lib.hid hy; have hpc5 := Lib.hid (hkeep.out _ hb4.out _ _ hy.out))
                | (at_builtin; refine wpList_append_at rfl _ _ 57 rfl w.heap.size 3 i0 (.int .i64 0) 1 8 Tryz.underlying57 hi0 hz0 hz1.out hz2.out rfl (by decide) (.slice Ap ps2.length kp) ps2.length (ps2.map (Value.int .i64)) rfl (own_below hpc5.out.own (below_one w5 z)) (some ⟨w5.heap.size, 0, none⟩) 1 1 [.int .i64 z] rfl rfl (src_int w5 z) (one_int z) (by unfold maxLen; omega) (by omega) (by have := hpc5.out.base; simp; omega) ?_; intro v7 w7 hown7 hg7 _; replace hown7 := Lib.hid hown7; replace hg7 := Lib.hid hg7))
              have hfin := Lib.hid (hq.out _ _ hpc5.out hown7.out hg7.out)
              go_roundw
              case rel => exact hfin.out.1
              case measure => exact hfin.out.2
      · have hF := Lib.hid (fine_any h2)
        rw [decide_eq_false he] at hF
        have hC := Lib.hid (abranch_bad h2 he inG)
        have hfin := Lib.hid (show YBranch w B T A n c l v ns g i cl inG (.returned (.int .i64 (-1))) wr from .inr ⟨v2, ns2, g2, i2, cl2, ee, he, rfl, h2, k2, q6⟩)
        clear h2 k2 q6 he
        go_wp2_with (first
          | (go_at_call 24; refine (hF.out).mono ?_; rintro y w9 ⟨rfl, rfl⟩)
          | (go_at_call 31; refine (hC.out _).mono ?_; rintro y w9 ⟨rfl, rfl⟩))
        go_ret
        exact hfin.out
end
theorem br_all : ∀ k, BrOK k := by
  intro k
  induction k using Nat.strongRecOn with
  | ind k ih =>
    intro inG w B T A n c l v ns g i cl h hk
    exact branch_any h fun k' hk' => ih k' (by omega)
end Go.Proofs.YtnfbgpjadnlgbaaGreat

set_option maxRecDepth 100000
namespace Go.Proofs.YtnfbgpjadnlgbaaGreat
open Go.RowKit

/-- internal/bytealg.MaxLen holds some number. -/
def Mx (w : World) : Prop := ∃ m : Int, 0 < w.heap.size ∧ w.cell? ⟨0, 0, none⟩ = some (.int .i64 m)
theorem max_of {W : World} (h : W.ShapedOpen Tryz.prog) : Mx W := by
  obtain ⟨m, hm⟩ := Tryz.laysM185.s1_3 W h
  exact ⟨m, World.block_lt_of_cell? _ _ hm, hm⟩
theorem Mx.grow {w w' : World} (h : Mx w) (hb : Below w.heap.size w w') : Mx w' := by
  obtain ⟨m, h6, h7⟩ := h
  exact ⟨m, Nat.lt_of_lt_of_le h6 hb.size, (hb.cell (p := ⟨0, 0, none⟩) h6).trans h7⟩
theorem Inp.of {w : World} {A : Option Addr} {n c : Nat} {l : List UInt8} (hm : Mx w) (h1 : n = l.length) (h2 : n ≤ c) (h3 : c ≤ maxLen) (h4 : n ≤ 100000) (h5 : Byt w w.heap.size A l) : Inp w A n c l := ⟨h1, h2, h3, h4, h5, hm⟩
theorem Inp.mx {w : World} {A : Option Addr} {n c : Nat} {l : List UInt8} (h : Inp w A n c l) : Mx w := h.2.2.2.2.2

theorem const_inp {w : World} (hm : Mx w) (l : List UInt8) (k : Nat) (hl : k = l.length) (hs : k ≤ 1000) (fr : Nat × Nat) : Inp (w.alloc (.cells (l.map fun c => Value.int .u8 (c.toNat : Int)).toArray 5 fr)) (some ⟨w.heap.size, 0, none⟩) k k l := by
  subst hl
  exact Inp.of (hm.grow ((Below.refl _ _).alloc (Nat.le_refl _) _)) rfl (Nat.le_refl _) (by unfold maxLen; omega) (by omega) ((byt_new w l 5 fr).more (by rw [sizeA']; exact Nat.le_refl _))
end Go.Proofs.YtnfbgpjadnlgbaaGreat

set_option linter.unusedVariables false
set_option maxRecDepth 100000
namespace Go.Proofs.YtnfbgpjadnlgbaaGreat
open Go.RowKit

def psr0C (A : Option Addr) (n c : Nat) : Array Value := psrC (.slice none 0 0) 0 A n c 0 noCl 0
theorem txt_of {w : World} {A : Option Addr} {n c : Nat} {l : List UInt8} (h : Inp w A n c l) : Txt w w.heap.size A n c l := by
  obtain ⟨h1, h2, h3, h4, h5, m, h6, h7⟩ := h
  exact ⟨h1, h2, h3, h4, Nat.le_refl _, h5, m, h6, h7⟩
/-- A parser that stands at the beginning. -/
theorem psr_new {w w1 : World} {A : Option Addr} {n c : Nat} {l : List UInt8} (h : Inp w A n c l) (hb : Below w.heap.size w w1) (t : TypeId) (h1 : 39 ≠ t) (h2 : 3 ≠ t) :
    Psr (w1.alloc (.cells (psrC (.slice none 0 0) 0 A n c 0 noCl 0) t)) w.heap.size w1.heap.size A n c l (.slice none 0 0) [] 0 0 noCl 0 :=
  ⟨⟨t, h1, h2, held_new _ _ _⟩, World.ownsRow_nil _ _ _ _, by simp, by simp, hb.size, Nat.zero_le _, fun q h => by simp [noCl] at h, (txt_of h).below (hb.trans ((Below.refl _ _).alloc hb.size _))⟩
theorem rightN_len {ns : List Nod} {g : Int} (h : rightN ns g = true) : 1 ≤ ns.length ∧ ns.length ≤ 1000 ∧ 0 ≤ g ∧ g ≤ 9 := by
  by_cases hx : 1 ≤ ns.length ∧ ns.length ≤ 1000 ∧ 0 ≤ g ∧ g ≤ 9
  · exact hx
  · rw [rightN_size hx] at h; cases h
/-- A slice of nodes of one's own, its block told. -/
theorem own_at {w : World} {B : Nat} {v : Value} {ns : List Nod} (h : w.ownsRow B 39 10 v ns.length (nodsL ns)) (h1 : 1 ≤ ns.length) :
    ∃ q cap, v = .slice (some ⟨q, 0, none⟩) ns.length cap ∧ B ≤ q ∧ ns.length ≤ cap ∧ cap ≤ maxLen := by
  rcases h.2 with ⟨rfl, e⟩ | ⟨q, cap, cur, rfl, hb, hh, hnc, hcm, r⟩
  · omega
  · exact ⟨q, cap, rfl, hb, hnc, hcm⟩
/-- What comes out of a text that is one. -/
def FinR (w : World) (ns : List Nod) (g n : Nat) (e : Ending) (w' : World) : Prop :=
  ∃ q cap, e = .returned (.tuple #[.agg #[.slice (some ⟨q, 0, none⟩) n cap, .int .i64 (g : Int)], .int .i64 0, .int .i64 0]) ∧ w'.ownsRow w.heap.size 39 10 (.slice (some ⟨q, 0, none⟩) n cap) n (nodsL ns) ∧ Below w.heap.size w w' ∧ n ≤ cap ∧ cap ≤ maxLen
theorem FinR.ex {w : World} {ns : List Nod} {g n : Nat} {e : Ending} {w' : World} (h : FinR w ns g n e w') : ∃ q cap, e = .returned (.tuple #[.agg #[.slice (some ⟨q, 0, none⟩) n cap, .int .i64 (g : Int)], .int .i64 0, .int .i64 0]) ∧ w'.ownsRow w.heap.size 39 10 (.slice (some ⟨q, 0, none⟩) n cap) n (nodsL ns) ∧ Below w.heap.size w w' ∧ n ≤ cap ∧ cap ≤ maxLen := h
theorem le_alloc (w : World) (o : Obj) : w.heap.size ≤ (w.alloc o).heap.size := by rw [sizeA']; omega
end Go.Proofs.YtnfbgpjadnlgbaaGreat
