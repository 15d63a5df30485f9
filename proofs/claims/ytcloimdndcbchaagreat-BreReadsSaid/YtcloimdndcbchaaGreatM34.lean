/- Contract of the parser's branch. -/
import Derived.Test.YtcloimdndcbchaaGreatM33
import Derived.Test.YtcloimdndcbchaaGreatM07
import Derived.Deep.CutRange
import Derived.Deep.CutBlock
set_option linter.unusedVariables false
set_option maxRecDepth 100000
namespace Go.Proofs.YtcloimdndcbchaaGreat
open Go.RowKit

theorem own_apart {w : World} {b1 b2 : Nat} {e1 e2 : TypeId} {s1 s2 n1 n2 : Nat} {v1 v2 : Value} {x1 x2 : List Value} (h1 : w.ownsRow b1 e1 s1 v1 n1 x1) (h2 : w.ownsRow b2 e2 s2 v2 n2 x2) (hne : e1 ≠ e2) : v1.ownBlock = none ∨ v1.ownBlock ≠ v2.ownBlock := by
  rcases h1.2 with ⟨rfl, _⟩ | ⟨k, cap, cur, rfl, _, hh, _⟩
  · exact .inl rfl
  · refine .inr fun e => ?_
    have hk : Held w k e1 cur := hh
    exact hk.not_own h2 (fun e => hne e.symm) (by rw [← e]; rfl)
/-- The numbers of the pieces, in a slice of the call's own. -/
structure Pcs (W : Nat) (w : World) (pv : Value) (ps : List Int) : Prop where
  own : w.ownsRow W 3 1 pv ps.length (ps.map (Value.int .i64))
  base : W ≤ w.heap.size
section
variable {w w' w0 : World} {B T W : Nat} {A : Option Addr} {n c : Nat} {l : List UInt8} {v v' v0 pv : Value} {ns : List Nod} {g i : Nat} {cl : Nat → Bool} {pl e : Nat} {ps : List Int}
theorem Pcs.nil_ (w : World) : Pcs w.heap.size w (.slice none 0 0) [] := ⟨World.ownsRow_nil _ _ _ _, Nat.le_refl _⟩
theorem Pcs.chp (h : Pcs W w pv ps) (hp : Psr w B T A n c l v ns g i cl pl e) (k : ChP w w' T v v') (hT : T < W) : Pcs W w' pv ps := by
  refine ⟨?_, Nat.le_trans h.base k.size⟩
  rcases h.own.2 with ⟨rfl, e1⟩ | ⟨q, cap, cur, rfl, hb, hh, r⟩
  · exact ⟨h.own.1, .inl ⟨rfl, e1⟩⟩
  · refine ⟨h.own.1, .inr ⟨q, cap, cur, rfl, hb, ?_, r⟩⟩
    have hk : Held w q 3 cur := hh
    exact (k.far q hk.lt (by omega) (fun e => hk.not_own hp.own (by decide) e.symm)).trans hh
theorem Pcs.below (h : Pcs W w pv ps) (hb : Below w.heap.size w w') : Pcs W w' pv ps := ⟨own_below h.own hb, Nat.le_trans h.base hb.size⟩
theorem Pcs.lt (h : Pcs W w pv ps) : ∀ k, pv.ownBlock = some k → W ≤ k := fun k e => (h.own.lt k e).1
/-- Where a slice of the call's own grows. -/
theorem Psr.grown (h : Psr w B T A n c l v ns g i cl pl e) (hp : Pcs W w pv ps) (hg : w.grownBy w' pv.ownBlock) (hT : T < W) : Psr w' B T A n c l v ns g i cl pl e := by
  have hB : Below B w w' := ⟨hg.os, hg.tape, hg.output, hg.size, fun k hk => hg.block k (Nat.lt_of_lt_of_le hk h.bhs) (fun e => by have := hp.lt k e.symm; have := h.base; omega)⟩
  refine ⟨h.held.grown hg (fun e => by have := hp.lt T e.symm; omega), h.own.kept hg ?_, h.len, h.grp, h.base, h.le, h.clg, h.txt.below hB⟩
  rcases own_apart hp.own h.own (by decide) with e1 | e1
  · rw [e1]
    cases hv : v.ownBlock with
    | none => exact .inl rfl
    | some k => exact .inr (by simp)
  · exact .inr fun e => e1 e.symm
theorem ChP.grown (h : ChP w0 w T v0 v) (hg : w.grownBy w' pv.ownBlock) (hp : ∀ k, pv.ownBlock = some k → w0.heap.size ≤ k) : ChP w0 w' T v0 v :=
  ⟨hg.os.trans h.os, hg.tape.trans h.tape, hg.output.trans h.output, Nat.le_trans h.size hg.size, fun k hk h1 h2 => (hg.block k (Nat.lt_of_lt_of_le hk h.size) (fun e => by have := hp k e.symm; omega)).trans (h.far k hk h1 h2), h.row⟩
/-- The slice of the pieces, as Cat wants it. -/
theorem Pcs.slice (h : Pcs W w pv ps) : ∃ A k, pv = .slice A ps.length k ∧ ps.length ≤ k ∧ k ≤ 9223372036854775807 ∧ Vals w w.heap.size A (ps.map (Value.int .i64)) ∧ ∀ ad, A = some ad → W ≤ ad.block ∧ pv.ownBlock = some ad.block := by
  have hl := h.own.1
  obtain ⟨-, ⟨rfl, e1⟩ | ⟨q, cap, cur, rfl, hb, hh, hnc, hcm, r⟩⟩ := id h.own
  · have : ps = [] := List.length_eq_zero_iff.1 e1
    subst this
    exact ⟨none, 0, rfl, Nat.le_refl _, by omega, Vals.none_ _ _ _, fun ad e => by cases e⟩
  · unfold maxLen at hcm
    refine ⟨some ⟨q, 0, none⟩, cap, rfl, hnc, by omega, fun k hk => ⟨_, rfl, (h.own.lt q rfl).2, ?_⟩, fun ad e => by cases e; exact ⟨hb, rfl⟩⟩
    rw [List.length_map] at hk
    rw [add_zero_off, h.own.cellAt k (by omega), List.getElem?_eq_getElem (by rw [List.length_map]; exact hk)]
theorem Pcs.apart (h : Pcs W w pv ps) (hp : Psr w B T A n c l v ns g i cl pl e) (hT : T < W) {A' : Option Addr} (hA : ∀ ad, A' = some ad → W ≤ ad.block ∧ pv.ownBlock = some ad.block) : Apart A' T v := fun ad e1 => by
  obtain ⟨h1, h2⟩ := hA ad e1
  refine ⟨by omega, fun e2 => ?_⟩
  rcases own_apart h.own hp.own (by decide) with e3 | e3
  · rw [h2] at e3; cases e3
  · exact e3 (by rw [h2, e2])
end

/-- While a branch is read. -/
def RelBr (w : World) (B T : Nat) (A : Option Addr) (n c : Nat) (l : List UInt8) (v : Value) (ns : List Nod) (g i : Nat) (cl : Nat → Bool) (inG : Bool) (pv : Value) (wr : World) : Prop :=
  (∃ v' ns' g' i' cl' ps, Psr wr B T A n c l v' ns' g' i' cl' 0 0 ∧ ChP w wr T v v' ∧ Pcs w.heap.size wr pv ps ∧ (∀ p ∈ ps, okP (ns'.length : Int) p = true) ∧ ns.length ≤ ns'.length ∧ g ≤ g' ∧ i ≤ i' ∧ ps.length ≤ i' ∧
    ∀ lv, lv.isEmpty = !inG → Steps l ⟨.B, i, ns, g, cl, [], lv⟩ ⟨.L, i', ns', g', cl', ps, lv⟩) ∨
  (∃ v' ns' g' i' cl' p q, q ≠ 0 ∧ Psr wr B T A n c l v' ns' g' i' cl' p q ∧ ChP w wr T v v' ∧ ∀ lv, lv.isEmpty = !inG → Ends l ⟨.B, i, ns, g, cl, [], lv⟩ (.bad p q))
section
variable {t : List UInt8} {i : Nat} {ns : List Nod} {g : Nat} {cl : Nat → Bool} {ps : List Int} {lv : List (Nat × List Int)} {x : Int}
theorem step_bol (hb : bg [94] (t.drop i) = true) (hl : ns.length < 1000) : step t ⟨.B, i, ns, g, cl, ps, lv⟩ = .go ⟨.L, i + 1, ns ++ [bolN], g, cl, [(ns.length : Int)], lv⟩ := by
  show stepB t _ = _
  simp only [stepB, putS]
  rw [if_pos hb, if_pos hl]
theorem step_bol_full (hb : bg [94] (t.drop i) = true) (hl : ¬ ns.length < 1000) : step t ⟨.B, i, ns, g, cl, ps, lv⟩ = .bad (i + 1) 8 := by
  show stepB t _ = _
  simp only [stepB, putS]
  rw [if_pos hb, if_neg hl]
theorem step_plain (hb : bg [94] (t.drop i) = false) : step t ⟨.B, i, ns, g, cl, ps, lv⟩ = .go ⟨.L, i, ns, g, cl, [], lv⟩ := by
  show stepB t _ = _
  simp only [stepB, putS]
  rw [if_neg (by rw [hb]; decide)]
theorem step_open_end (hlv : lv.isEmpty = false) (hi : i = t.length) : step t ⟨.L, i, ns, g, cl, ps, lv⟩ = .bad i 14 := by
  cases lv with
  | nil => cases hlv
  | cons a lv =>
    obtain ⟨q, p⟩ := a
    show stepL t ⟨.L, i, ns, g, cl, ps, (q, p) :: lv⟩ = _
    simp only [stepL]
    rw [if_pos (by omega)]
theorem step_cat_full {inG : Bool} (hlv : lv.isEmpty = !inG) (he : if inG then bg [92, 41] (t.drop i) = true else i = t.length) (hc : catS ns ps = none) : step t ⟨.L, i, ns, g, cl, ps, lv⟩ = .bad i 8 := by
  cases lv with
  | nil =>
    obtain rfl : inG = false := by cases inG <;> simp at hlv ⊢
    simp at he
    show stepL t ⟨.L, i, ns, g, cl, ps, []⟩ = _
    simp only [stepL]
    rw [if_pos (by omega), hc]
  | cons a lv =>
    obtain ⟨q, p⟩ := a
    obtain rfl : inG = true := by cases inG <;> simp at hlv ⊢
    simp at he
    have := bg_room he
    simp at this
    show stepL t ⟨.L, i, ns, g, cl, ps, (q, p) :: lv⟩ = _
    simp only [stepL]
    rw [if_neg (by omega), if_pos he, hc]
end
end Go.Proofs.YtcloimdndcbchaaGreat

namespace Go.Proofs.YtcloimdndcbchaaGreat
open Go.RowKit

theorem ints_info : (Tryz.prog.info? 3).map (fun i => (i.zero, i.size, i.bytes)) = some (some (.int .i64 0), 1, 8) := by kernel_rfl
theorem src_int (w : World) (x : Int) : Src (w.alloc (.cells #[.int .i64 x] 3)) (some ⟨w.heap.size, 0, none⟩) [.int .i64 x] := src_new w [.int .i64 x] 3
theorem one_int (x : Int) : ∀ u ∈ [Value.int .i64 x], u.oneCell' = true := by simp [Value.oneCell']
section
variable {w : World} {B T : Nat} {A : Option Addr} {n c : Nat} {l : List UInt8} {v : Value} {ns : List Nod} {g i : Nat} {cl : Nat → Bool} {inG : Bool}
theorem okP_pos {t p : Int} (h : okP t p = true) : 0 ≤ p := by simp [okP] at h; omega
theorem below_one (w : World) (x : Int) : Below w.heap.size w (w.alloc (.cells #[.int .i64 x] 3)) := (Below.refl _ _).alloc (Nat.le_refl _) _
/-- Behind an append to the pieces. -/
theorem Pcs.more {W : Nat} {w w' : World} {pv pv' : Value} {ps : List Int} {x : Int} (h : Pcs W w pv ps) (ho : w'.ownsRow W 3 1 pv' (ps.length + 1) (ps.map (Value.int .i64) ++ [.int .i64 x])) (hg : w.heap.size ≤ w'.heap.size) : Pcs W w' pv' (ps ++ [x]) :=
  ⟨by rw [List.length_append, List.map_append]; exact ho, Nat.le_trans h.base hg⟩
theorem Pcs.slice' {W : Nat} {w : World} {A' : Option Addr} {m k : Nat} {ps : List Int} (h : Pcs W w (.slice A' m k) ps) : m = ps.length ∧ m ≤ k ∧ k ≤ 9223372036854775807 ∧ Vals w w.heap.size A' (ps.map (Value.int .i64)) ∧ ∀ ad, A' = some ad → W ≤ ad.block ∧ (Value.slice A' m k).ownBlock = some ad.block := by
  obtain ⟨A2, k2, e, h1, h2, h3, h4⟩ := h.slice
  injection e with e1 e2 e3
  subst e1
  subst e3
  exact ⟨e2, by omega, h2, h3, h4⟩
variable (h : Psr w B T A n c l v ns g i cl 0 0)
include h
theorem bcat_none {W m k : Nat} {Ap : Option Addr} {ps : List Int} (hp : Pcs W w (.slice Ap m k) ps) (hT : T < W) (hok : ∀ p ∈ ps, okP (ns.length : Int) p = true) (hc : catS ns ps = none) :
    Calls Tryz.prog 20 #[.pointer (some ⟨T, 0, none⟩), .slice Ap m k] w fun e w' => ∃ v' ns', e = .returned (.int .i64 (-1)) ∧ Psr w' B T A n c l v' ns' g i cl 0 0 ∧ ChP w w' T v v' := by
  obtain ⟨h1, h2, h3, h4, h5⟩ := hp.slice'
  refine (cat_any B T 0 v ns g Ap m k w.heap.size ps w h.bldr h1 h2 h3 h4 (Nat.le_refl _) (hp.apart h hT h5)).mono fun e w' ⟨v', e1, hb, hg⟩ => ⟨v', _, ?_, h.built (Nat.le_refl _) hb hg, hg.chp⟩
  rw [e1, catR_none hok hc]
theorem bcat_some {W m k : Nat} {Ap : Option Addr} {ps : List Int} (hp : Pcs W w (.slice Ap m k) ps) (hT : T < W) (hok : ∀ p ∈ ps, okP (ns.length : Int) p = true) {x : Int} {ns' : List Nod} (hc : catS ns ps = some (x, ns')) :
    Calls Tryz.prog 20 #[.pointer (some ⟨T, 0, none⟩), .slice Ap m k] w fun e w' => ∃ v', e = .returned (.int .i64 x) ∧ Psr w' B T A n c l v' ns' g i cl 0 0 ∧ ChP w w' T v v' := by
  obtain ⟨h1, h2, h3, h4, h5⟩ := hp.slice'
  refine (cat_any B T 0 v ns g Ap m k w.heap.size ps w h.bldr h1 h2 h3 h4 (Nat.le_refl _) (hp.apart h hT h5)).mono fun e w' ⟨v', e1, hb, hg⟩ => ?_
  rw [catR_some hok hc] at e1 hb
  exact ⟨v', e1, h.built (Nat.le_refl _) hb hg, hg.chp⟩
set_option maxHeartbeats 1200000 in
theorem branch_any (hB : ∀ k, k < n - i → BrOK k) :
    Calls Tryz.prog 9 #[.pointer (some ⟨T, 0, none⟩), .bool inG] w (YBranch w B T A n c l v ns g i cl inG) := by
  obtain ⟨i0, hi0, hz0, hz1, hz2⟩ := info_parts ints_info
  replace hz1 := Lib.hid hz1
  replace hz2 := Lib.hid hz2
  have hns : n ≤ 100000 := h.txt.2.2.2.1
  have hh := Lib.hid h
  have hTl := Lib.hid h.lt
  have hB' := Lib.hid hB
  have hpl := Lib.hid h.le
  clear hB
  have hX := Lib.hid (comes_any h ⟨#[94]⟩)
  clear h
  have hst0 := Lib.hid (fun (hb : bg [94] (l.drop i) = true) (lv : List (Nat × List Int)) (hl : ns.length < 1000) => step_bol (g := g) (cl := cl) (ps := []) (lv := lv) hb hl)
  have hst1 := Lib.hid (fun (hb : bg [94] (l.drop i) = true) (lv : List (Nat × List Int)) (hl : ¬ ns.length < 1000) => step_bol_full (g := g) (cl := cl) (ps := []) (lv := lv) hb hl)
  have hst2 := Lib.hid (fun (hb : bg [94] (l.drop i) = false) (lv : List (Nat × List Int)) => step_plain (ns := ns) (g := g) (cl := cl) (ps := []) (lv := lv) hb)
  have hrm := Lib.hid (fun (hb : bg [94] (l.drop i) = true) => (show i + 1 ≤ n by have := bg_room hb; simp at this; have := hh.out.hn; omega))
  rw [show bg (ByteArray.mk #[94]).data.toList (l.drop i) = bg [94] (l.drop i) from rfl] at hX
  generalize bg [94] (l.drop i) = r at hX hst0 hst1 hst2 hrm
  go_enter Tryz.func9, Tryz.ntmps9
  go_upto_if 7 with (go_at_call 14; refine (hX.out).mono ?_; rintro e w1 ⟨rfl, hb1⟩; replace hb1 := Lib.hid hb1)
  clear hX
  go_cut [5] from 8 to 23 (fun s5 wx => RelBr w B T A n c l v ns g i cl inG s5 wx)
  case first =>
    clear hB'
    cases r with
    | false =>
      go_wp2
      go_meet
      exact .inl ⟨v, ns, g, i, cl, [], hh.out.keep hb1.out, ChP.of_below hb1.out, (Pcs.nil_ w).below hb1.out, fun p hp => (by cases hp), Nat.le_refl _, Nat.le_refl _, Nat.le_refl _, by simp, fun lv hlv => .one (hst2.out (by first | exact rfl | exact trivial) lv)⟩
    | true =>
      have hi1 := hrm.out (by first | exact rfl | exact trivial)
      have hi2 : (i : Int) ≤ 100000 := by omega
      have h1 := hh.out.keep hb1.out
      have c3 := h1.c3
      have t3 := h1.thawed 3
      have h2 := Lib.hid (h1.goto' hi1 (z := (i : Int) + 1) (by omega))
      have k2 := Lib.hid ((ChP.of_below (T := T) (v := v) hb1.out).trans (ChP.store w1 T 3 (.int .i64 ((i : Int) + 1)) v))
      have hBo := Lib.hid (bol_any B T 0 v ns g _ h2.out.bldr)
      clear h1 hst2 hrm hh
      by_cases hl : ns.length < 1000
      · have hl' := Lib.hid hl
        go_wp2_with (first
          | (go_at_call 16; refine (hBo.out).mono ?_; intro x w4 hx2; obtain ⟨v4, rfl, h4, k4⟩ := h2.out.room hl'.out (fits_plain 7 (.inr (.inl rfl)) _ _) hx2; clear hx2; replace h4 := Lib.hid h4; replace k4 := Lib.hid (k2.out.trans k4))
          | (go_at_call 15; refine (put_yes T ns.length _).mono ?_; rintro x w5 ⟨rfl, rfl⟩)
          | (at_builtin; refine wpList_append_at rfl _ _ 55 rfl w.heap.size 3 i0 (.int .i64 0) 1 8 Tryz.underlying55 hi0 hz0 hz1.out hz2.out rfl (by decide) (.slice none 0 0) 0 [] rfl (World.ownsRow_nil _ _ _ _) (some ⟨w4.heap.size, 0, none⟩) 1 1 [.int .i64 (ns.length : Int)] rfl rfl (src_int w4 (ns.length : Int)) (one_int (ns.length : Int)) (by unfold maxLen; omega) (by omega) (by have := k4.out.size; simp; omega) ?_; intro v7 w7 hown7 hg7 _; replace hown7 := Lib.hid hown7; replace hg7 := Lib.hid hg7))
        go_meet
        have hP4 : Pcs w.heap.size (w4.alloc (.cells #[.int .i64 (ns.length : Int)] 3)) (.slice none 0 0) [] := ⟨World.ownsRow_nil _ _ _ _, by have := k4.out.size; simp; omega⟩
        refine .inl ⟨v4, _, g, i + 1, cl, [(ns.length : Int)], (h4.out.keep (below_one w4 _)).grown hP4 hg7.out hTl.out, (k4.out.trans (ChP.of_below (below_one w4 _))).grown hg7.out (fun k e => by cases e), hP4.more hown7.out hg7.out.size, fun p hp => ?_, by simp, Nat.le_refl _, by omega, by simp, fun lv hlv => .one (hst0.out (by first | exact rfl | exact trivial) lv hl'.out)⟩
        simp only [List.mem_singleton] at hp
        subst hp
        rw [List.length_append]; exact okP_last _
      · have hl' := Lib.hid hl
        go_wp2_with (first
          | (go_at_call 16; refine (hBo.out).mono ?_; intro x w4 hx2; obtain ⟨v4, rfl, h4, k4⟩ := h2.out.full hl'.out hx2; clear hx2; replace h4 := Lib.hid h4; replace k4 := Lib.hid (k2.out.trans k4))
          | (go_at_call 15; refine (put_no h4.out).mono ?_; rintro x w5 ⟨rfl, h5, k5⟩; replace h5 := Lib.hid h5; replace k5 := Lib.hid (k4.out.trans k5))
          | (at_builtin; refine wpList_append_at rfl _ _ 55 rfl w.heap.size 3 i0 (.int .i64 0) 1 8 Tryz.underlying55 hi0 hz0 hz1.out hz2.out rfl (by decide) (.slice none 0 0) 0 [] rfl (World.ownsRow_nil _ _ _ _) (some ⟨w5.heap.size, 0, none⟩) 1 1 [.int .i64 (-1)] rfl rfl (src_int w5 (-1)) (one_int (-1)) (by unfold maxLen; omega) (by omega) (by have := k5.out.size; simp; omega) ?_; intro v7 w7 hown7 hg7 _; replace hown7 := Lib.hid hown7; replace hg7 := Lib.hid hg7))
        go_meet
        have hP5 : Pcs w.heap.size (w5.alloc (.cells #[.int .i64 (-1)] 3)) (.slice none 0 0) [] := ⟨World.ownsRow_nil _ _ _ _, by have := k5.out.size; simp; omega⟩
        exact .inr ⟨v4, _, _, _, _, _, _, by decide, (h5.out.keep (below_one w5 _)).grown hP5 hg7.out hTl.out, (k5.out.trans (ChP.of_below (below_one w5 _))).grown hg7.out (fun k e => by cases e), fun lv hlv => .bad (hst1.out (by first | exact rfl | exact trivial) lv hl'.out)⟩
  case rest =>
    clear hst0 hst1 hst2 hrm
    replace hcut := Lib.hid hcut
    go_wp2
    go_loopw [5] (fun a wr => RelBr w B T A n c l v ns g i cl inG a wr) (fun _ wr => leftP n T wr)
    case atStart => exact hcut.out
    case round =>
      clear hcut hb1 hh
      rcases hrel with ⟨v2, ns2, g2, i2, cl2, ps2, h2, k2, p2, q1, q2, q3, q4, q5, q6⟩ | ⟨v2, ns2, g2, i2, cl2, pp, ee, he, h2, k2, q6⟩
      · have c15 := h2.c15
        have c3 := h2.c3
        have hle2 := h2.le
        obtain ⟨Ap, kp, rfl, -, -, -, -⟩ := p2.slice
        have hP := Lib.hid (fun w3 (hb : Below wr.heap.size wr w3) => h2.keep hb)
        have hEn := Lib.hid (ends_any h2)
        have hTW := hTl.out
        have hkeep := Lib.hid (fun (w3 : World) (hb : Below wr.heap.size wr w3) (y : Ending) (w5 : World) (hy : YNode true w3 B T A n c l v2 ns2 g2 i2 cl2 inG y w5) => show Pcs w.heap.size w5 (.slice Ap ps2.length kp) ps2 from by
          rcases hy with ⟨x, v', ns', g', i', cl', h1, h2', h3, h4, h5⟩ | ⟨v', ns', g', i', cl', p, q, h1, h2', h3, h4, h5⟩
          · exact (p2.below hb).chp (h2.keep hb) h4 hTW
          · exact (p2.below hb).chp (h2.keep hb) h4 hTW)
        have hcon := Lib.hid (fun (w3 : World) (hb : Below wr.heap.size wr w3) (z : Int) (w5 : World) (hy : YNode true w3 B T A n c l v2 ns2 g2 i2 cl2 inG (.returned (.int .i64 z)) w5) (v7 : Value) (w7 : World) (hpc : Pcs w.heap.size w5 (.slice Ap ps2.length kp) ps2)
          (ho : w7.ownsRow w.heap.size 3 1 v7 (ps2.length + 1) (ps2.map (Value.int .i64) ++ [.int .i64 z])) (hg : (w5.alloc (.cells #[.int .i64 z] 3)).grownBy w7 (Value.slice Ap ps2.length kp).ownBlock) => show RelBr w B T A n c l v ns g i cl inG v7 w7 ∧ leftP n T w7 < leftP n T wr from by
          have hpa := hpc.below (below_one w5 z)
          rcases hy with ⟨x, v', ns', g', i', cl', e1, ok', h3, h4, r1, r2, r3, r4⟩ | ⟨v', ns', g', i', cl', p, q, hq, e1, h3, h4, r4⟩
          · obtain rfl : z = x := by simpa using e1
            have h7 := (h3.keep (below_one w5 z)).grown hpa hg hTW
            refine ⟨.inl ⟨v', ns', g', i', cl', ps2 ++ [z], h7, (((k2.trans (ChP.of_below hb)).trans h4).trans (ChP.of_below (below_one w5 z))).grown hg hpc.lt, hpa.more ho hg.size, fun y hy => ?_, by omega, by omega, by omega, by rw [List.length_append, List.length_singleton]; omega, fun lv hlv => (q6 lv hlv).trans (r4 ps2 lv hlv)⟩, by rw [h7.left, h2.left]; omega⟩
            rcases List.mem_append.1 hy with hy | hy
            · exact okP_more (q1 y hy) (by omega)
            · simp only [List.mem_singleton] at hy; subst hy; exact ok'
          · have h7 := (h3.keep (below_one w5 z)).grown hpa hg hTW
            exact ⟨.inr ⟨v', ns', g', i', cl', p, q, hq, h7, (((k2.trans (ChP.of_below hb)).trans h4).trans (ChP.of_below (below_one w5 z))).grown hg hpc.lt, fun lv hlv => (q6 lv hlv).ends (r4 ps2 lv hlv)⟩, by rw [h7.left0 hq, h2.left]; omega⟩)
        have hPc := Lib.hid (fun (hi : i2 < n) (hc : inG = true → bg [92, 41] (l.drop i2) = false) (w3 : World) (hb : Below wr.heap.size wr w3) => piece_any (inG := inG) (h2.keep hb) hi hc (fun k hk => hB'.out k (by omega)))
        have hbase := p2.base
        have q3' := q3
        have q4' := q4
        have hnl := h2.hn
        by_cases hin : i2 = n
        · rw [decide_eq_true hin] at hEn
          cases inG with
          | true =>
            have hst := Lib.hid (fun (lv : List (Nat × List Int)) (hlv : lv.isEmpty = !true) => (q6 lv hlv).ends (.bad (step_open_end (g := g2) (cl := cl2) (ns := ns2) (ps := ps2) hlv (by omega))))
            replace k2 := Lib.hid k2
            have hE2 := Lib.hid (fun w3 (hb : Below wr.heap.size wr w3) => ends_any (hP.out w3 hb))
            rw [decide_eq_true hin] at hE2
            replace hin := Lib.hid hin
            clear h2 p2 q1 q2 q6 hPc hcon hkeep hnl
            go_wp2_with (first
              | (go_at_call 17; (with_reducible refine (hEn.out).mono ?_); rintro y w3 ⟨rfl, hb3⟩; have c15b := (hP.out _ hb3).c15; have c3b := (hP.out _ hb3).c3; replace hb3 := Lib.hid hb3)
              | (go_at_call 17; (with_reducible refine (hE2.out _ hb3.out).mono ?_); rintro y w4 ⟨rfl, hb4⟩; replace hb4 := hb3.out.trans (hb4.mono hb3.out.size); have c3c := (hP.out _ hb4).c3; replace hb4 := Lib.hid hb4)
              | (go_at_call 19; refine (wrong_at (hP.out _ hb4.out) i2 14 (i2 : Int) 14 rfl rfl).mono ?_; intro y w5 hy; obtain ⟨v5, ns5, g5, i5, cl5, rfl, h5, k5⟩ := hy; replace h5 := Lib.hid h5; replace k5 := Lib.hid ((k2.out.trans (ChP.of_below hb4.out)).trans k5)))
            go_ret
            exact .inr ⟨v5, ns5, g5, i5, cl5, i2, 14, by decide, rfl, h5.out, k5.out, hst.out⟩
          | false =>
            have hends : if false then bg [92, 41] (l.drop i2) = true else i2 = l.length := by simp; omega
            have hends2 := Lib.hid (show if (false : Bool) then bg [92, 41] (l.drop i2) = true else i2 = n by simp; exact hin)
            replace hin := Lib.hid hin
            replace hnl := Lib.hid hnl
            cases hcs : catS ns2 ps2 with
            | none =>
              have hC := Lib.hid (fun w4 hb4 => bcat_none (hP.out w4 hb4) (p2.below hb4) hTW q1 hcs)
              have hst := Lib.hid (fun (lv : List (Nat × List Int)) (hlv : lv.isEmpty = !false) => (q6 lv hlv).ends (.bad (step_cat_full (g := g2) (cl := cl2) hlv hends hcs)))
              replace k2 := Lib.hid k2
              clear h2 p2 q1 q2 q3 q4 q6 hPc hcon hkeep hcs hends
              go_wp2_with (first
                | (go_at_call 17; refine (hEn.out).mono ?_; rintro y w3 ⟨rfl, hb3⟩; have c15b := (hP.out _ hb3).c15; have c3b := (hP.out _ hb3).c3; have hbL := Lib.hid hb3)
                | (go_at_call 20; refine (hC.out _ hbL.out).mono ?_; rintro y w5 ⟨v5, ns5, rfl, h5, k5⟩; replace h5 := Lib.hid h5; replace k5 := Lib.hid ((k2.out.trans (ChP.of_below hbL.out)).trans k5))
                | (go_at_call 15; refine (put_no h5.out).mono ?_; rintro y w6 ⟨rfl, h6, k6⟩; replace h6 := Lib.hid h6; replace k6 := Lib.hid (k5.out.trans k6)))
              go_ret
              exact .inr ⟨v5, ns5, g2, i2, cl2, i2, 8, by decide, rfl, h6.out, k6.out, hst.out⟩
            | some rr =>
              obtain ⟨x, ns'⟩ := rr
              have hup := catS_up q1 hcs
              obtain ⟨y, rfl⟩ : ∃ y : Nat, x = (y : Int) := ⟨x.toNat, by have := (okP_pos hup.2.1); omega⟩
              have hC := Lib.hid (fun w4 hb4 => bcat_some (hP.out w4 hb4) (p2.below hb4) hTW q1 hcs)
              have hst := Lib.hid (show ns.length ≤ ns'.length ∧ okP (ns'.length : Int) (y : Int) = true from ⟨by omega, hup.2.1⟩)
              replace q6 := Lib.hid q6
              replace hcs := Lib.hid hcs
              replace hends := Lib.hid hends
              replace k2 := Lib.hid k2
              clear h2 p2 q1 q2 hPc hcon hkeep hup
              go_wp2_with (first
                | (go_at_call 17; refine (hEn.out).mono ?_; rintro y w3 ⟨rfl, hb3⟩; have c15b := (hP.out _ hb3).c15; have c3b := (hP.out _ hb3).c3; have hbL := Lib.hid hb3)
                | (go_at_call 20; refine (hC.out _ hbL.out).mono ?_; rintro z w5 ⟨v5, rfl, h5, k5⟩; replace h5 := Lib.hid h5; replace k5 := Lib.hid ((k2.out.trans (ChP.of_below hbL.out)).trans k5))
                | (go_at_call 15; refine (put_yes T y _).mono ?_; rintro z w6 ⟨rfl, rfl⟩))
              go_ret
              exact .inl ⟨(y : Int), v5, ns', g2, i2, cl2, ns2, ps2, rfl, hst.out.2, h5.out, k5.out, hst.out.1, q3', q4', hcs.out, hends2.out, q6.out⟩
        · rw [decide_eq_false hin] at hEn
          have hlt : i2 < n := by omega
          cases inG with
          | false =>
            replace hPc := Lib.hid (hPc.out hlt (fun h => by cases h))
            clear h2 k2 p2 q1 q2 q3 q4 q6
            go_wp2_with (first
              | (go_at_call 17; refine (hEn.out).mono ?_; rintro y w3 ⟨rfl, hb3⟩; replace hb3 := Lib.hid hb3)
              | (go_at_call 18; refine (hPc.out _ hb3.out).mono ?_; intro y w5 hy; obtain ⟨z, rfl, hy⟩ := hy.ret; have hq := Lib.hid (hcon.out _ hb3.out _ _ hy); replace hy := Lib.hid hy; have hpc5 := Lib.hid (hkeep.out _ hb3.out _ _ hy.out))
              | (at_builtin; refine wpList_append_at rfl _ _ 55 rfl w.heap.size 3 i0 (.int .i64 0) 1 8 Tryz.underlying55 hi0 hz0 hz1.out hz2.out rfl (by decide) (.slice Ap ps2.length kp) ps2.length (ps2.map (Value.int .i64)) rfl (own_below hpc5.out.own (below_one w5 z)) (some ⟨w5.heap.size, 0, none⟩) 1 1 [.int .i64 z] rfl rfl (src_int w5 z) (one_int z) (by unfold maxLen; omega) (by omega) (by have := hpc5.out.base; simp; omega) ?_; intro v7 w7 hown7 hg7 _; replace hown7 := Lib.hid hown7; replace hg7 := Lib.hid hg7))
            have hfin := Lib.hid (hq.out _ _ hpc5.out hown7.out hg7.out)
            go_roundw
            case rel => exact hfin.out.1
            case measure => exact hfin.out.2
          | true =>
            cases hbb : bg [92, 41] (l.drop i2) with
            | true =>
              have hCm := Lib.hid (fun w3 (hb : Below wr.heap.size wr w3) => comes_is (hP.out w3 hb) ⟨#[92, 41]⟩ true hbb)
              have hE2 := Lib.hid (fun w3 (hb : Below wr.heap.size wr w3) => ends_any (hP.out w3 hb))
              rw [decide_eq_false hin] at hE2
              have hends : if true then bg [92, 41] (l.drop i2) = true else i2 = l.length := by simpa using hbb
              have hends2 := Lib.hid (show if true then bg [92, 41] (l.drop i2) = true else i2 = n by simpa using hbb)
              clear hbb
              cases hcs : catS ns2 ps2 with
              | none =>
                have hC := Lib.hid (fun w4 hb4 => bcat_none (hP.out w4 hb4) (p2.below hb4) hTW q1 hcs)
                have hst := Lib.hid (fun (lv : List (Nat × List Int)) (hlv : lv.isEmpty = !true) => (q6 lv hlv).ends (.bad (step_cat_full (g := g2) (cl := cl2) hlv hends hcs)))
                replace k2 := Lib.hid k2
                clear h2 p2 q1 q2 q3 q4 q6 hPc hcon hkeep hcs hends
                go_wp2_with (first
                  | (go_at_call 17; (with_reducible refine (hEn.out).mono ?_); rintro y w3 ⟨rfl, hb3⟩; replace hb3 := Lib.hid hb3)
                  | (go_at_call 14; (with_reducible refine (hCm.out _ hb3.out).mono ?_); rintro y w4 ⟨rfl, hb4⟩; replace hb4 := hb3.out.trans (hb4.mono hb3.out.size); have c15b := (hP.out _ hb4).c15; replace hb4 := Lib.hid hb4)
                  | (go_at_call 17; (with_reducible refine (hE2.out _ hb4.out).mono ?_); rintro y w8 ⟨rfl, hb8⟩; replace hb8 := hb4.out.trans (hb8.mono hb4.out.size); have hbL := Lib.hid hb8)
                  | (go_at_call 20; refine (hC.out _ hbL.out).mono ?_; rintro y w5 ⟨v5, ns5, rfl, h5, k5⟩; replace h5 := Lib.hid h5; replace k5 := Lib.hid ((k2.out.trans (ChP.of_below hbL.out)).trans k5))
                  | (go_at_call 15; refine (put_no h5.out).mono ?_; rintro y w6 ⟨rfl, h6, k6⟩; replace h6 := Lib.hid h6; replace k6 := Lib.hid (k5.out.trans k6)))
                go_ret
                exact .inr ⟨v5, ns5, g2, i2, cl2, i2, 8, by decide, rfl, h6.out, k6.out, hst.out⟩
              | some rr =>
                obtain ⟨x, ns'⟩ := rr
                have hup := catS_up q1 hcs
                obtain ⟨y, rfl⟩ : ∃ y : Nat, x = (y : Int) := ⟨x.toNat, by have := (okP_pos hup.2.1); omega⟩
                have hC := Lib.hid (fun w4 hb4 => bcat_some (hP.out w4 hb4) (p2.below hb4) hTW q1 hcs)
                have hst := Lib.hid (show ns.length ≤ ns'.length ∧ okP (ns'.length : Int) (y : Int) = true from ⟨by omega, hup.2.1⟩)
                replace q6 := Lib.hid q6
                replace hcs := Lib.hid hcs
                replace hends := Lib.hid hends
                replace k2 := Lib.hid k2
                clear h2 p2 q1 q2 hPc hcon hkeep hup
                go_wp2_with (first
                  | (go_at_call 17; (with_reducible refine (hEn.out).mono ?_); rintro y w3 ⟨rfl, hb3⟩; replace hb3 := Lib.hid hb3)
                  | (go_at_call 14; (with_reducible refine (hCm.out _ hb3.out).mono ?_); rintro y w4 ⟨rfl, hb4⟩; replace hb4 := hb3.out.trans (hb4.mono hb3.out.size); have c15b := (hP.out _ hb4).c15; replace hb4 := Lib.hid hb4)
                  | (go_at_call 17; (with_reducible refine (hE2.out _ hb4.out).mono ?_); rintro y w8 ⟨rfl, hb8⟩; replace hb8 := hb4.out.trans (hb8.mono hb4.out.size); have hbL := Lib.hid hb8)
                  | (go_at_call 20; refine (hC.out _ hbL.out).mono ?_; rintro z w5 ⟨v5, rfl, h5, k5⟩; replace h5 := Lib.hid h5; replace k5 := Lib.hid ((k2.out.trans (ChP.of_below hbL.out)).trans k5))
                  | (go_at_call 15; refine (put_yes T y _).mono ?_; rintro z w6 ⟨rfl, rfl⟩))
                go_ret
                exact .inl ⟨(y : Int), v5, ns', g2, i2, cl2, ns2, ps2, rfl, hst.out.2, h5.out, k5.out, hst.out.1, q3', q4', hcs.out, hends2.out, q6.out⟩
            | false =>
              have hCm := Lib.hid (fun w3 (hb : Below wr.heap.size wr w3) => comes_is (hP.out w3 hb) ⟨#[92, 41]⟩ false hbb)
              replace hPc := Lib.hid (hPc.out hlt (fun _ => hbb))
              clear h2 k2 p2 q1 q2 q3 q4 q6 hbb
              go_wp2_with (first
              | (go_at_call 17; (with_reducible refine (hEn.out).mono ?_); rintro y w3 ⟨rfl, hb3⟩; replace hb3 := Lib.hid hb3)
              | (go_at_call 14; (with_reducible refine (hCm.out _ hb3.out).mono ?_); rintro y w4 ⟨rfl, hb4⟩; replace hb4 := Lib.hid (hb3.out.trans (hb4.mono hb3.out.size)))
                | (go_at_call 18; refine (hPc.out _ hb4.out).mono ?_; intro y w5 hy; obtain ⟨z, rfl, hy⟩ := hy.ret; have hq := Lib.hid (hcon.out _ hb4.out _ _ hy); replace hy := Lib.hid hy; have hpc5 := Lib.hid (hkeep.out _ hb4.out _ _ hy.out))
              | (at_builtin; refine wpList_append_at rfl _ _ 55 rfl w.heap.size 3 i0 (.int .i64 0) 1 8 Tryz.underlying55 hi0 hz0 hz1.out hz2.out rfl (by decide) (.slice Ap ps2.length kp) ps2.length (ps2.map (Value.int .i64)) rfl (own_below hpc5.out.own (below_one w5 z)) (some ⟨w5.heap.size, 0, none⟩) 1 1 [.int .i64 z] rfl rfl (src_int w5 z) (one_int z) (by unfold maxLen; omega) (by omega) (by have := hpc5.out.base; simp; omega) ?_; intro v7 w7 hown7 hg7 _; replace hown7 := Lib.hid hown7; replace hg7 := Lib.hid hg7))
              have hfin := Lib.hid (hq.out _ _ hpc5.out hown7.out hg7.out)
              go_roundw
              case rel => exact hfin.out.1
              case measure => exact hfin.out.2
      · have c15 := h2.c15
        have heb : ((ee : Int) == 0) = false := by rw [beq_eq_false_iff_ne]; omega
        have heb2 : ((ee : Int) != 0) = true := by rw [bne_iff_ne]; omega
        have hfin := Lib.hid (show YBranch w B T A n c l v ns g i cl inG (.returned (.int .i64 (-1))) wr from .inr ⟨v2, ns2, g2, i2, cl2, pp, ee, he, rfl, h2, k2, q6⟩)
        clear h2 k2 q6 he
        go_wp2
        go_ret
        exact hfin.out
end
theorem br_all : ∀ k, BrOK k := by
  intro k
  induction k using Nat.strongRecOn with
  | ind k ih =>
    intro inG w B T A n c l v ns g i cl h hk
    exact branch_any h fun k' hk' => ih k' (by omega)
end Go.Proofs.YtcloimdndcbchaaGreat
