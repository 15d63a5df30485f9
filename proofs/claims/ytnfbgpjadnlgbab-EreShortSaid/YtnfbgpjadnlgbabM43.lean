/- Numbers of pieces in a slice of the call's own; contracts of the parser: Branch, New, Told. -/
import Derived.Test.YtnfbgpjadnlgbabM42
import Derived.Test.YtnfbgpjadnlgbabM17
import Derived.Test.YtnfbgpjadnlgbabM10
import Derived.Deep.CutRange
import Derived.Deep.CutBlock
set_option linter.unusedVariables false
set_option maxRecDepth 100000
namespace Go.Proofs.Ytnfbgpjadnlgbab
open Go.RowKit

theorem own_apart {w : World} {b1 b2 : Nat} {e1 e2 : TypeId} {s1 s2 n1 n2 : Nat} {v1 v2 : Value} {x1 x2 : List Value} (h1 : w.ownsRow b1 e1 s1 v1 n1 x1) (h2 : w.ownsRow b2 e2 s2 v2 n2 x2) (hne : e1 ≠ e2) : v1.ownBlock = none ∨ v1.ownBlock ≠ v2.ownBlock := by
  rcases h1.2 with ⟨rfl, _⟩ | ⟨k, cap, cur, rfl, _, hh, _⟩
  · exact .inl rfl
  · refine .inr fun e => ?_
    have hk : Held w k e1 cur := hh
    exact hk.not_own h2 (fun e => hne e.symm) (by rw [← e]; rfl)
/-- The numbers of the pieces, in a slice of the call's own. -/
structure Pcs (W : Nat) (w : World) (pv : Value) (ps : List Int) : Prop where
  own : w.ownsRow W 3 1 pv ps.length (ps.map (Value.int .i64))
  base : W ≤ w.heap.size
section
variable {w w' w0 : World} {B T W : Nat} {A : Option Addr} {n c : Nat} {l : List UInt8} {v v' v0 pv : Value} {ns : List Nod} {g i : Nat} {cl : Nat → Bool} {e : Nat} {ps : List Int}
theorem Pcs.nil_ (w : World) : Pcs w.heap.size w (.slice none 0 0) [] := ⟨World.ownsRow_nil _ _ _ _, Nat.le_refl _⟩
theorem Pcs.chp (h : Pcs W w pv ps) (hp : Psr w B T A n c l v ns g i cl e) (k : ChP w w' T v v') (hT : T < W) : Pcs W w' pv ps := by
  refine ⟨?_, Nat.le_trans h.base k.size⟩
  rcases h.own.2 with ⟨rfl, e1⟩ | ⟨q, cap, cur, rfl, hb, hh, r⟩
  · exact ⟨h.own.1, .inl ⟨rfl, e1⟩⟩
  · refine ⟨h.own.1, .inr ⟨q, cap, cur, rfl, hb, ?_, r⟩⟩
    have hk : Held w q 3 cur := hh
    exact (k.far q hk.lt (by omega) (fun e => hk.not_own hp.own (by decide) e.symm)).trans hh
theorem Pcs.below (h : Pcs W w pv ps) (hb : Below w.heap.size w w') : Pcs W w' pv ps := ⟨own_below h.own hb, Nat.le_trans h.base hb.size⟩
theorem Pcs.lt (h : Pcs W w pv ps) : ∀ k, pv.ownBlock = some k → W ≤ k := fun k e => (h.own.lt k e).1
/-- Where a slice of the call's own grows. -/
theorem Psr.grown (h : Psr w B T A n c l v ns g i cl e) (hp : Pcs W w pv ps) (hg : w.grownBy w' pv.ownBlock) (hT : T < W) : Psr w' B T A n c l v ns g i cl e := by
  have hB : Below B w w' := ⟨hg.os, hg.tape, hg.output, hg.size, fun k hk => hg.block k (Nat.lt_of_lt_of_le hk h.bhs) (fun e => by have := hp.lt k e.symm; have := h.base; omega)⟩
  refine ⟨h.held.grown hg (fun e => by have := hp.lt T e.symm; omega), h.own.kept hg ?_, h.len, h.grp, h.base, h.le, h.clg, h.txt.below hB⟩
  rcases own_apart hp.own h.own (by decide) with e1 | e1
  · rw [e1]
    cases hv : v.ownBlock with
    | none => exact .inl rfl
    | some k => exact .inr (by simp)
  · exact .inr fun e => e1 e.symm
theorem ChP.grown (h : ChP w0 w T v0 v) (hg : w.grownBy w' pv.ownBlock) (hp : ∀ k, pv.ownBlock = some k → w0.heap.size ≤ k) : ChP w0 w' T v0 v :=
  ⟨hg.os.trans h.os, hg.tape.trans h.tape, hg.output.trans h.output, Nat.le_trans h.size hg.size, fun k hk h1 h2 => (hg.block k (Nat.lt_of_lt_of_le hk h.size) (fun e => by have := hp k e.symm; omega)).trans (h.far k hk h1 h2), h.row⟩
/-- The slice of the pieces, as Cat wants it. -/
theorem Pcs.slice (h : Pcs W w pv ps) : ∃ A k, pv = .slice A ps.length k ∧ ps.length ≤ k ∧ k ≤ 9223372036854775807 ∧ Vals w w.heap.size A (ps.map (Value.int .i64)) ∧ ∀ ad, A = some ad → W ≤ ad.block ∧ pv.ownBlock = some ad.block := by
  have hl := h.own.1
  obtain ⟨-, ⟨rfl, e1⟩ | ⟨q, cap, cur, rfl, hb, hh, hnc, hcm, r⟩⟩ := id h.own
  · have : ps = [] := List.length_eq_zero_iff.1 e1
    subst this
    exact ⟨none, 0, rfl, Nat.le_refl _, by omega, Vals.none_ _ _ _, fun ad e => by cases e⟩
  · unfold maxLen at hcm
    refine ⟨some ⟨q, 0, none⟩, cap, rfl, hnc, by omega, fun k hk => ⟨_, rfl, (h.own.lt q rfl).2, ?_⟩, fun ad e => by cases e; exact ⟨hb, rfl⟩⟩
    rw [List.length_map] at hk
    rw [add_zero_off, h.own.cellAt k (by omega), List.getElem?_eq_getElem (by rw [List.length_map]; exact hk)]
theorem Pcs.apart (h : Pcs W w pv ps) (hp : Psr w B T A n c l v ns g i cl e) (hT : T < W) {A' : Option Addr} (hA : ∀ ad, A' = some ad → W ≤ ad.block ∧ pv.ownBlock = some ad.block) : Apart A' T v := fun ad e1 => by
  obtain ⟨h1, h2⟩ := hA ad e1
  refine ⟨by omega, fun e2 => ?_⟩
  rcases own_apart h.own hp.own (by decide) with e3 | e3
  · rw [h2] at e3; cases e3
  · exact e3 (by rw [h2, e2])
end

theorem ints_info : (Try.prog.info? 3).map (fun i => (i.zero, i.size, i.bytes)) = some (some (.int .i64 0), 1, 8) := by kernel_rfl
theorem src_int (w : World) (x : Int) : Src (w.alloc (.cells #[.int .i64 x] 3)) (some ⟨w.heap.size, 0, none⟩) [.int .i64 x] := src_new w [.int .i64 x] 3
theorem one_int (x : Int) : ∀ u ∈ [Value.int .i64 x], u.oneCell' = true := by simp [Value.oneCell']
section
variable {w : World} {B T : Nat} {A : Option Addr} {n c : Nat} {l : List UInt8} {v : Value} {ns : List Nod} {g i : Nat} {cl : Nat → Bool} {inG : Bool}
theorem okP_pos {t p : Int} (h : okP t p = true) : 0 ≤ p := by simp [okP] at h; omega
theorem below_one (w : World) (x : Int) : Below w.heap.size w (w.alloc (.cells #[.int .i64 x] 3)) := (Below.refl _ _).alloc (Nat.le_refl _) _
/-- Behind an append to the pieces. -/
theorem Pcs.more {W : Nat} {w w' : World} {pv pv' : Value} {ps : List Int} {x : Int} (h : Pcs W w pv ps) (ho : w'.ownsRow W 3 1 pv' (ps.length + 1) (ps.map (Value.int .i64) ++ [.int .i64 x])) (hg : w.heap.size ≤ w'.heap.size) : Pcs W w' pv' (ps ++ [x]) :=
  ⟨by rw [List.length_append, List.map_append]; exact ho, Nat.le_trans h.base hg⟩
theorem Pcs.slice' {W : Nat} {w : World} {A' : Option Addr} {m k : Nat} {ps : List Int} (h : Pcs W w (.slice A' m k) ps) : m = ps.length ∧ m ≤ k ∧ k ≤ 9223372036854775807 ∧ Vals w w.heap.size A' (ps.map (Value.int .i64)) ∧ ∀ ad, A' = some ad → W ≤ ad.block ∧ (Value.slice A' m k).ownBlock = some ad.block := by
  obtain ⟨A2, k2, e, h1, h2, h3, h4⟩ := h.slice
  injection e with e1 e2 e3
  subst e1
  subst e3
  exact ⟨e2, by omega, h2, h3, h4⟩
variable (h : Psr w B T A n c l v ns g i cl 0)
include h
theorem bcat_none {W m k : Nat} {Ap : Option Addr} {ps : List Int} (hp : Pcs W w (.slice Ap m k) ps) (hT : T < W) (hok : ∀ p ∈ ps, okP (ns.length : Int) p = true) (hc : catS ns ps = none) :
    Calls Try.prog 38 #[.pointer (some ⟨T, 0, none⟩), .slice Ap m k] w fun e w' => ∃ v' ns', e = .returned (.int .i64 (-1)) ∧ Psr w' B T A n c l v' ns' g i cl 0 ∧ ChP w w' T v v' := by
  obtain ⟨h1, h2, h3, h4, h5⟩ := hp.slice'
  refine (cat_any B T 0 v ns g Ap m k w.heap.size ps w h.bldr h1 h2 h3 h4 (Nat.le_refl _) (hp.apart h hT h5)).mono fun e w' ⟨v', e1, hb, hg⟩ => ⟨v', _, ?_, h.built (Nat.le_refl _) hb hg, hg.chp⟩
  rw [e1, catR_none hok hc]
theorem bcat_some {W m k : Nat} {Ap : Option Addr} {ps : List Int} (hp : Pcs W w (.slice Ap m k) ps) (hT : T < W) (hok : ∀ p ∈ ps, okP (ns.length : Int) p = true) {x : Int} {ns' : List Nod} (hc : catS ns ps = some (x, ns')) :
    Calls Try.prog 38 #[.pointer (some ⟨T, 0, none⟩), .slice Ap m k] w fun e w' => ∃ v', e = .returned (.int .i64 x) ∧ Psr w' B T A n c l v' ns' g i cl 0 ∧ ChP w w' T v v' := by
  obtain ⟨h1, h2, h3, h4, h5⟩ := hp.slice'
  refine (cat_any B T 0 v ns g Ap m k w.heap.size ps w h.bldr h1 h2 h3 h4 (Nat.le_refl _) (hp.apart h hT h5)).mono fun e w' ⟨v', e1, hb, hg⟩ => ?_
  rw [catR_some hok hc] at e1 hb
  exact ⟨v', e1, h.built (Nat.le_refl _) hb hg, hg.chp⟩
theorem abranch_open (hi : i = n) (Ap : Option Addr) (m k : Nat) :
    Calls Try.prog 27 #[.pointer (some ⟨T, 0, none⟩), .bool true, .slice Ap m k] w (YBad w B T A n c l v i 14) := by
  have hF := Lib.hid (fine_any h)
  have hE := Lib.hid (ends_any h)
  rw [decide_eq_true hi] at hE
  have hW := Lib.hid (fun w1 (hb : Below w.heap.size w w1) => wrong_at (h.keep hb) 14 14 rfl)
  clear h hi
  go_enter Try.func27, Try.ntmps27
  go_wp2_with (first
    | (go_at_call 13; refine (hF.out).mono ?_; rintro e w1 ⟨rfl, rfl⟩)
    | (go_at_call 9; refine (hE.out).mono ?_; rintro e w2 ⟨rfl, hb2⟩; replace hb2 := Lib.hid hb2)
    | (go_at_call 25; refine (hW.out _ hb2.out).mono ?_; intro x w3 hy; obtain ⟨rfl, hy⟩ := hy.ret; replace hy := Lib.hid (hy.from (ChP.of_below hb2.out))))
  go_ret
  exact hy.out
set_option maxHeartbeats 2000000 in
theorem abranch_none {W m k : Nat} {Ap : Option Addr} {ps : List Int} (hp : Pcs W w (.slice Ap m k) ps) (hT : T < W) (hok : ∀ p ∈ ps, okP (ns.length : Int) p = true) (hc : catS ns ps = none) (inG : Bool) (hi : inG = true → i ≠ n) :
    Calls Try.prog 27 #[.pointer (some ⟨T, 0, none⟩), .bool inG, .slice Ap m k] w (YBad w B T A n c l v i 8) := by
  have hF := Lib.hid (fine_any h)
  have hE := Lib.hid (ends_any h)
  have hC := Lib.hid (fun w1 (hb : Below w.heap.size w w1) => bcat_none (h.keep hb) (hp.below hb) hT hok hc)
  have hb0 := Lib.hid (Below.refl w.heap.size w)
  cases inG with
  | false =>
    clear h hi hp hc hok
    go_enter Try.func27, Try.ntmps27
    go_wp2_with (first
      | (go_at_call 13; refine (hF.out).mono ?_; rintro e w1 ⟨rfl, rfl⟩)
      | (go_at_call 38; refine (hC.out _ hb0.out).mono ?_; rintro y w5 ⟨v5, ns5, rfl, h5, k5⟩; replace h5 := Lib.hid h5; replace k5 := Lib.hid k5)
      | (go_at_call 18; refine (put_no h5.out).mono ?_; rintro y w6 ⟨rfl, h6, k6⟩; replace h6 := Lib.hid h6; replace k6 := Lib.hid (k5.out.trans k6)))
    go_ret
    exact ⟨v5, ns5, _, _, rfl, h6.out, k6.out⟩
  | true =>
    rw [decide_eq_false (hi rfl)] at hE
    clear h hi hp hc hok
    go_enter Try.func27, Try.ntmps27
    go_wp2_with (first
      | (go_at_call 13; refine (hF.out).mono ?_; rintro e w1 ⟨rfl, rfl⟩)
      | (go_at_call 9; refine (hE.out).mono ?_; rintro e w2 ⟨rfl, hb2⟩; replace hb2 := Lib.hid hb2)
      | (go_at_call 38; refine (hC.out _ hb2.out).mono ?_; rintro y w5 ⟨v5, ns5, rfl, h5, k5⟩; replace h5 := Lib.hid h5; replace k5 := Lib.hid ((ChP.of_below hb2.out).trans k5))
      | (go_at_call 18; refine (put_no h5.out).mono ?_; rintro y w6 ⟨rfl, h6, k6⟩; replace h6 := Lib.hid h6; replace k6 := Lib.hid (k5.out.trans k6)))
    go_ret
    exact ⟨v5, ns5, _, _, rfl, h6.out, k6.out⟩
set_option maxHeartbeats 2000000 in
theorem abranch_some {W m k : Nat} {Ap : Option Addr} {ps : List Int} (hp : Pcs W w (.slice Ap m k) ps) (hT : T < W) (hok : ∀ p ∈ ps, okP (ns.length : Int) p = true) {x : Int} {ns' : List Nod} (hc : catS ns ps = some (x, ns')) (inG : Bool) (hi : inG = true → i ≠ n) :
    Calls Try.prog 27 #[.pointer (some ⟨T, 0, none⟩), .bool inG, .slice Ap m k] w fun e w' => ∃ v', e = .returned (.int .i64 x) ∧ Psr w' B T A n c l v' ns' g i cl 0 ∧ ChP w w' T v v' := by
  have hF := Lib.hid (fine_any h)
  have hE := Lib.hid (ends_any h)
  have hup := catS_up hok hc
  obtain ⟨y, rfl⟩ : ∃ y : Nat, x = (y : Int) := ⟨x.toNat, by have := (okP_pos hup.2.1); omega⟩
  have hC := Lib.hid (fun w1 (hb : Below w.heap.size w w1) => bcat_some (h.keep hb) (hp.below hb) hT hok hc)
  have hb0 := Lib.hid (Below.refl w.heap.size w)
  cases inG with
  | false =>
    clear h hi hp hc hok hup
    go_enter Try.func27, Try.ntmps27
    go_wp2_with (first
      | (go_at_call 13; refine (hF.out).mono ?_; rintro e w1 ⟨rfl, rfl⟩)
      | (go_at_call 38; refine (hC.out _ hb0.out).mono ?_; rintro z w5 ⟨v5, rfl, h5, k5⟩; replace h5 := Lib.hid h5; replace k5 := Lib.hid k5)
      | (go_at_call 18; refine (put_yes T y _).mono ?_; rintro z w6 ⟨rfl, rfl⟩))
    go_ret
    exact ⟨v5, rfl, h5.out, k5.out⟩
  | true =>
    rw [decide_eq_false (hi rfl)] at hE
    clear h hi hp hc hok hup
    go_enter Try.func27, Try.ntmps27
    go_wp2_with (first
      | (go_at_call 13; refine (hF.out).mono ?_; rintro e w1 ⟨rfl, rfl⟩)
      | (go_at_call 9; refine (hE.out).mono ?_; rintro e w2 ⟨rfl, hb2⟩; replace hb2 := Lib.hid hb2)
      | (go_at_call 38; refine (hC.out _ hb2.out).mono ?_; rintro z w5 ⟨v5, rfl, h5, k5⟩; replace h5 := Lib.hid h5; replace k5 := Lib.hid ((ChP.of_below hb2.out).trans k5))
      | (go_at_call 18; refine (put_yes T y _).mono ?_; rintro z w6 ⟨rfl, rfl⟩))
    go_ret
    exact ⟨v5, rfl, h5.out, k5.out⟩
end
theorem abranch_bad {w : World} {B T : Nat} {A : Option Addr} {n c : Nat} {l : List UInt8} {v : Value} {ns : List Nod} {g i : Nat} {cl : Nat → Bool} {e : Nat} (h : Psr w B T A n c l v ns g i cl e) (he : e ≠ 0) (b : Bool) (pv : Value) :
    Calls Try.prog 27 #[.pointer (some ⟨T, 0, none⟩), .bool b, pv] w fun x w' => x = .returned (.int .i64 (-1)) ∧ w = w' := by
  have hF := Lib.hid (fine_any h)
  rw [decide_eq_false he] at hF
  clear h he
  go_enter Try.func27, Try.ntmps27
  go_wp2_with (go_at_call 13; refine (hF.out).mono ?_; rintro e w1 ⟨rfl, rfl⟩)
  go_ret
  exact ⟨rfl, rfl⟩

def noCl : Nat → Bool := fun _ => false
theorem new_any (A : Option Addr) (n c : Nat) (w : World) : Calls Try.prog 8 #[.slice A n c] w fun e w' => e = .returned (.agg (psrC (.slice none 0 0) 0 A n c 0 noCl 0)) ∧ Below w.heap.size w w' := by
  go_enter Try.func8, Try.ntmps8
  go_wp2
  exact bodyPost_ret (v := .agg (psrC (.slice none 0 0) 0 A n c 0 noCl 0)) (results_cell_row Try.results8 _ _ w.heap.size 43 (psrC (.slice none 0 0) 0 A n c 0 noCl 0) (0, 0) _ rfl (held_new w 43 _) Try.underlying43 rfl (by kernel_rfl)) rfl ⟨rfl, (Below.refl _ _).alloc (Nat.le_refl _) _⟩
section
variable {w : World} {B T : Nat} {A : Option Addr} {n c : Nat} {l : List UInt8} {v : Value} {ns : List Nod} {g i : Nat} {cl : Nat → Bool} {e : Nat}
set_option maxHeartbeats 8000000 in
theorem told_bad (h : Psr w B T A n c l v ns g i cl e) (he : e ≠ 0) (x : Int) :
    Calls Try.prog 10 #[.pointer (some ⟨T, 0, none⟩), .int .i64 x] w fun z w' => z = .returned (.tuple #[.agg #[.slice none 0 0, .int .i64 0], .int .i64 (i : Int), .int .i64 (e : Int)]) ∧ Below w.heap.size w w' := by
  have hb0 : Below w.heap.size w (w.alloc (.cells #[.slice none 0 0, .int .i64 0] 26)) := (Below.refl _ _).alloc (Nat.le_refl _) _
  have h0 := h.keep hb0
  have c3 := h0.c3
  have c14 := h0.c14
  have hTl := h.lt
  have hTn : T ≠ w.heap.size := by omega
  have hF := Lib.hid (fine_any h0)
  rw [decide_eq_false he] at hF
  have hR := Lib.hid (held_new w 26 #[.slice none 0 0, .int .i64 0])
  have hT2 := Lib.hid (show (w.alloc (.cells #[.slice none 0 0, .int .i64 0] 26)).drew.cell? ⟨T, 3, none⟩ = some (.int .i64 (i : Int)) ∧ (w.alloc (.cells #[.slice none 0 0, .int .i64 0] 26)).drew.cell? ⟨T, 14, none⟩ = some (.int .i64 (e : Int)) from ⟨c3, c14⟩)
  replace hb0 := Lib.hid hb0
  clear h h0 he
  go_enter Try.func10, Try.ntmps10
  go_wp2_with (go_at_call 13; refine (hF.out).mono ?_; rintro e w1 ⟨rfl, rfl⟩)
  go_region_held3 (fun w' => w'.cell? ⟨T, 3, none⟩ = some (.int .i64 (i : Int)) ∧ w'.cell? ⟨T, 14, none⟩ = some (.int .i64 (e : Int)))
    (first | with_reducible exact hT2.out | with_reducible exact ⟨cell_far2 hT2.out.1 hTn, cell_far2 hT2.out.2 hTn⟩ | go_keep)
    (fail)
  all_goals
    go_wp2
    exact bodyPost_ret (v := .tuple #[.agg #[.slice none 0 0, .int .i64 0], .int .i64 (i : Int), .int .i64 (e : Int)]) (results_cell_three Try.results10 _ _ w.heap.size 26 #[.slice none 0 0, .int .i64 0] (0, 0) _ rfl rfl rfl (by first | exact hR.out | exact ((hR.out.put 0 _).put 1 _)) Try.underlying26 rfl (by kernel_rfl)) rfl
      ⟨rfl, by first | exact hb0.out.drew | exact ((hb0.out.setCell (p := ⟨w.heap.size, 0, none⟩) (Nat.le_refl _) _).setCell (p := ⟨w.heap.size, 1, none⟩) (Nat.le_refl _) _).drew⟩
set_option maxHeartbeats 8000000 in
theorem told_ok (h : Psr w B T A n c l v ns g i cl 0) (hr : rightN ns (g : Int) = true) (h1 : 1 ≤ ns.length) (x : Int) (hx : x = (ns.length : Int) - 1) :
    Calls Try.prog 10 #[.pointer (some ⟨T, 0, none⟩), .int .i64 x] w fun z w' => ∃ v', z = .returned (.tuple #[.agg #[v', .int .i64 (g : Int)], .int .i64 0, .int .i64 0]) ∧ w'.ownsRow w.heap.size 34 10 v' ns.length (nodsL ns) ∧ Below w.heap.size w w' := by
  have hb0 : Below w.heap.size w (w.alloc (.cells #[.slice none 0 0, .int .i64 0] 26)) := (Below.refl _ _).alloc (Nat.le_refl _) _
  have h0 := h.keep hb0
  have hF := Lib.hid (fine_any h0)
  rw [decide_eq_true rfl] at hF
  have hR := Lib.hid (held_new w 26 #[.slice none 0 0, .int .i64 0])
  have hre := re_yes B T 0 v ns g (ns.length - 1) _ h0.bldr (by omega) (by rw [show ns.length - 1 + 1 = ns.length by omega, List.take_length]; exact hr)
  rw [show ns.length - 1 + 1 = ns.length by omega, List.take_length, show ((ns.length - 1 : Nat) : Int) = x by omega] at hre
  replace hre := Lib.hid hre
  replace hb0 := Lib.hid hb0
  clear h h0 hr hx
  go_enter Try.func10, Try.ntmps10
  go_wp2_with (first
    | (go_at_call 13; refine (hF.out).mono ?_; rintro e w1 ⟨rfl, rfl⟩)
    | (go_at_call 14; refine (hre.out).mono ?_; rintro y w4 ⟨v4, rfl, ho4, hb4⟩; obtain ⟨A4, c4, rfl, -, -, -, -⟩ := own_nods ho4; replace ho4 := Lib.hid ho4; have hR4 := Lib.hid ((hR.out.keep hb4).alloc (.cells #[.slice A4 ns.length c4, .int .i64 (g : Int)] 26)); have z := hR4.out.at_ (i := 0) rfl; have z1 := hR4.out.at_ (i := 1) rfl; have y0 := hR4.out.thawed 0; have y1 := hR4.out.thawed 1; replace hb4 := Lib.hid (hb0.out.trans (hb4.mono hb0.out.size))))
  have hown : ((w4.alloc (.cells #[.slice A4 ns.length c4, .int .i64 (g : Int)] 26)).setCell ⟨w.heap.size, 0, none⟩ (.slice A4 ns.length c4)).setCell ⟨w.heap.size, 1, none⟩ (.int .i64 (g : Int)) |>.ownsRow w.heap.size 34 10 (.slice A4 ns.length c4) ns.length (nodsL ns) :=
    own_low (own_far (hR4.out.put 0 (.slice A4 ns.length c4)) (by decide) (own_far hR4.out (by decide) (own_below ho4.out ((Below.refl _ _).alloc (Nat.le_refl _) _)) 0 _) 1 _) hb0.out.size
  exact bodyPost_ret (v := .tuple #[.agg #[.slice A4 ns.length c4, .int .i64 (g : Int)], .int .i64 0, .int .i64 0]) (results_cell_three Try.results10 _ _ w.heap.size 26 #[.slice A4 ns.length c4, .int .i64 (g : Int)] (0, 0) _ rfl rfl rfl ((hR4.out.put 0 _).put 1 _) Try.underlying26 rfl (by kernel_rfl)) rfl
    ⟨_, rfl, hown, ((hb4.out.alloc hb4.out.size _).setCell (p := ⟨w.heap.size, 0, none⟩) (Nat.le_refl _) _).setCell (p := ⟨w.heap.size, 1, none⟩) (Nat.le_refl _) _⟩
end
end Go.Proofs.Ytnfbgpjadnlgbab
