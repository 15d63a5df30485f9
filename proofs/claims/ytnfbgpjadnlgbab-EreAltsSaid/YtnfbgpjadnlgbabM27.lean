/- Two sets compared: the words lie in ClsS. The contract of class.Named. -/
import Derived.Test.YtnfbgpjadnlgbabM26
import Derived.Test.YtnfbgpjadnlgbabM06
import Derived.Test.YtnfbgpjadnlgbabM25
set_option maxRecDepth 100000
namespace Go.Proofs.Ytnfbgpjadnlgbab
end Go.Proofs.Ytnfbgpjadnlgbab

set_option maxRecDepth 100000
namespace Go.Proofs.Ytnfbgpjadnlgbab
open Go.RowKit

/-- The bytes of a class below k. -/
def nmS (s : ByteArray) (k : Nat) : Nat → Bool := fun x => decide (x < k) && (clsOf s.toList (x : Int)).getD false
theorem nmS_none (s : ByteArray) : nmS s 0 = fun _ => false := by funext x; simp [nmS]
theorem nmS_in (s : ByteArray) (k : Nat) (h : (clsOf s.toList (k : Int)).getD false = true) : (fun x => nmS s k x || decide (x = k)) = nmS s (k + 1) := by
  funext x; unfold nmS
  by_cases hx : x = k
  · subst hx; simp [h]
  · have : (x < k + 1) = (x < k) := by apply propext; omega
    simp [hx, this]
theorem nmS_out (s : ByteArray) (k : Nat) (h : (clsOf s.toList (k : Int)).getD false = false) : nmS s k = nmS s (k + 1) := by
  funext x; unfold nmS
  by_cases hx : x = k
  · subst hx; simp [h]
  · have : (x < k + 1) = (x < k) := by apply propext; omega
    simp [this]
theorem nmS_end (s : ByteArray) : alike (nmS s 256) (fun x => (clsOf s.toList (x : Int)).getD false) := fun c hc => by simp [nmS, hc]
theorem ite_some (b : Bool) (x : Bool) (y : Option Bool) : (if b = true then some x else y).isSome = (b || y.isSome) := by cases b <;> rfl
/-- A class is a class for every byte. -/
theorem cls_some (l : List UInt8) (c d : Int) : (clsOf l c).isSome = (clsOf l d).isSome := by
  unfold clsOf
  simp only [ite_some]
theorem cls_step (b : Bool) (x : Int → Bool) (y : Int → Option Bool) (h : ∃ c : Int, (0 ≤ c ∧ c < 256) ∧ x c = true) (k : (∃ c : Int, (0 ≤ c ∧ c < 256) ∧ (y c).getD false = true) ↔ (y 0).isSome = true) :
    (∃ c : Int, (0 ≤ c ∧ c < 256) ∧ (if b = true then some (x c) else y c).getD false = true) ↔ (if b = true then some (x 0) else y 0).isSome = true := by
  cases b
  · exact k
  · exact ⟨fun _ => rfl, fun _ => h⟩
theorem cls_any' (l : List UInt8) : (∃ c : Int, (0 ≤ c ∧ c < 256) ∧ (clsOf l c).getD false = true) ↔ (clsOf l 0).isSome = true := by
  unfold clsOf
  refine cls_step _ _ _ ⟨65, by decide⟩ ?_
  refine cls_step _ _ _ ⟨97, by decide⟩ ?_
  refine cls_step _ _ _ ⟨48, by decide⟩ ?_
  refine cls_step _ _ _ ⟨97, by decide⟩ ?_
  refine cls_step _ _ _ ⟨97, by decide⟩ ?_
  refine cls_step _ _ _ ⟨32, by decide⟩ ?_
  refine cls_step _ _ _ ⟨32, by decide⟩ ?_
  refine cls_step _ _ _ ⟨0, by decide⟩ ?_
  refine cls_step _ _ _ ⟨97, by decide⟩ ?_
  refine cls_step _ _ _ ⟨97, by decide⟩ ?_
  refine cls_step _ _ _ ⟨33, by decide⟩ ?_
  refine cls_step _ _ (fun _ => none) ⟨48, by decide⟩ ?_
  simp
/-- No class is empty. -/
theorem cls_any (l : List UInt8) : (∃ c : Nat, c < 256 ∧ (clsOf l (c : Int)).getD false = true) ↔ (clsOf l 0).isSome = true := by
  rw [← cls_any']
  constructor
  · rintro ⟨c, h1, h2⟩
    exact ⟨c, by omega, h2⟩
  · rintro ⟨c, h1, h2⟩
    obtain ⟨y, rfl⟩ := Int.eq_ofNat_of_zero_le h1.1
    exact ⟨y, by omega, h2⟩
theorem SetAt.four {w : World} {g : Nat} {f : Nat → Bool} (h : SetAt w g f) (f' : Nat → Bool) :
    SetAt ((((w.setCell ⟨g, 0, none⟩ (.int .u64 ((wd f' 0 : Nat) : Int))).setCell ⟨g, 1, none⟩ (.int .u64 ((wd f' 1 : Nat) : Int))).setCell ⟨g, 2, none⟩ (.int .u64 ((wd f' 2 : Nat) : Int))).setCell ⟨g, 3, none⟩ (.int .u64 ((wd f' 3 : Nat) : Int))) g f' := by
  unfold SetAt at h ⊢
  rw [heap_setCell_same _ g 3 _ _ _ (heap_setCell_same _ g 2 _ _ _ (heap_setCell_same _ g 1 _ _ _ (heap_setCell_same _ g 0 _ _ _ h)))]
  rfl

def RelNm (w : World) (s : ByteArray) (i : Value) (wr : World) : Prop :=
  ∃ k : Nat, k ≤ 256 ∧ i = .int .i64 (k : Nat) ∧ SetAt wr w.heap.size (fun _ => false) ∧ SetAt wr (w.heap.size + 1) (nmS s k) ∧ Below w.heap.size w wr
theorem RelNm.mk {w : World} {s : ByteArray} {i : Value} {wr : World} (h : ∃ k : Nat, k ≤ 256 ∧ i = .int .i64 (k : Nat) ∧ SetAt wr w.heap.size (fun _ => false) ∧ SetAt wr (w.heap.size + 1) (nmS s k) ∧ Below w.heap.size w wr) : RelNm w s i wr := h

theorem nm_flag (l : List UInt8) : (!sameS (fun x : Nat => (clsOf l (x : Int)).getD false) (ofL [])) = (clsOf l 0).isSome := by
  cases h : (clsOf l 0).isSome
  · have : sameS (fun x : Nat => (clsOf l (x : Int)).getD false) (ofL []) = true := sameS_of fun c hc => by
      cases hx : (clsOf l (c : Int)).getD false
      · rfl
      · have := (cls_any l).1 ⟨c, hc, hx⟩
        rw [h] at this; exact absurd this (by decide)
    rw [this]; rfl
  · obtain ⟨c, hc, hx⟩ := (cls_any l).2 h
    have : sameS (fun x : Nat => (clsOf l (x : Int)).getD false) (ofL []) = false := sameS_not fun ha => by
      have := ha c hc
      simp only [hx] at this
      exact absurd this (by simp [ofL])
    rw [this]; rfl

attribute [local go_sem] setV setC guard_set run_equalIn_lit
set_option maxRecDepth 100000 in
set_option maxHeartbeats 4000000 in
theorem named_any (s : ByteArray) (w : World) :
    Calls Try.prog 86 #[.string s] w fun e w' => e = .returned (.tuple #[setV (fun x => (clsOf s.toList (x : Int)).getD false), .bool (clsOf s.toList 0).isSome]) ∧ Below w.heap.size w w' := by
  go_enter Try.func86, Try.ntmps86
  go_wp2
  go_loopw [8] (RelNm w s) (fun i _ => 256 - (intOf i).toNat)
  case atStart => exact RelNm.mk ⟨0, by omega, rfl, (set_zero w).alloc _, by rw [nmS_none]; exact set_zero_at _ _ (by simp), ((Below.refl _ _).alloc (Nat.le_refl _) _).alloc (by simp) _⟩
  case round =>
    obtain ⟨k, hk, rfl, hz, hs, hb⟩ := hrel
    by_cases hlt : k < 256
    · have k3 : IntKind.u8.wrap (k : Int) = (k : Int) := IntWalk.u8_in _ (by omega)
      have k4 : (k : Int) % 256 = (k : Int) := by omega
      cases hc : (clsOf s.toList (k : Int)).getD false
      · have hnx := nmS_out s k hc
        rw [hnx] at hs
        have hs' := Lib.hid hs
        have hz' := Lib.hid hz
        have hb' := Lib.hid hb
        have hc' := Lib.hid hc
        clear hz hs hb hnx hc
        go_wp2_with (go_at_call 70; refine (is_any s (k : Int) _).mono ?_; rintro e w' ⟨rfl, rfl⟩; rw [hc'.out])
        clear k4
        go_roundw
        case rel => exact RelNm.mk ⟨k + 1, by omega, by go_num, hz'.out, hs'.out, hb'.out⟩
        case measure => simp [intOf]; omega
      · have hnx := nmS_in s k hc
        obtain ⟨K, i, he, hi, hK⟩ := byte_parts k hlt
        have h0 := tdiv_of he hi
        have h1 := ediv_of he hi
        have hs1 := hs.more he hi hK
        rw [hnx] at hs1
        have hs' := Lib.hid hs1
        have hz' := Lib.hid (hz.set_other (a := ⟨w.heap.size + 1, K, none⟩) (v := .int .u64 (bits .or .u64 ((wd (nmS s k) K : Nat) : Int) ((bitN k : Nat) : Int))) (by show w.heap.size ≠ w.heap.size + 1; omega))
        have hb' := Lib.hid (hb.setCell (p := ⟨w.heap.size + 1, K, none⟩) (by show w.heap.size ≤ w.heap.size + 1; omega) (.int .u64 (bits .or .u64 ((wd (nmS s k) K : Nat) : Int) ((bitN k : Nat) : Int))))
        have hc' := Lib.hid hc
        have hlt' := Lib.hid hlt
        have c0 := hs.cell' hK
        have f0 := hs.thawed K
        have k0 : (0 : Int) ≤ (K : Int) := by omega
        have k1 : (K : Int) < 4 := by omega
        have k2 : IntKind.i64.wrap (K : Int) = (K : Int) := IntWalk.i64_in _ (by omega)
        clear he hi hz hb hs hs1 hK hc hnx
        go_wp2_with (first
          | (go_at_call 70; refine (is_any s (k : Int) _).mono ?_; rintro e w' ⟨rfl, rfl⟩; rw [hc'.out])
          | (go_region_with ((go_at_call 60; refine (bit_any k _ hlt'.out).mono ?_; rintro e w' ⟨rfl, rfl⟩))) | fail)
        all_goals
          clear k4
          go_roundw
          case rel => exact RelNm.mk ⟨k + 1, hlt'.out, by go_num, hz'.out, hs'.out, hb'.out.drew⟩
          case measure => simp [intOf]; omega
    · obtain rfl : k = 256 := by omega
      have hz' := Lib.hid hz
      have hb' := Lib.hid hb
      have hs' := Lib.hid (hs.alike (nmS_end s))
      clear hz hb hs
      generalize hg : (fun x : Nat => (clsOf s.toList (x : Int)).getD false) = g at *
      have hF := Lib.hid (nm_flag s.toList)
      rw [hg] at hF
      replace hg := Lib.hid hg
      have c0 := hs'.out.cell 0 (by decide)
      have c1 := hs'.out.cell 1 (by decide)
      have c2 := hs'.out.cell 2 (by decide)
      have c3 := hs'.out.cell 3 (by decide)
      go_wp2
      go_region_with ((go_at_call 54; refine (of_any none 0 0 [] 0 _ rfl (Nat.le_refl _) (by decide) (Nat.zero_le _) (Byt.none_ _ _ _)).mono ?_; rintro e w2 ⟨rfl, hb2⟩; have z2 : SetAt w2 w.heap.size (fun _ => false) := (hb2.block w.heap.size hz'.out.lt).trans hz'.out; have z0c := z2.cell 0 (by decide); have z1c := z2.cell 1 (by decide); have z2c := z2.cell 2 (by decide); have z3c := z2.cell 3 (by decide); have z0f := z2.thawed 0; have z1f := z2.thawed 1; have z2f := z2.thawed 2; have z3f := z2.thawed 3; have y2 : SetAt w2 (w.heap.size + 1) g := (hb2.block (w.heap.size + 1) hs'.out.lt).trans hs'.out; have y0c := y2.cell 0 (by decide); have y1c := y2.cell 1 (by decide); have y2c := y2.cell 2 (by decide); have y3c := y2.cell 3 (by decide); replace y2 := Lib.hid y2; replace z2 := Lib.hid z2))
      all_goals
        go_wp2
        exact bodyPost_ret (v := .tuple #[.agg (setC g), .bool (!sameS g (ofL []))]) (results_cell_two Try.results86 _ _ w.heap.size 32 (setC g) (0, 0) _ rfl rfl (z2.out.four g) Try.underlying32 rfl (set_size _)) rfl
          ⟨by rw [hF.out, hg.out]; rfl, ((((hb'.out.drew.trans (hb2.mono hb'.out.size)).setCell (Nat.le_refl _) _).setCell (Nat.le_refl _) _).setCell (Nat.le_refl _) _).setCell (Nat.le_refl _) _⟩
end Go.Proofs.Ytnfbgpjadnlgbab
