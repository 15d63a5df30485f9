/- Sets in a slice; the contract of class.Union. Two sets compared: the words lie in ClsS. The contract of class.Named. -/
import Derived.Test.YtnfbgpjadnlgbaaGreatM14
import Derived.Test.YtnfbgpjadnlgbaaGreatM03
set_option maxRecDepth 100000
namespace Go.Proofs.YtnfbgpjadnlgbaaGreat
open Go.RowKit

/-- In the world w the slice that begins at A holds the sets ss, four cells each, all below block B. -/
def Sets (w : World) (B : Nat) (A : Option Addr) (ss : List (Nat → Bool)) : Prop :=
  ∀ (k : Nat) (h : k < ss.length), ∃ ad, A = some ad ∧ ad.block < B ∧ ∀ j, j < 4 → w.cell? (ad.add (k * 4 + j)) = some (.int .u64 ((wd (ss[k]'h) j : Nat) : Int))
theorem add_off (a : Addr) (i j : Nat) : (⟨(a.add i).block, (a.add i).off + j, none⟩ : Addr) = if j = 0 then ⟨(a.add i).block, (a.add i).off, none⟩ else a.add (i + j) := by
  by_cases h : j = 0
  · simp [h]
  · rw [if_neg h]
    unfold Addr.add; split <;> split <;> simp_all <;> omega
section
variable {w w' : World} {B B' : Nat} {A : Option Addr} {ss : List (Nat → Bool)}
theorem Sets.at_ (h : Sets w B A ss) {k : Nat} (hk : k < ss.length) : ∃ ad, A = some ad ∧ ad.block < B ∧ w.cell? (ad.add (k * 4)) = some (.int .u64 ((wd (ss[k]'hk) 0 : Nat) : Int)) ∧
    w.cell? ⟨(ad.add (k * 4)).block, (ad.add (k * 4)).off + 1, none⟩ = some (.int .u64 ((wd (ss[k]'hk) 1 : Nat) : Int)) ∧ w.cell? ⟨(ad.add (k * 4)).block, (ad.add (k * 4)).off + 2, none⟩ = some (.int .u64 ((wd (ss[k]'hk) 2 : Nat) : Int)) ∧
    w.cell? ⟨(ad.add (k * 4)).block, (ad.add (k * 4)).off + 3, none⟩ = some (.int .u64 ((wd (ss[k]'hk) 3 : Nat) : Int)) := by
  obtain ⟨ad, h1, h2, h3⟩ := h k hk
  refine ⟨ad, h1, h2, h3 0 (by decide), ?_, ?_, ?_⟩
  · rw [add_off, if_neg (by decide)]; exact h3 1 (by decide)
  · rw [add_off, if_neg (by decide)]; exact h3 2 (by decide)
  · rw [add_off, if_neg (by decide)]; exact h3 3 (by decide)
theorem Sets.keep (h : Sets w B A ss) (hk : ∀ p : Addr, p.block < B → w'.cell? p = w.cell? p) : Sets w' B A ss := by
  intro k hlt
  obtain ⟨ad, hA, hb, hc⟩ := h k hlt
  exact ⟨ad, hA, hb, fun j hj => (hk _ (by rw [block_add]; exact hb)).trans (hc j hj)⟩
theorem Sets.below (h : Sets w B A ss) (hb : Below B w w') : Sets w' B A ss := h.keep fun _ hp => hb.cell hp
theorem Sets.more (h : Sets w B A ss) (hB : B ≤ B') : Sets w B' A ss := fun k hk =>
  let ⟨ad, hA, hb, hc⟩ := h k hk; ⟨ad, hA, Nat.lt_of_lt_of_le hb hB, hc⟩
theorem Sets.none_ (w : World) (B : Nat) (A : Option Addr) : Sets w B A [] := fun _ h => absurd h (by simp)
end

/-- The union. -/
def anyS (ss : List (Nat → Bool)) : Nat → Bool := fun c => ss.any fun s => s c
theorem anyS_next (ss : List (Nat → Bool)) (k : Nat) (h : k < ss.length) : (fun c => anyS (ss.take k) c || (ss[k]'h) c) = anyS (ss.take (k + 1)) := by
  funext x
  have e : ss.take (k + 1) = ss.take k ++ [ss[k]'h] := by simp
  unfold anyS
  rw [e, List.any_append]
  simp
/-- u with the first j numbers of s. -/
def orS (u s : Nat → Bool) (j : Nat) : Nat → Bool := fun c => u c || (decide (c < 64 * j) && s c)
theorem orS_zero (u s : Nat → Bool) : orS u s 0 = u := by funext c; simp [orS]
theorem orS_end (u s : Nat → Bool) : alike (orS u s 4) (fun c => u c || s c) := fun c hc => by
  have : c < 64 * 4 := hc
  simp [orS, this]
theorem orS_at (u s : Nat → Bool) (j : Nat) : wd (orS u s j) j = wd u j := wd_congr fun i hi => by
  have : ¬ 64 * j + i < 64 * j := by omega
  simp [orS, this]
theorem orS_next (u s : Nat → Bool) (j : Nat) : wd (orS u s (j + 1)) j = wd u j ||| wd s j := by
  rw [wd_or2]
  exact wd_congr fun i hi => by
    have : 64 * j + i < 64 * (j + 1) := by omega
    simp [orS, this]
theorem orS_other (u s : Nat → Bool) (j k : Nat) (h : k ≠ j) : wd (orS u s (j + 1)) k = wd (orS u s j) k := wd_congr fun i hi => by
  have : (64 * k + i < 64 * (j + 1)) = (64 * k + i < 64 * j) := by apply propext; omega
  simp [orS, this]
theorem SetAt.ored {w : World} {g k : Nat} {u s : Nat → Bool} (h : SetAt w g (orS u s k)) (hk : k = 0 ∨ k = 1 ∨ k = 2 ∨ k = 3) :
    SetAt (w.setCell ⟨g, k, none⟩ (.int .u64 (bits .or .u64 ((wd u k : Nat) : Int) ((wd s k : Nat) : Int)))) g (orS u s (k + 1)) := by
  unfold SetAt at h ⊢
  rw [heap_setCell_same w g k _ _ _ h, u64_or_nat _ _ (wd_lt _ _) (wd_lt _ _), ← orS_next]
  unfold setC
  rcases hk with rfl | rfl | rfl | rfl
  · rw [← orS_other u s 0 1 (by decide), ← orS_other u s 0 2 (by decide), ← orS_other u s 0 3 (by decide)]; rfl
  · rw [← orS_other u s 1 0 (by decide), ← orS_other u s 1 2 (by decide), ← orS_other u s 1 3 (by decide)]; rfl
  · rw [← orS_other u s 2 0 (by decide), ← orS_other u s 2 1 (by decide), ← orS_other u s 2 3 (by decide)]; rfl
  · rw [← orS_other u s 3 0 (by decide), ← orS_other u s 3 1 (by decide), ← orS_other u s 3 2 (by decide)]; rfl
theorem alike.setC {f g : Nat → Bool} (h : alike f g) : Go.Proofs.YtnfbgpjadnlgbaaGreat.setC f = Go.Proofs.YtnfbgpjadnlgbaaGreat.setC g := by
  unfold Go.Proofs.YtnfbgpjadnlgbaaGreat.setC; rw [h.wd 0 (by decide), h.wd 1 (by decide), h.wd 2 (by decide), h.wd 3 (by decide)]
theorem SetAt.alike {w : World} {g : Nat} {f f' : Nat → Bool} (h : SetAt w g f) (ha : Go.Proofs.YtnfbgpjadnlgbaaGreat.alike f f') : SetAt w g f' := by
  unfold SetAt at h ⊢; rw [← ha.setC]; exact h

def RelU (w : World) (ss : List (Nat → Bool)) (n : Nat) (i : Value) (wr : World) : Prop :=
  ∃ k : Nat, k ≤ n ∧ i = .int .i64 (k : Nat) ∧ SetAt wr w.heap.size (fun _ => false) ∧ SetAt wr (w.heap.size + 1) (anyS (ss.take k)) ∧ Below w.heap.size w wr
theorem RelU.mk {w : World} {ss : List (Nat → Bool)} {n : Nat} {i : Value} {wr : World} (h : ∃ k : Nat, k ≤ n ∧ i = .int .i64 (k : Nat) ∧ SetAt wr w.heap.size (fun _ => false) ∧ SetAt wr (w.heap.size + 1) (anyS (ss.take k)) ∧ Below w.heap.size w wr) : RelU w ss n i wr := h
def RelU2 (w : World) (u s : Nat → Bool) (i : Value) (wr : World) : Prop :=
  ∃ k : Nat, k ≤ 4 ∧ i = .int .i64 (k : Nat) ∧ SetAt wr w.heap.size (fun _ => false) ∧ SetAt wr (w.heap.size + 1) (orS u s k) ∧ Below w.heap.size w wr
theorem RelU2.mk {w : World} {u s : Nat → Bool} {i : Value} {wr : World} (h : ∃ k : Nat, k ≤ 4 ∧ i = .int .i64 (k : Nat) ∧ SetAt wr w.heap.size (fun _ => false) ∧ SetAt wr (w.heap.size + 1) (orS u s k) ∧ Below w.heap.size w wr) : RelU2 w u s i wr := h

set_option maxRecDepth 100000 in
set_option maxHeartbeats 4000000 in
theorem union_any (A : Option Addr) (n c : Nat) (ss : List (Nat → Bool)) (B : Nat) (w : World) (hn : n = ss.length) (hnc : n ≤ c) (hm : c ≤ maxLen) (hB : B ≤ w.heap.size) (h : Sets w B A ss) :
    Calls Tryz.prog 102 #[.slice A n c] w fun e w' => e = .returned (setV (anyS ss)) ∧ Below w.heap.size w w' := by
  unfold maxLen at hm
  have hn' := Lib.hid hn
  clear hn
  have hB' := Lib.hid hB
  clear hB
  go_enter Tryz.func102, Tryz.ntmps102
  go_wp2
  go_loopw [10] (RelU w ss n) (fun i _ => n - (intOf i).toNat)
  case atStart => exact RelU.mk ⟨0, by omega, rfl, (set_zero w).alloc _, set_zero_at _ _ (by simp), ((Below.refl _ _).alloc (Nat.le_refl _) _).alloc (by simp) _⟩
  case round =>
    obtain ⟨k, hk, rfl, hz, hs, hb⟩ := hrel
    rename World => w1
    by_cases hlt : k < n
    · have hkl : k < ss.length := by have := hn'.out; omega
      obtain ⟨ad, hA, hadB, hd0, hd1, hd2, hd3⟩ := (h.below (hb.mono hB'.out)).at_ hkl
      subst hA
      have hnx := Lib.hid (anyS_next ss k hkl)
      generalize ss[k]'hkl = s at hd0 hd1 hd2 hd3 hnx
      generalize hu : anyS (ss.take k) = u at hs hnx
      clear hu
      have hs' := Lib.hid hs
      have hz' := Lib.hid hz
      have hb' := Lib.hid hb
      clear hz hb hs
      go_wp2
      go_loopw [15] (RelU2 w u s) (fun i _ => 4 - (intOf i).toNat)
      case atStart =>
        exact RelU2.mk ⟨0, by omega, rfl, hz'.out.alloc _, by rw [orS_zero]; exact hs'.out.alloc _, hb'.out.alloc (hb'.out.size) _⟩
      case round =>
        obtain ⟨j, hj, rfl, hz2, hs2, hb2⟩ := hrel
        rename World => w2
        by_cases hjt : j < 4
        · have hK : j = 0 ∨ j = 1 ∨ j = 2 ∨ j = 3 := by omega
          have hix := run_index s j hK
          unfold setC at hix
          have hs3 := Lib.hid (hs2.ored hK)
          have hz3 := Lib.hid (hz2.set_other (a := ⟨w.heap.size + 1, j, none⟩) (v := .int .u64 (bits .or .u64 ((wd u j : Nat) : Int) ((wd s j : Nat) : Int))) (by show w.heap.size ≠ w.heap.size + 1; omega))
          have hb3 := Lib.hid (hb2.setCell (p := ⟨w.heap.size + 1, j, none⟩) (by show w.heap.size ≤ w.heap.size + 1; omega) (.int .u64 (bits .or .u64 ((wd u j : Nat) : Int) ((wd s j : Nat) : Int))))
          have c0 := hs2.cell' hK
          rw [orS_at] at c0
          have f0 := hs2.thawed j
          have k0 : (0 : Int) ≤ (j : Int) := by omega
          have k1 : (j : Int) < 4 := by omega
          clear hs2 hz2 hb2 hK
          go_wp2
          go_roundw
          case rel => exact RelU2.mk ⟨j + 1, by omega, by go_num, hz3.out, hs3.out, hb3.out⟩
          case measure => simp [intOf]; omega
        · obtain rfl : j = 4 := by omega
          have hs3 := Lib.hid (hs2.alike (orS_end u s))
          have hz3 := Lib.hid hz2
          have hb3 := Lib.hid hb2
          clear hs2 hz2 hb2
          go_wp2
          go_roundw
          case rel => exact RelU.mk ⟨k + 1, by omega, by go_num, hz3.out, by have := hs3.out; rw [hnx.out] at this; exact this, hb3.out⟩
          case measure => simp [intOf]; omega
    · have hz' := Lib.hid hz
      have hb' := Lib.hid hb
      have hs' := Lib.hid hs
      clear hz hb hs
      go_wp2_with (first
        | (refine wpList_load_row rfl 37 (.tmp 3) rfl (w.heap.size + 1) rfl 37 _ (0, 0) _ hs'.out Tryz.underlying37 rfl (set_size _) ?_)
        | (refine wpList_store_row rfl 37 (.tmp 2) (.tmp 27) rfl w.heap.size (setC (anyS (ss.take k))) rfl rfl 37 _ hz'.out (set_size _) (set_hold _ _) (set_cells _) ?_))
      have e : ss.take k = ss := List.take_of_length_le (by have := hn'.out; omega)
      refine bodyPost_ret (v := setV (anyS (ss.take k))) (results_cell_row Tryz.results102 _ _ w.heap.size 37 (setC (anyS (ss.take k))) (0, 0) _ rfl (hz'.out.put _) Tryz.underlying37 rfl (set_size _)) rfl ⟨by rw [e], below_put hb'.out (Nat.le_refl _) _⟩
end Go.Proofs.YtnfbgpjadnlgbaaGreat

set_option maxRecDepth 100000
namespace Go.Proofs.YtnfbgpjadnlgbaaGreat
end Go.Proofs.YtnfbgpjadnlgbaaGreat

set_option maxRecDepth 100000
namespace Go.Proofs.YtnfbgpjadnlgbaaGreat
open Go.RowKit

/-- The bytes of a class below k. -/
def nmS (s : ByteArray) (k : Nat) : Nat → Bool := fun x => decide (x < k) && (clsOf s.toList (x : Int)).getD false
theorem nmS_none (s : ByteArray) : nmS s 0 = fun _ => false := by funext x; simp [nmS]
theorem nmS_in (s : ByteArray) (k : Nat) (h : (clsOf s.toList (k : Int)).getD false = true) : (fun x => nmS s k x || decide (x = k)) = nmS s (k + 1) := by
  funext x; unfold nmS
  by_cases hx : x = k
  · subst hx; simp [h]
  · have : (x < k + 1) = (x < k) := by apply propext; omega
    simp [hx, this]
theorem nmS_out (s : ByteArray) (k : Nat) (h : (clsOf s.toList (k : Int)).getD false = false) : nmS s k = nmS s (k + 1) := by
  funext x; unfold nmS
  by_cases hx : x = k
  · subst hx; simp [h]
  · have : (x < k + 1) = (x < k) := by apply propext; omega
    simp [this]
theorem nmS_end (s : ByteArray) : alike (nmS s 256) (fun x => (clsOf s.toList (x : Int)).getD false) := fun c hc => by simp [nmS, hc]
theorem ite_some (b : Bool) (x : Bool) (y : Option Bool) : (if b = true then some x else y).isSome = (b || y.isSome) := by cases b <;> rfl
/-- A class is a class for every byte. -/
theorem cls_some (l : List UInt8) (c d : Int) : (clsOf l c).isSome = (clsOf l d).isSome := by
  unfold clsOf
  simp only [ite_some]
theorem cls_step (b : Bool) (x : Int → Bool) (y : Int → Option Bool) (h : ∃ c : Int, (0 ≤ c ∧ c < 256) ∧ x c = true) (k : (∃ c : Int, (0 ≤ c ∧ c < 256) ∧ (y c).getD false = true) ↔ (y 0).isSome = true) :
    (∃ c : Int, (0 ≤ c ∧ c < 256) ∧ (if b = true then some (x c) else y c).getD false = true) ↔ (if b = true then some (x 0) else y 0).isSome = true := by
  cases b
  · exact k
  · exact ⟨fun _ => rfl, fun _ => h⟩
theorem cls_any' (l : List UInt8) : (∃ c : Int, (0 ≤ c ∧ c < 256) ∧ (clsOf l c).getD false = true) ↔ (clsOf l 0).isSome = true := by
  unfold clsOf
  refine cls_step _ _ _ ⟨65, by decide⟩ ?_
  refine cls_step _ _ _ ⟨97, by decide⟩ ?_
  refine cls_step _ _ _ ⟨48, by decide⟩ ?_
  refine cls_step _ _ _ ⟨97, by decide⟩ ?_
  refine cls_step _ _ _ ⟨97, by decide⟩ ?_
  refine cls_step _ _ _ ⟨32, by decide⟩ ?_
  refine cls_step _ _ _ ⟨32, by decide⟩ ?_
  refine cls_step _ _ _ ⟨0, by decide⟩ ?_
  refine cls_step _ _ _ ⟨97, by decide⟩ ?_
  refine cls_step _ _ _ ⟨97, by decide⟩ ?_
  refine cls_step _ _ _ ⟨33, by decide⟩ ?_
  refine cls_step _ _ (fun _ => none) ⟨48, by decide⟩ ?_
  simp
/-- No class is empty. -/
theorem cls_any (l : List UInt8) : (∃ c : Nat, c < 256 ∧ (clsOf l (c : Int)).getD false = true) ↔ (clsOf l 0).isSome = true := by
  rw [← cls_any']
  constructor
  · rintro ⟨c, h1, h2⟩
    exact ⟨c, by omega, h2⟩
  · rintro ⟨c, h1, h2⟩
    obtain ⟨y, rfl⟩ := Int.eq_ofNat_of_zero_le h1.1
    exact ⟨y, by omega, h2⟩
theorem SetAt.four {w : World} {g : Nat} {f : Nat → Bool} (h : SetAt w g f) (f' : Nat → Bool) :
    SetAt ((((w.setCell ⟨g, 0, none⟩ (.int .u64 ((wd f' 0 : Nat) : Int))).setCell ⟨g, 1, none⟩ (.int .u64 ((wd f' 1 : Nat) : Int))).setCell ⟨g, 2, none⟩ (.int .u64 ((wd f' 2 : Nat) : Int))).setCell ⟨g, 3, none⟩ (.int .u64 ((wd f' 3 : Nat) : Int))) g f' := by
  unfold SetAt at h ⊢
  rw [heap_setCell_same _ g 3 _ _ _ (heap_setCell_same _ g 2 _ _ _ (heap_setCell_same _ g 1 _ _ _ (heap_setCell_same _ g 0 _ _ _ h)))]
  rfl

def RelNm (w : World) (s : ByteArray) (i : Value) (wr : World) : Prop :=
  ∃ k : Nat, k ≤ 256 ∧ i = .int .i64 (k : Nat) ∧ SetAt wr w.heap.size (fun _ => false) ∧ SetAt wr (w.heap.size + 1) (nmS s k) ∧ Below w.heap.size w wr
theorem RelNm.mk {w : World} {s : ByteArray} {i : Value} {wr : World} (h : ∃ k : Nat, k ≤ 256 ∧ i = .int .i64 (k : Nat) ∧ SetAt wr w.heap.size (fun _ => false) ∧ SetAt wr (w.heap.size + 1) (nmS s k) ∧ Below w.heap.size w wr) : RelNm w s i wr := h

theorem nm_flag (l : List UInt8) : (!sameS (fun x : Nat => (clsOf l (x : Int)).getD false) (ofL [])) = (clsOf l 0).isSome := by
  cases h : (clsOf l 0).isSome
  · have : sameS (fun x : Nat => (clsOf l (x : Int)).getD false) (ofL []) = true := sameS_of fun c hc => by
      cases hx : (clsOf l (c : Int)).getD false
      · rfl
      · have := (cls_any l).1 ⟨c, hc, hx⟩
        rw [h] at this; exact absurd this (by decide)
    rw [this]; rfl
  · obtain ⟨c, hc, hx⟩ := (cls_any l).2 h
    have : sameS (fun x : Nat => (clsOf l (x : Int)).getD false) (ofL []) = false := sameS_not fun ha => by
      have := ha c hc
      simp only [hx] at this
      exact absurd this (by simp [ofL])
    rw [this]; rfl

attribute [local go_sem] setV setC guard_set run_equalIn_lit
set_option maxRecDepth 100000 in
set_option maxHeartbeats 4000000 in
theorem named_any (s : ByteArray) (w : World) :
    Calls Tryz.prog 120 #[.string s] w fun e w' => e = .returned (.tuple #[setV (fun x => (clsOf s.toList (x : Int)).getD false), .bool (clsOf s.toList 0).isSome]) ∧ Below w.heap.size w w' := by
  go_enter Tryz.func120, Tryz.ntmps120
  go_wp2
  go_loopw [8] (RelNm w s) (fun i _ => 256 - (intOf i).toNat)
  case atStart => exact RelNm.mk ⟨0, by omega, rfl, (set_zero w).alloc _, by rw [nmS_none]; exact set_zero_at _ _ (by simp), ((Below.refl _ _).alloc (Nat.le_refl _) _).alloc (by simp) _⟩
  case round =>
    obtain ⟨k, hk, rfl, hz, hs, hb⟩ := hrel
    by_cases hlt : k < 256
    · have k3 : IntKind.u8.wrap (k : Int) = (k : Int) := IntWalk.u8_in _ (by omega)
      have k4 : (k : Int) % 256 = (k : Int) := by omega
      cases hc : (clsOf s.toList (k : Int)).getD false
      · have hnx := nmS_out s k hc
        rw [hnx] at hs
        have hs' := Lib.hid hs
        have hz' := Lib.hid hz
        have hb' := Lib.hid hb
        have hc' := Lib.hid hc
        clear hz hs hb hnx hc
        go_wp2_with (go_at_call 104; refine (is_any s (k : Int) _).mono ?_; rintro e w' ⟨rfl, rfl⟩; rw [hc'.out])
        clear k4
        go_roundw
        case rel => exact RelNm.mk ⟨k + 1, by omega, by go_num, hz'.out, hs'.out, hb'.out⟩
        case measure => simp [intOf]; omega
      · have hnx := nmS_in s k hc
        obtain ⟨K, i, he, hi, hK⟩ := byte_parts k hlt
        have h0 := tdiv_of he hi
        have h1 := ediv_of he hi
        have hs1 := hs.more he hi hK
        rw [hnx] at hs1
        have hs' := Lib.hid hs1
        have hz' := Lib.hid (hz.set_other (a := ⟨w.heap.size + 1, K, none⟩) (v := .int .u64 (bits .or .u64 ((wd (nmS s k) K : Nat) : Int) ((bitN k : Nat) : Int))) (by show w.heap.size ≠ w.heap.size + 1; omega))
        have hb' := Lib.hid (hb.setCell (p := ⟨w.heap.size + 1, K, none⟩) (by show w.heap.size ≤ w.heap.size + 1; omega) (.int .u64 (bits .or .u64 ((wd (nmS s k) K : Nat) : Int) ((bitN k : Nat) : Int))))
        have hc' := Lib.hid hc
        have hlt' := Lib.hid hlt
        have c0 := hs.cell' hK
        have f0 := hs.thawed K
        have k0 : (0 : Int) ≤ (K : Int) := by omega
        have k1 : (K : Int) < 4 := by omega
        have k2 : IntKind.i64.wrap (K : Int) = (K : Int) := IntWalk.i64_in _ (by omega)
        clear he hi hz hb hs hs1 hK hc hnx
        go_wp2_with (first
          | (go_at_call 104; refine (is_any s (k : Int) _).mono ?_; rintro e w' ⟨rfl, rfl⟩; rw [hc'.out])
          | (go_region_with ((go_at_call 93; refine (bit_any k _ hlt'.out).mono ?_; rintro e w' ⟨rfl, rfl⟩))) | fail)
        all_goals
          clear k4
          go_roundw
          case rel => exact RelNm.mk ⟨k + 1, hlt'.out, by go_num, hz'.out, hs'.out, hb'.out.drew⟩
          case measure => simp [intOf]; omega
    · obtain rfl : k = 256 := by omega
      have hz' := Lib.hid hz
      have hb' := Lib.hid hb
      have hs' := Lib.hid (hs.alike (nmS_end s))
      clear hz hb hs
      generalize hg : (fun x : Nat => (clsOf s.toList (x : Int)).getD false) = g at *
      have hF := Lib.hid (nm_flag s.toList)
      rw [hg] at hF
      replace hg := Lib.hid hg
      have c0 := hs'.out.cell 0 (by decide)
      have c1 := hs'.out.cell 1 (by decide)
      have c2 := hs'.out.cell 2 (by decide)
      have c3 := hs'.out.cell 3 (by decide)
      go_wp2
      go_region_with ((go_at_call 81; refine (of_any none 0 0 [] 0 _ rfl (Nat.le_refl _) (by decide) (Nat.zero_le _) (Byt.none_ _ _ _)).mono ?_; rintro e w2 ⟨rfl, hb2⟩; have z2 : SetAt w2 w.heap.size (fun _ => false) := (hb2.block w.heap.size hz'.out.lt).trans hz'.out; have z0c := z2.cell 0 (by decide); have z1c := z2.cell 1 (by decide); have z2c := z2.cell 2 (by decide); have z3c := z2.cell 3 (by decide); have z0f := z2.thawed 0; have z1f := z2.thawed 1; have z2f := z2.thawed 2; have z3f := z2.thawed 3; have y2 : SetAt w2 (w.heap.size + 1) g := (hb2.block (w.heap.size + 1) hs'.out.lt).trans hs'.out; have y0c := y2.cell 0 (by decide); have y1c := y2.cell 1 (by decide); have y2c := y2.cell 2 (by decide); have y3c := y2.cell 3 (by decide); replace y2 := Lib.hid y2; replace z2 := Lib.hid z2))
      all_goals
        go_wp2
        exact bodyPost_ret (v := .tuple #[.agg (setC g), .bool (!sameS g (ofL []))]) (results_cell_two Tryz.results120 _ _ w.heap.size 37 (setC g) (0, 0) _ rfl rfl (z2.out.four g) Tryz.underlying37 rfl (set_size _)) rfl
          ⟨by rw [hF.out, hg.out]; rfl, ((((hb'.out.drew.trans (hb2.mono hb'.out.size)).setCell (Nat.le_refl _) _).setCell (Nat.le_refl _) _).setCell (Nat.le_refl _) _).setCell (Nat.le_refl _) _⟩
end Go.Proofs.YtnfbgpjadnlgbaaGreat
