/- Sets in a slice; the contract of class.Union. -/
import Derived.Test.YtnfbgpjadnlgbabM25
set_option maxRecDepth 100000
namespace Go.Proofs.Ytnfbgpjadnlgbab
open Go.RowKit

/-- In the world w the slice that begins at A holds the sets ss, four cells each, all below block B. -/
def Sets (w : World) (B : Nat) (A : Option Addr) (ss : List (Nat → Bool)) : Prop :=
  ∀ (k : Nat) (h : k < ss.length), ∃ ad, A = some ad ∧ ad.block < B ∧ ∀ j, j < 4 → w.cell? (ad.add (k * 4 + j)) = some (.int .u64 ((wd (ss[k]'h) j : Nat) : Int))
theorem add_off (a : Addr) (i j : Nat) : (⟨(a.add i).block, (a.add i).off + j, none⟩ : Addr) = if j = 0 then ⟨(a.add i).block, (a.add i).off, none⟩ else a.add (i + j) := by
  by_cases h : j = 0
  · simp [h]
  · rw [if_neg h]
    unfold Addr.add; split <;> split <;> simp_all <;> omega
section
variable {w w' : World} {B B' : Nat} {A : Option Addr} {ss : List (Nat → Bool)}
theorem Sets.at_ (h : Sets w B A ss) {k : Nat} (hk : k < ss.length) : ∃ ad, A = some ad ∧ ad.block < B ∧ w.cell? (ad.add (k * 4)) = some (.int .u64 ((wd (ss[k]'hk) 0 : Nat) : Int)) ∧
    w.cell? ⟨(ad.add (k * 4)).block, (ad.add (k * 4)).off + 1, none⟩ = some (.int .u64 ((wd (ss[k]'hk) 1 : Nat) : Int)) ∧ w.cell? ⟨(ad.add (k * 4)).block, (ad.add (k * 4)).off + 2, none⟩ = some (.int .u64 ((wd (ss[k]'hk) 2 : Nat) : Int)) ∧
    w.cell? ⟨(ad.add (k * 4)).block, (ad.add (k * 4)).off + 3, none⟩ = some (.int .u64 ((wd (ss[k]'hk) 3 : Nat) : Int)) := by
  obtain ⟨ad, h1, h2, h3⟩ := h k hk
  refine ⟨ad, h1, h2, h3 0 (by decide), ?_, ?_, ?_⟩
  · rw [add_off, if_neg (by decide)]; exact h3 1 (by decide)
  · rw [add_off, if_neg (by decide)]; exact h3 2 (by decide)
  · rw [add_off, if_neg (by decide)]; exact h3 3 (by decide)
theorem Sets.keep (h : Sets w B A ss) (hk : ∀ p : Addr, p.block < B → w'.cell? p = w.cell? p) : Sets w' B A ss := by
  intro k hlt
  obtain ⟨ad, hA, hb, hc⟩ := h k hlt
  exact ⟨ad, hA, hb, fun j hj => (hk _ (by rw [block_add]; exact hb)).trans (hc j hj)⟩
theorem Sets.below (h : Sets w B A ss) (hb : Below B w w') : Sets w' B A ss := h.keep fun _ hp => hb.cell hp
theorem Sets.more (h : Sets w B A ss) (hB : B ≤ B') : Sets w B' A ss := fun k hk =>
  let ⟨ad, hA, hb, hc⟩ := h k hk; ⟨ad, hA, Nat.lt_of_lt_of_le hb hB, hc⟩
theorem Sets.none_ (w : World) (B : Nat) (A : Option Addr) : Sets w B A [] := fun _ h => absurd h (by simp)
end

/-- The union. -/
def anyS (ss : List (Nat → Bool)) : Nat → Bool := fun c => ss.any fun s => s c
theorem anyS_next (ss : List (Nat → Bool)) (k : Nat) (h : k < ss.length) : (fun c => anyS (ss.take k) c || (ss[k]'h) c) = anyS (ss.take (k + 1)) := by
  funext x
  have e : ss.take (k + 1) = ss.take k ++ [ss[k]'h] := by simp
  unfold anyS
  rw [e, List.any_append]
  simp
/-- u with the first j numbers of s. -/
def orS (u s : Nat → Bool) (j : Nat) : Nat → Bool := fun c => u c || (decide (c < 64 * j) && s c)
theorem orS_zero (u s : Nat → Bool) : orS u s 0 = u := by funext c; simp [orS]
theorem orS_end (u s : Nat → Bool) : alike (orS u s 4) (fun c => u c || s c) := fun c hc => by
  have : c < 64 * 4 := hc
  simp [orS, this]
theorem orS_at (u s : Nat → Bool) (j : Nat) : wd (orS u s j) j = wd u j := wd_congr fun i hi => by
  have : ¬ 64 * j + i < 64 * j := by omega
  simp [orS, this]
theorem orS_next (u s : Nat → Bool) (j : Nat) : wd (orS u s (j + 1)) j = wd u j ||| wd s j := by
  rw [wd_or2]
  exact wd_congr fun i hi => by
    have : 64 * j + i < 64 * (j + 1) := by omega
    simp [orS, this]
theorem orS_other (u s : Nat → Bool) (j k : Nat) (h : k ≠ j) : wd (orS u s (j + 1)) k = wd (orS u s j) k := wd_congr fun i hi => by
  have : (64 * k + i < 64 * (j + 1)) = (64 * k + i < 64 * j) := by apply propext; omega
  simp [orS, this]
theorem SetAt.ored {w : World} {g k : Nat} {u s : Nat → Bool} (h : SetAt w g (orS u s k)) (hk : k = 0 ∨ k = 1 ∨ k = 2 ∨ k = 3) :
    SetAt (w.setCell ⟨g, k, none⟩ (.int .u64 (bits .or .u64 ((wd u k : Nat) : Int) ((wd s k : Nat) : Int)))) g (orS u s (k + 1)) := by
  unfold SetAt at h ⊢
  rw [heap_setCell_same w g k _ _ _ h, u64_or_nat _ _ (wd_lt _ _) (wd_lt _ _), ← orS_next]
  unfold setC
  rcases hk with rfl | rfl | rfl | rfl
  · rw [← orS_other u s 0 1 (by decide), ← orS_other u s 0 2 (by decide), ← orS_other u s 0 3 (by decide)]; rfl
  · rw [← orS_other u s 1 0 (by decide), ← orS_other u s 1 2 (by decide), ← orS_other u s 1 3 (by decide)]; rfl
  · rw [← orS_other u s 2 0 (by decide), ← orS_other u s 2 1 (by decide), ← orS_other u s 2 3 (by decide)]; rfl
  · rw [← orS_other u s 3 0 (by decide), ← orS_other u s 3 1 (by decide), ← orS_other u s 3 2 (by decide)]; rfl
theorem alike.setC {f g : Nat → Bool} (h : alike f g) : Go.Proofs.Ytnfbgpjadnlgbab.setC f = Go.Proofs.Ytnfbgpjadnlgbab.setC g := by
  unfold Go.Proofs.Ytnfbgpjadnlgbab.setC; rw [h.wd 0 (by decide), h.wd 1 (by decide), h.wd 2 (by decide), h.wd 3 (by decide)]
theorem SetAt.alike {w : World} {g : Nat} {f f' : Nat → Bool} (h : SetAt w g f) (ha : Go.Proofs.Ytnfbgpjadnlgbab.alike f f') : SetAt w g f' := by
  unfold SetAt at h ⊢; rw [← ha.setC]; exact h

def RelU (w : World) (ss : List (Nat → Bool)) (n : Nat) (i : Value) (wr : World) : Prop :=
  ∃ k : Nat, k ≤ n ∧ i = .int .i64 (k : Nat) ∧ SetAt wr w.heap.size (fun _ => false) ∧ SetAt wr (w.heap.size + 1) (anyS (ss.take k)) ∧ Below w.heap.size w wr
theorem RelU.mk {w : World} {ss : List (Nat → Bool)} {n : Nat} {i : Value} {wr : World} (h : ∃ k : Nat, k ≤ n ∧ i = .int .i64 (k : Nat) ∧ SetAt wr w.heap.size (fun _ => false) ∧ SetAt wr (w.heap.size + 1) (anyS (ss.take k)) ∧ Below w.heap.size w wr) : RelU w ss n i wr := h
def RelU2 (w : World) (u s : Nat → Bool) (i : Value) (wr : World) : Prop :=
  ∃ k : Nat, k ≤ 4 ∧ i = .int .i64 (k : Nat) ∧ SetAt wr w.heap.size (fun _ => false) ∧ SetAt wr (w.heap.size + 1) (orS u s k) ∧ Below w.heap.size w wr
theorem RelU2.mk {w : World} {u s : Nat → Bool} {i : Value} {wr : World} (h : ∃ k : Nat, k ≤ 4 ∧ i = .int .i64 (k : Nat) ∧ SetAt wr w.heap.size (fun _ => false) ∧ SetAt wr (w.heap.size + 1) (orS u s k) ∧ Below w.heap.size w wr) : RelU2 w u s i wr := h

set_option maxRecDepth 100000 in
set_option maxHeartbeats 4000000 in
theorem union_any (A : Option Addr) (n c : Nat) (ss : List (Nat → Bool)) (B : Nat) (w : World) (hn : n = ss.length) (hnc : n ≤ c) (hm : c ≤ maxLen) (hB : B ≤ w.heap.size) (h : Sets w B A ss) :
    Calls Try.prog 68 #[.slice A n c] w fun e w' => e = .returned (setV (anyS ss)) ∧ Below w.heap.size w w' := by
  unfold maxLen at hm
  have hn' := Lib.hid hn
  clear hn
  have hB' := Lib.hid hB
  clear hB
  go_enter Try.func68, Try.ntmps68
  go_wp2
  go_loopw [10] (RelU w ss n) (fun i _ => n - (intOf i).toNat)
  case atStart => exact RelU.mk ⟨0, by omega, rfl, (set_zero w).alloc _, set_zero_at _ _ (by simp), ((Below.refl _ _).alloc (Nat.le_refl _) _).alloc (by simp) _⟩
  case round =>
    obtain ⟨k, hk, rfl, hz, hs, hb⟩ := hrel
    rename World => w1
    by_cases hlt : k < n
    · have hkl : k < ss.length := by have := hn'.out; omega
      obtain ⟨ad, hA, hadB, hd0, hd1, hd2, hd3⟩ := (h.below (hb.mono hB'.out)).at_ hkl
      subst hA
      have hnx := Lib.hid (anyS_next ss k hkl)
      generalize ss[k]'hkl = s at hd0 hd1 hd2 hd3 hnx
      generalize hu : anyS (ss.take k) = u at hs hnx
      clear hu
      have hs' := Lib.hid hs
      have hz' := Lib.hid hz
      have hb' := Lib.hid hb
      clear hz hb hs
      go_wp2
      go_loopw [15] (RelU2 w u s) (fun i _ => 4 - (intOf i).toNat)
      case atStart =>
        exact RelU2.mk ⟨0, by omega, rfl, hz'.out.alloc _, by rw [orS_zero]; exact hs'.out.alloc _, hb'.out.alloc (hb'.out.size) _⟩
      case round =>
        obtain ⟨j, hj, rfl, hz2, hs2, hb2⟩ := hrel
        rename World => w2
        by_cases hjt : j < 4
        · have hK : j = 0 ∨ j = 1 ∨ j = 2 ∨ j = 3 := by omega
          have hix := run_index s j hK
          unfold setC at hix
          have hs3 := Lib.hid (hs2.ored hK)
          have hz3 := Lib.hid (hz2.set_other (a := ⟨w.heap.size + 1, j, none⟩) (v := .int .u64 (bits .or .u64 ((wd u j : Nat) : Int) ((wd s j : Nat) : Int))) (by show w.heap.size ≠ w.heap.size + 1; omega))
          have hb3 := Lib.hid (hb2.setCell (p := ⟨w.heap.size + 1, j, none⟩) (by show w.heap.size ≤ w.heap.size + 1; omega) (.int .u64 (bits .or .u64 ((wd u j : Nat) : Int) ((wd s j : Nat) : Int))))
          have c0 := hs2.cell' hK
          rw [orS_at] at c0
          have f0 := hs2.thawed j
          have k0 : (0 : Int) ≤ (j : Int) := by omega
          have k1 : (j : Int) < 4 := by omega
          clear hs2 hz2 hb2 hK
          go_wp2
          go_roundw
          case rel => exact RelU2.mk ⟨j + 1, by omega, by go_num, hz3.out, hs3.out, hb3.out⟩
          case measure => simp [intOf]; omega
        · obtain rfl : j = 4 := by omega
          have hs3 := Lib.hid (hs2.alike (orS_end u s))
          have hz3 := Lib.hid hz2
          have hb3 := Lib.hid hb2
          clear hs2 hz2 hb2
          go_wp2
          go_roundw
          case rel => exact RelU.mk ⟨k + 1, by omega, by go_num, hz3.out, by have := hs3.out; rw [hnx.out] at this; exact this, hb3.out⟩
          case measure => simp [intOf]; omega
    · have hz' := Lib.hid hz
      have hb' := Lib.hid hb
      have hs' := Lib.hid hs
      clear hz hb hs
      go_wp2_with (first
        | (refine wpList_load_row rfl 32 (.tmp 3) rfl (w.heap.size + 1) rfl 32 _ (0, 0) _ hs'.out Try.underlying32 rfl (set_size _) ?_)
        | (refine wpList_store_row rfl 32 (.tmp 2) (.tmp 27) rfl w.heap.size (setC (anyS (ss.take k))) rfl rfl 32 _ hz'.out (set_size _) (set_hold _ _) (set_cells _) ?_))
      have e : ss.take k = ss := List.take_of_length_le (by have := hn'.out; omega)
      refine bodyPost_ret (v := setV (anyS (ss.take k))) (results_cell_row Try.results68 _ _ w.heap.size 32 (setC (anyS (ss.take k))) (0, 0) _ rfl (hz'.out.put _) Try.underlying32 rfl (set_size _)) rfl ⟨by rw [e], below_put hb'.out (Nat.le_refl _) _⟩
end Go.Proofs.Ytnfbgpjadnlgbab
