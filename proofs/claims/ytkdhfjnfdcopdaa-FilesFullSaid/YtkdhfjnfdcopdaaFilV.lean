/- Contracts: the document's example, as the law awakes; Pick. -/
import Derived.Test.YtkdhfjnfdcopdaaFilM
import Derived.Lib.SlBytesConst
namespace Go.Proofs.Ytkdhfjnfdcopdaa
open Go.RowKit

theorem add_nilV (a : Addr) : a.add 0 = a := by unfold Addr.add; split <;> simp_all
abbrev nA : ByteArray := ⟨#[97]⟩
abbrev nB : ByteArray := ⟨#[98]⟩
abbrev nC : ByteArray := ⟨#[99]⟩
def fs1 : List Fil := [(nA, [120])]
def fs2 : List Fil := [(nA, [120]), (nB, [])]
theorem ex_new : (newF fs1).2 = 0 := by decide +kernel
theorem ex_add : addF fs1 nB ([] : List (List UInt8)).flatten = (fs2, 0) := by decide +kernel
theorem ex_get : posN fs2 nA = some 0 ∧ getF fs2 nA = [120] ∧ lenF fs2 nB = 0 ∧ lenF fs2 nC = -1 := by decide +kernel
theorem ex_sz : ∀ f ∈ fs1, f.1.size ≤ maxLen := by
  intro f hf
  obtain rfl : f = (nA, [120]) := by simpa [fs1] using hf
  decide
theorem ok_new {fs : List Fil} (h : (newF fs).2 = 0) : OkF fs := by have := newF_ok fs; rwa [newF_zero h] at this
theorem ex_ok2 : OkF fs2 := by have := putF_ok (ok_new ex_new) nB (getF fs1 nB ++ ([] : List (List UInt8)).flatten); have e : putF fs1 nB (getF fs1 nB ++ ([] : List (List UInt8)).flatten) = (fs2, 0) := ex_add; rwa [e] at this

theorem new_yes (A : Option Addr) (n c : Nat) (fs : List Fil) (w : World) (hn : n = fs.length) (hnc : n ≤ c) (hz : ∀ f ∈ fs, f.1.size ≤ maxLen) (h : Fils w (fun k => k < w.heap.size) A fs) (h0 : (newF fs).2 = 0) :
    Calls Try.prog 9 #[.slice A n c] w fun e w' => ∃ T, e = .returned (.tuple #[.pointer (some ⟨T, 0, none⟩), .int .i64 0]) ∧ Tab w' (fun b => w.heap.size ≤ b) T fs ∧ Below w.heap.size w w' :=
  (new_any A n c fs w hn hnc hz h).mono fun e w' ⟨hp, hb⟩ => by
    rcases hp with ⟨_, T, he, hT⟩ | ⟨h1, _⟩
    · exact ⟨T, he, hT, hb⟩
    · exact absurd h0 h1
theorem new_no (A : Option Addr) (n c : Nat) (fs : List Fil) (w : World) (hn : n = fs.length) (hnc : n ≤ c) (hz : ∀ f ∈ fs, f.1.size ≤ maxLen) (h : Fils w (fun k => k < w.heap.size) A fs) (h0 : (newF fs).2 ≠ 0) :
    Calls Try.prog 9 #[.slice A n c] w fun e w' => e = .returned (.tuple #[.pointer none, .int .i64 (newF fs).2]) ∧ Below w.heap.size w w' :=
  (new_any A n c fs w hn hnc hz h).mono fun e w' ⟨hp, hb⟩ => by
    rcases hp with ⟨h1, _⟩ | ⟨_, he⟩
    · exact absurd h1 h0
    · exact ⟨he, hb⟩

set_option maxHeartbeats 1000000 in
theorem awake_any (w : World) : Calls Try.prog 8 #[] w fun e w' => e = .returned (.bool true) ∧ Below w.heap.size w w' := by
  have hb1 : ∀ o1, Below w.heap.size w (w.alloc o1) := fun o1 => (Below.refl _ w).alloc (Nat.le_refl _) o1
  have hb2 : ∀ o1 o2, Below w.heap.size w ((w.alloc o1).alloc o2) := fun o1 o2 => (hb1 o1).alloc (by rw [sizeA]; omega) o2
  have hF : Fils ((w.alloc (.cells #[.int .u8 120] 5 (1, 2))).alloc (.cells #[.string nA, .slice (some ⟨w.heap.size, 0, none⟩) 1 1] 52)) (fun k => k < ((w.alloc (.cells #[.int .u8 120] 5 (1, 2))).alloc (.cells #[.string nA, .slice (some ⟨w.heap.size, 0, none⟩) 1 1] 52)).heap.size) (some ⟨w.heap.size + 1, 0, none⟩) fs1 := by
    intro k hk
    obtain rfl : k = 0 := by simpa [fs1] using hk
    have hn := new_cells (w.alloc (.cells #[.int .u8 120] 5 (1, 2))) [.string nA, .slice (some ⟨w.heap.size, 0, none⟩) 1 1] 52
    rw [sizeA] at hn
    refine ⟨_, .slice (some ⟨w.heap.size, 0, none⟩) 1 1, rfl, by rw [sizeA, sizeA]; show w.heap.size + 1 < _; omega, hn 0 _ rfl, hn 1 _ rfl, _, 1, 1, rfl, rfl, Nat.le_refl _, by simp [maxLen], ?_⟩
    have hbt : Byt (w.alloc (.cells #[.int .u8 120] 5 (1, 2))) (w.heap.size + 1) (some ⟨w.heap.size, 0, none⟩) [120] := byt_new w [120] 5 (1, 2)
    refine Byt.q (hbt.below ((Below.refl _ _).alloc (by rw [sizeA]; omega) _)) fun k hk => ?_
    rw [sizeA, sizeA]; omega
  have hN := Lib.hid (new_yes (some ⟨w.heap.size + 1, 0, none⟩) 1 1 fs1 _ rfl (Nat.le_refl _) ex_sz hF ex_new)
  have hAdd := Lib.hid (fun (T : Nat) (w3 : World) (hT : Tab w3 (fun k => w.heap.size ≤ k) T fs1) (hs : w.heap.size ≤ w3.heap.size) => add_any (fun k => w.heap.size ≤ k) T fs1 nB none 0 0 [] w3 hT (ok_new ex_new) (fun k hk => Nat.le_trans hs hk) (by decide) rfl (Nat.le_refl _) (by simp [maxLen]) (fun k hk => absurd hk (by simp)))
  rw [ex_add] at hAdd
  have hGet := Lib.hid (fun (T : Nat) (w3 : World) (hT : Tab w3 (fun k => w.heap.size ≤ k) T fs2) => get_any _ T fs2 nA w3 hT ex_ok2)
  rw [ex_get.1, ex_get.2.1] at hGet
  have hLB := Lib.hid (fun (T : Nat) (w3 : World) (hT : Tab w3 (fun k => w.heap.size ≤ k) T fs2) => len_any _ T fs2 nB w3 hT)
  rw [ex_get.2.2.1] at hLB
  have hLC := Lib.hid (fun (T : Nat) (w3 : World) (hT : Tab w3 (fun k => w.heap.size ≤ k) T fs2) => len_any _ T fs2 nC w3 hT)
  rw [ex_get.2.2.2] at hLC
  have hAll := Lib.hid (fun (T : Nat) (w3 : World) (hT : Tab w3 (fun k => w.heap.size ≤ k) T fs2) => all_any _ T fs2 w3 hT ex_ok2)
  have kc := fun (w : World) (C : Array Value) (n c : Nat) => Lib.run_convert_bytes_const (P := Try.prog) w 35 5 C n c Try.underlying35 Try.underlying5
  clear hF
  have hl2 : fs2.length = 2 := rfl
  replace hl2 := Lib.hid hl2
  generalize fs1 = f1 at *
  generalize fs2 = f2 at *
  go_enter Try.func8, Try.ntmps8
  go_wp2_with (first
    | (go_at_call 9; refine (hN.out).mono ?_; rintro e w3 ⟨T, rfl, hT3, hb3⟩
       have hbw3 : Below w.heap.size w w3 := (hb2 _ _).trans (hb3.mono (hb2 _ _).size)
       have hT3 := Lib.hid (hT3.kept (fun _ _ _ => rfl) (fun k _ (hk : _ ≤ k) => Nat.le_trans (hb2 _ _).size hk)))
    | (go_at_call 15; refine (hAdd.out _ _ hT3.out hbw3.size).mono ?_; rintro e w4 ⟨rfl, hT4, hF4⟩
       have hbw4 := hbw3.trans (hF4.below (fun k _ h => h) hbw3.size)
       replace hT4 := Lib.hid hT4)
    | (go_at_call 19; refine (hGet.out _ _ hT4.out).mono ?_; rintro e w5 ⟨v5, rfl, ho5, hb5⟩
       have hT5 := Lib.hid (hT4.out.below hb5)
       obtain ⟨A5, c5, rfl, -, -, -, hB5⟩ := own_byt ho5
       obtain ⟨ad5, rfl, hbk5, hd5⟩ := hB5.at_ (k := 0) (by simp)
       rw [add_nilV] at hd5
       have hbw5 := hbw4.trans (hb5.mono hbw4.size))
    | (go_at_call 22; with_reducible show Calls _ _ #[_, Value.string { data := #[98] }] _ _; refine (hLB.out _ _ hT5.out).mono ?_; rintro e w6 ⟨rfl, hb6⟩
       have hT6 := Lib.hid (hT5.out.below hb6)
       have hd6 := (hb6.cell (p := ad5) hbk5).trans hd5
       have hbw6 := hbw5.trans (hb6.mono hbw5.size)
       have hbk6 := Nat.lt_of_lt_of_le hbk5 hb6.size)
    | (go_at_call 22; refine (hLC.out _ _ hT6.out).mono ?_; rintro e w7 ⟨rfl, hb7⟩
       have hT7 := Lib.hid (hT6.out.below hb7)
       have hd7 := (hb7.cell (p := ad5) hbk6).trans hd6
       have hbw7 := hbw6.trans (hb7.mono hbw6.size))
    | (go_at_call 25; refine (hAll.out _ _ hT7.out).mono ?_; rintro e w8 ⟨v8, vs8, rfl, hR8, hb8⟩
       obtain ⟨A8, c8, rfl, -, -, -⟩ := hR8.fils))
  go_ret
  exact ⟨ret_bool (by rw [hl2.out]; rfl), hbw7.trans (hb8.mono hbw7.size)⟩
end Go.Proofs.Ytkdhfjnfdcopdaa
