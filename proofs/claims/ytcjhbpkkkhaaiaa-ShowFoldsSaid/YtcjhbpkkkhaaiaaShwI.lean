/- Layer 4: the contracts of show.Row and of the law's awake. -/
import Derived.Test.YtcjhbpkkkhaaiaaShwE
import Derived.Test.YtcjhbpkkkhaaiaaShelf
import Derived.Lib.SlBytesConst
namespace Go.Proofs.Ytcjhbpkkkhaaiaa
open Go.RowKit

/-- The words with one blank between two. -/
def rowS (ss : List ByteArray) : List UInt8 := Lib.join (ss.map (·.data.toList)) [32]
theorem rowS_len : ∀ (ss : List ByteArray) (b : Nat), (∀ s ∈ ss, s.size ≤ b) → (rowS ss).length ≤ (b + 1) * ss.length
  | [], b, _ => by simp [rowS, Lib.join_nil]
  | s :: r, b, h => by
    have h1 := h s (by simp)
    have h2 : ∀ l : List ByteArray, (∀ s ∈ l, s.size ≤ b) → (Lib.joinTail [32] (l.map (·.data.toList))).length ≤ (b + 1) * l.length := by
      intro l hl
      induction l with
      | nil => simp [Lib.joinTail]
      | cons x l ih =>
        have h3 := hl x (by simp)
        have h4 := ih (fun s hs => hl s (by simp [hs]))
        have e : Lib.joinTail [32] ((x :: l).map (·.data.toList)) = [32] ++ x.data.toList ++ Lib.joinTail [32] (l.map (·.data.toList)) := by simp [Lib.joinTail]
        rw [e]; simp only [List.length_append, len_toList, List.length_cons, List.length_nil, Nat.mul_succ]; omega
    have h3 := h2 r (fun s hs => h s (by simp [hs]))
    have e : rowS (s :: r) = s.data.toList ++ Lib.joinTail [32] (r.map (·.data.toList)) := by unfold rowS; rw [List.map_cons, Lib.join_cons]
    rw [e, List.length_append, len_toList, List.length_cons, Nat.mul_succ]
    omega

theorem row_any (A : Option Addr) (n c : Nat) (ss : List ByteArray) (w : World) (hn : n = ss.length) (hnc : n ≤ c) (hbig : n ≤ 1000) (hz : ∀ s ∈ ss, s.size ≤ 1000) (h : Vals w w.heap.size A (ss.map Value.string)) :
    Calls Try.prog 14 #[.slice A n c] w fun e w' => e = .returned (.string ⟨(rowS ss).toArray⟩) ∧ Below w.heap.size w w' := by
  have hlen := rowS_len ss 1000 hz
  have hJ : Calls Try.prog 22 #[.slice A n c, .string ⟨#[32]⟩] w fun e w' => e = .returned (.string ⟨(rowS ss).toArray⟩) ∧ Below w.heap.size w w' := by
    subst hn
    match ss, h, hz with
    | [], _, _ => exact (Try.strings_Join_none A c ⟨#[32]⟩ w).mono fun e w' ⟨he, hw⟩ => ⟨he, hw ▸ Below.refl _ _⟩
    | s :: r, h, hz =>
      obtain ⟨ad, rfl, hb, hc⟩ := h.at_ (k := 0) (by simp)
      have hsp : ad.spot = none := World.cell?_spot (show w.cell? ad = some _ from hc)
      obtain ⟨b, o, sp⟩ := ad
      obtain rfl : sp = none := hsp
      refine Try.strings_Join b o c (s :: r) ⟨#[32]⟩ w (fun j x hx => ?_) hb (by omega) hnc (by show (rowS (s :: r)).length ≤ _; omega)
      obtain ⟨hj, rfl⟩ := List.getElem?_eq_some_iff.1 hx
      obtain ⟨ad', he, _, hc'⟩ := h.at_ (k := j) (by rw [List.length_map]; exact hj)
      obtain rfl := Option.some.inj he
      rw [show (Addr.add ⟨b, o, none⟩ j) = ⟨b, o + j, none⟩ by unfold Addr.add; split <;> simp_all] at hc'
      rw [hc', List.getElem_map]
  replace hJ := Lib.hid hJ
  clear h hz hn hlen
  go_enter Try.func14, Try.ntmps14
  go_wp2_with (go_at_call 22; refine (hJ.out).mono ?_; rintro e w1 ⟨rfl, hb1⟩)
  go_ret
  exact ⟨rfl, hb1⟩

theorem conv_byt {w : World} {B : Nat} {A : Option Addr} {l : List UInt8} {n c : Nat} (h : Byt w B A l) (hn : n = l.length) (h0 : l ≠ []) :
    (convert 22 9 (.slice A n c)).run Try.prog w = .ok (.string ⟨l.toArray⟩) w := by
  subst hn
  have hl : 0 < l.length := List.length_pos_iff.2 h0
  obtain ⟨ad, rfl, _, _⟩ := h.at_ hl
  exact run_convert_bytes_back (P := Try.prog) w 22 9 5 ad c l Try.underlying22 Try.underlying5 Try.underlying9 (fun j hj => by
    obtain ⟨ad', he, _, hc⟩ := h.at_ hj
    obtain rfl := Option.some.inj he
    exact hc)

set_option maxHeartbeats 1000000 in
theorem awake_any (w : World) : Calls Try.prog 7 #[] w fun e w' => e = .returned (.bool true) ∧ Below w.heap.size w w' := by
  have hszA : ∀ (w : World) (o : Obj), (w.alloc o).heap.size = w.heap.size + 1 := fun w o => by simp
  have hL := Lib.hid (fun (w : World) => list_any (some ⟨w.heap.size, 0, none⟩) 1 1 [10] 0 (w.alloc (.cells #[.int .u8 10] 5 (1, 2))) rfl (Nat.le_refl _) (by omega) (by omega) (by omega) ((byt_new w [10] 5 (1, 2)).more (by rw [hszA]; omega)))
  have hQ := Lib.hid (fun (w : World) => quote_any (some ⟨w.heap.size, 0, none⟩) 2 2 [97, 34] (w.alloc (.cells #[.int .u8 97, .int .u8 34] 5 (2, 3))) rfl (Nat.le_refl _) (by omega) ((byt_new w [97, 34] 5 (2, 3)).more (by rw [hszA]; omega)))
  have hR := Lib.hid (fun (w : World) => row_any (some ⟨w.heap.size, 0, none⟩) 2 2 [⟨#[97]⟩, ⟨#[98]⟩] (w.alloc (.cells #[.string ⟨#[97]⟩, .string ⟨#[98]⟩] 9)) rfl (Nat.le_refl _) (by omega) (by intro s hs; simp at hs; rcases hs with rfl | rfl <;> decide) ((vals_new w [.string ⟨#[97]⟩, .string ⟨#[98]⟩] 9 (0, 0)).more (by rw [hszA]; omega)))
  rw [show foldS 0 0 [10] = [92, 110, 36] by decide] at hL
  rw [show quoteS [97, 34] = [34, 97, 92, 34, 34] by decide] at hQ
  rw [show rowS [⟨#[97]⟩, ⟨#[98]⟩] = [97, 32, 98] by decide] at hR
  have kc := fun (w : World) (C : Array Value) (n c : Nat) => Lib.run_convert_bytes_const (P := Try.prog) w 22 5 C n c Try.underlying22 Try.underlying5
  go_enter Try.func7, Try.ntmps7
  go_wp2_with (first
    | (go_at_call 8; refine (hL.out _).mono ?_; rintro e w1 ⟨v, rfl, ho, hb1⟩
       obtain ⟨A1, c1, rfl, hn1, -, -, hB1⟩ := own_byt ho
       have hcv := conv_byt (n := 3) (c := c1) hB1 rfl (by simp)
       have hbW : Below w.heap.size w w1 := ((Below.refl _ _).alloc (Nat.le_refl _) _).trans (hb1.mono (by rw [hszA]; omega)))
    | (go_at_call 10; refine (hQ.out _).mono ?_; rintro e w2 ⟨rfl, hb2⟩
       have hbX := (hbW.alloc hbW.size _).trans (hb2.mono (by have := hbW.size; rw [hszA]; omega)))
    | (go_at_call 14; refine (hR.out _).mono ?_; rintro e w3 ⟨rfl, hb3⟩
       have hbY := (hbX.alloc hbX.size _).trans (hb3.mono (by have := hbX.size; rw [hszA]; omega))))
  go_ret
  exact ⟨rfl, hbY⟩
end Go.Proofs.Ytcjhbpkkkhaaiaa
