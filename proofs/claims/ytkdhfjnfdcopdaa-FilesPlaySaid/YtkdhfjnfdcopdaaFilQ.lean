/- Contracts of the references of package files: Cut, New, Same. -/
import Derived.Test.YtkdhfjnfdcopdaaFilP
import Derived.Deep.RegionWith
namespace Go.Proofs.Ytkdhfjnfdcopdaa
open Go.RowKit

theorem PutPost.mono {w w1 w' : World} {Q : Nat → Prop} {r : List Fil × Int} {e : Ending} (h : PutPost w1 w' Q r e) (hs : w.heap.size ≤ w1.heap.size) : PutPost w w' Q r e :=
  let ⟨A, n, c, h1, h2, h3, h4, h5⟩ := h; ⟨A, n, c, h1, h2, h3, h4, h5.mono fun _ hq _ => hq.imp id fun h => Nat.le_trans hs h⟩
theorem add_nilQ (a : Addr) : a.add 0 = a := by unfold Addr.add; split <;> simp_all
theorem cutFQ {A : Option Addr} {w : World} {Q : Nat → Prop} {l : List UInt8} (h : BytQ w Q A l) (m : Nat) : BytQ w Q A (l.take m) := by
  intro k hk
  rw [List.length_take] at hk
  obtain ⟨ad, h1, h2, h3⟩ := h k (by omega)
  exact ⟨ad, h1, h2, by rw [h3, List.getElem_take]⟩

set_option maxHeartbeats 2000000 in
theorem refCut_any (A : Option Addr) (n c : Nat) (fs : List Fil) (nm : ByteArray) (z : Int) (Q : Nat → Prop) (w : World) (hn : n = fs.length) (hnc : n ≤ c) (hm : c ≤ maxLen) (h : Fils w Q A fs) (hok : OkF fs) (hs : nm.size ≤ maxLen) :
    Calls Try.prog 16 #[.slice A n c, .string nm, .int .i64 z] w fun e w' => PutPost w w' Q (cutF fs nm z) e ∧ Below w.heap.size w w' := by
  have hP := at_any A n c fs nm Q w hn hnc hm h
  have hsame := Lib.hid (fun e0 => putPost_same (e0 := e0) hn hnc hm h)
  have hcu : cutF fs nm z = match posN fs nm with | none => (fs, 6) | some _ => if z < 0 ∨ ((getF fs nm).length : Int) < z then (fs, 3) else (setF fs nm ((getF fs nm).take z.toNat), 0) := rfl
  cases hp : posN fs nm with
  | none =>
    rw [posI_neg hp] at hP
    rw [hp] at hcu
    simp only [hcu]
    replace hP := Lib.hid hP
    unfold maxLen at hm
    clear hp hcu h hn
    go_enter Try.func16, Try.ntmps16
    go_wp2_with (first
      | (go_at_call 20; refine (hP.out).mono ?_; rintro e w1 ⟨rfl, rfl⟩))
    go_ret2
    exact ⟨hsame.out 6, Below.refl _ _⟩
  | some k =>
    obtain ⟨hk, -⟩ := posN_lt hp
    rw [posI_some hp] at hP
    rw [hp] at hcu
    obtain ⟨ad, A1, n1, c1, hA, hbk, hd, he1, hn1, hc1, hm1, hB1⟩ := h.at_ hk
    subst hA
    have hkn : k < n := by omega
    have hgl := getF_some hp hk
    replace hP := Lib.hid hP
    by_cases hbad : z < 0 ∨ ((getF fs nm).length : Int) < z
    · simp only [hcu, if_pos hbad]
      rw [hgl, ← hn1] at hbad
      unfold maxLen at hm hm1
      clear hcu hn1 hgl hB1 hp hn h hd
      rcases hbad with hz | hz
      · go_enter Try.func16, Try.ntmps16
        go_wp2_with (first
          | (go_at_call 20; refine (hP.out).mono ?_; rintro e w1 ⟨rfl, rfl⟩))
        go_ret2
        exact ⟨hsame.out 3, Below.refl _ _⟩
      · have hz0 : ¬ z < 0 := by omega
        go_enter Try.func16, Try.ntmps16
        go_wp2_with (first
          | (go_at_call 20; refine (hP.out).mono ?_; rintro e w1 ⟨rfl, rfl⟩))
        go_ret2
        exact ⟨hsame.out 3, Below.refl _ _⟩
    · simp only [hcu, if_neg hbad]
      obtain ⟨m, rfl⟩ : ∃ m : Nat, z = (m : Int) := ⟨z.toNat, by omega⟩
      have hml : m ≤ (getF fs nm).length := by omega
      have hput := cutF_put hok hp hml
      rw [hcu] at hput
      simp only [if_neg hbad] at hput
      rw [Int.toNat_natCast] at hput ⊢
      rw [← hput]
      rw [← hgl] at hB1 hn1
      have hcut := cutFQ hB1 m
      have hmn : (m : Int) ≤ (n1 : Int) := by omega
      have hC := refPut_any (some ad) n c fs nm A1 m c1 ((getF fs nm).take m) Q Q w hn hnc hm h hok.1 hs (by rw [List.length_take]; omega) hcut
      replace hC := Lib.hid hC
      have hA0 : A1.map (·.add 0) = A1 := by cases A1 <;> simp [add_nilQ]
      unfold maxLen at hm hm1
      clear hcu hn1 hB1 hgl hp hn h hd hput hcut hbad hok hsame
      go_enter Try.func16, Try.ntmps16
      go_wp2_with (first
        | (go_at_call 20; refine (hP.out).mono ?_; rintro e w1 ⟨rfl, rfl⟩)
        | (go_at_call 12; refine (hC.out).mono ?_; rintro e w2 ⟨⟨A9, n9, c9, rfl, k1, k2, k3, k4⟩, hb2⟩
           replace k1 := Lib.hid k1))
      go_ret2
      exact ⟨⟨A9, n9, c9, rfl, k1.out, k2, k3, k4⟩, hb2⟩
end Go.Proofs.Ytkdhfjnfdcopdaa
