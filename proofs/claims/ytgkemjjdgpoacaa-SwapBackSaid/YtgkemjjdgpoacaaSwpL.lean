/- Contract: Text of package swap, of right parts. -/
import Derived.Test.YtgkemjjdgpoacaaSwpJ
import Derived.Test.YtgkemjjdgpoacaaSwpK
import Derived.Test.YtgkemjjdgpoacaaSwpU
import Derived.Test.YtgkemjjdgpoacaaSwpE
set_option linter.unusedVariables false
set_option linter.unusedSimpArgs false
set_option maxRecDepth 100000
namespace Go.Proofs.Ytgkemjjdgpoacaa
open Go.RowKit

/-- Parse of what is written of right parts. -/
theorem parse_right {w : World} {B : Nat} {v : Value} {l : List Prt} (hr : RightL l) (hv : BytV w B v (wrL l)) (hB : B ≤ w.heap.size) (hM : (wrL l).length ≤ 900000) :
    Calls Try.prog 11 #[v, .int .i64 9] w fun e w' => (∃ A c, e = .returned (.tuple #[.slice A l.length c, .int .i64 0, .int .i64 0]) ∧ l.length ≤ c ∧ c ≤ maxLen ∧ Prts w' w'.heap.size A l) ∧ Below w.heap.size w w' := by
  obtain ⟨A, n, c, rfl, hn, hnc, hcm, hb⟩ := hv
  refine (parse_any A n c (wrL l) B 9 w hn hnc hcm hB hb (by omega)).mono ?_
  rintro e w' ⟨h1, h2⟩
  rw [parse_back hr] at h1
  obtain ⟨v, rfl, hi, J, hJ⟩ := h1
  obtain ⟨A2, c2, rfl, k1, k2, k3⟩ := hJ.prts
  exact ⟨⟨A2, c2, rfl, k1, k2, k3⟩, h2⟩
set_option maxHeartbeats 4000000 in
theorem text_any {w : World} {B : Nat} {A : Option Addr} {n c : Nat} {l : List Prt} (hn : n = l.length) (hnc : n ≤ c) (hm : c ≤ maxLen) (hB : B ≤ w.heap.size) (hl : Prts w B A l) (hr : RightL l) (hM : (wrL l).length ≤ 900000) (hb : ∀ p ∈ l, p.b.length ≤ 100000) :
    Calls Try.prog 10 #[.slice A n c] w (BytQ w (wrL l)) := by
  have hJ := Lib.hid (joinedW_any hn hnc hm hB hl (by omega) hb)
  have hP := Lib.hid (fun (w' : World) (v : Value) (hv : BytV w' w'.heap.size v (wrL l)) => parse_right hr hv (Nat.le_refl _) hM)
  have hS := Lib.hid (fun (w' : World) (hb : Below w.heap.size w w') (A2 : Option Addr) (c2 : Nat) (k1 : l.length ≤ c2) (k2 : c2 ≤ maxLen) (k3 : Prts w' w'.heap.size A2 l) => show Calls Try.prog 19 #[.slice A2 n c2, .slice A n c] w' fun e w'' => e = .returned (.bool true) ∧ Below w'.heap.size w' w'' from
    same_self hn (by rw [hn]; exact k1) k2 hnc hm (Nat.le_refl _) k3 ((hl.below (hb.mono hB)).more (Nat.le_trans hB hb.size)))
  have hnh := Lib.hid hn.symm
  clear hl hn hm hnc hb hr
  generalize wrL l = T at *
  go_enter Try.func10, Try.ntmps10
  go_wp2_with (first
    | (go_at_call 20; refine (hJ.out).mono ?_; rintro e w1 ⟨⟨v, rfl, hv⟩, hb1⟩; obtain ⟨A1, m1, c1, rfl⟩ := hv.slice; have hvh := Lib.hid hv; have hb1h := Lib.hid hb1; clear hv hb1)
    | (go_at_call 11; refine (hP.out w1 _ hvh.out.byt).mono ?_; rintro e w2 ⟨⟨A2, c2, rfl, k1, k2, k3⟩, hb2⟩; rw [hnh.out]; have hk := Lib.hid (And.intro k1 (And.intro k2 k3)); have hb3 := Lib.hid (hb1h.out.trans (hb2.mono hb1h.out.size)); have hv2 := Lib.hid (hvh.out.keep hb2); clear k1 k2 k3 hb2)
    | (go_at_call 19; refine (hS.out w2 hb3.out A2 c2 hk.out.1 hk.out.2.1 hk.out.2.2).mono ?_; rintro e w4 ⟨rfl, hb4⟩))
  go_ret
  exact ⟨⟨_, rfl, hv2.out.keep hb4⟩, hb3.out.trans (hb4.mono hb3.out.size)⟩
end Go.Proofs.Ytgkemjjdgpoacaa
