/- Contract: Text of package swap, of right parts. -/
import Derived.Test.YtkfdehkembcaoaaSwpJ
import Derived.Test.YtkfdehkembcaoaaSwpL0
import Derived.Test.YtkfdehkembcaoaaSwpU
import Derived.Test.YtkfdehkembcaoaaSwpE
set_option linter.unusedVariables false
set_option linter.unusedSimpArgs false
set_option maxRecDepth 100000
namespace Go.Proofs.Ytkfdehkembcaoaa
open Go.RowKit

/-- Parse of what is written of right parts. -/
theorem parse_right {w : World} {B : Nat} {v : Value} {l : List Prt} (hr : RightL l) (hv : BytV w B v (wrL l)) (hB : B ≤ w.heap.size) (hM : (wrL l).length ≤ 900000) :
    Calls Try.prog 11 #[v, .int .i64 9] w fun e w' => (∃ A c, e = .returned (.tuple #[.slice A l.length c, .int .i64 0, .int .i64 0]) ∧ l.length ≤ c ∧ c ≤ maxLen ∧ Prts w' w'.heap.size A l) ∧ Below w.heap.size w w' := by
  obtain ⟨A, n, c, rfl, hn, hnc, hcm, hb⟩ := hv
  refine (parse_any A n c (wrL l) B 9 w hn hnc hcm hB hb (by omega)).mono ?_
  rintro e w' ⟨h1, h2⟩
  rw [parse_back hr] at h1
  obtain ⟨v, rfl, hi, J, hJ⟩ := h1
  obtain ⟨A2, c2, rfl, k1, k2, k3⟩ := hJ.prts
  exact ⟨⟨A2, c2, rfl, k1, k2, k3⟩, h2⟩
set_option maxHeartbeats 4000000 in
theorem text_any {w : World} {B : Nat} {A : Option Addr} {n c : Nat} {l : List Prt} (hn : n = l.length) (hnc : n ≤ c) (hm : c ≤ maxLen) (hB : B ≤ w.heap.size) (hl : Prts w B A l) (hr : RightL l) (hM : (wrL l).length ≤ 900000) (hb : ∀ p ∈ l, p.b.length ≤ 100000) :
    Calls Try.prog 10 #[.slice A n c] w (BytQ w (wrL l)) := by
  have hI := Lib.hid (isReplacement_yes hn hnc hm hB hl hr)
  have hJ := Lib.hid (fun (w' : World) (hb' : Below w.heap.size w w') => joinedW_any hn hnc hm (Nat.le_trans hB hb'.size) (hl.below (hb'.mono hB)) (by omega) hb hr.can)
  clear hl hn hm hnc hb hr hM hB
  generalize wrL l = T at *
  go_enter Try.func10, Try.ntmps10
  go_wp2_with (first
    | (go_at_call 20; refine (hI.out).mono ?_; rintro e w1 ⟨rfl, hb1⟩; have hb1h := Lib.hid hb1; clear hb1)
    | (go_at_call 21; refine (hJ.out w1 hb1h.out).mono ?_; rintro e w2 ⟨⟨v, rfl, hv⟩, hb2⟩))
  go_ret
  exact ⟨⟨_, rfl, sw_base hv hb1h.out.size⟩, hb1h.out.trans (hb2.mono hb1h.out.size)⟩
end Go.Proofs.Ytkfdehkembcaoaa
