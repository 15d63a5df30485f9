/- Contract: Open (package scan). -/
import Derived.Test.YtdjnlploddlkbaaScnB
import Derived.Test.YtdjnlploddlkbaaByK
set_option linter.unusedVariables false
set_option linter.unusedSimpArgs false
set_option maxRecDepth 100000
namespace Go.Proofs.Ytdjnlploddlkbaa
open Go.RowKit

section
variable {l : List UInt8} {B : Nat}
theorem cur_box_ (w : World) (v : Value) (a : Int) : Held (w.alloc (.cells #[v, .int .i64 a] 45)) w.heap.size 45 #[v, .int .i64 a] := held_new w _ _
set_option maxHeartbeats 1000000 in
theorem open_any {A : Option Addr} {n c : Nat} (hn : n = l.length) {w : World} (hb : Byt w B A l) (hB : B ≤ w.heap.size) (hl : l.length ≤ 1000000) :
    Calls Try.prog 7 #[.slice A n c] w fun e w' => (∃ C v, e = .returned (.pointer (some ⟨C, 0, none⟩)) ∧ w.heap.size ≤ C ∧ Cur w' w.heap.size C v l 0) ∧ Below w.heap.size w w' := by
  subst hn
  have hC := Lib.hid (clone_any A l.length c l B w rfl (by omega) hb)
  clear hb
  generalize hN : l.length = n at *
  replace hN := Lib.hid hN
  go_enter Try.func7, Try.ntmps7
  go_wp2_with (go_at_call 23; refine (hC.out).mono ?_; rintro e w1 ⟨v1, rfl, ho1, hb1⟩; obtain ⟨A1, d1, rfl, -⟩ := own_byt ho1; have ho1h := Lib.hid ho1; have hb1h := Lib.hid hb1; clear ho1 hb1)
  go_ret
  refine ⟨⟨w1.heap.size, .slice A1 n d1, rfl, hb1h.out.size, ?_, ?_, hb1h.out.size, Nat.zero_le _, by rw [hN.out]; exact hl⟩, hb1h.out.alloc hb1h.out.size _⟩
  · exact cur_box_ w1 _ 0
  · have := ho1h.out
    rw [← hN.out] at this ⊢
    exact OwnB.keep this ((Below.refl w1.heap.size w1).alloc (Nat.le_refl _) _)
end
end Go.Proofs.Ytdjnlploddlkbaa
