/- Contract: Right, of what is too small or too great. -/
import Derived.Test.YtcloimdndcbchaaTreG
set_option maxRecDepth 100000
namespace Go.Proofs.Ytcloimdndcbchaa
open Go.RowKit

theorem no_pred {a b : Nat} : a ≤ b ∨ b < a := by omega
set_option maxHeartbeats 8000000 in
theorem right_small (A : Option Addr) (n c : Nat) (ns : List Nod) (g : Int) (w : World) (hn : n = ns.length) (hm : n ≤ maxLen) (h : ¬ (1 ≤ ns.length ∧ ns.length ≤ 1000 ∧ 0 ≤ g ∧ g ≤ 9)) :
    Calls Try.prog 22 #[.agg #[.slice A n c, .int .i64 g]] w fun e w' => e = .returned (.bool false) ∧ Below w.heap.size w w' := by
  unfold maxLen at hm
  have hb := Lib.hid ((Below.refl w.heap.size w).alloc (Nat.le_refl _) (.cells #[.slice A n c, .int .i64 g] 27))
  rw [← hn] at h
  clear hn
  by_cases h1 : n < 1
  · clear h
    go_enter Try.func22, Try.ntmps22
    go_wp2
    go_ret
    exact ⟨rfl, hb.out⟩
  by_cases h2 : 1000 < n
  · clear h
    go_enter Try.func22, Try.ntmps22
    go_wp2
    go_ret
    exact ⟨rfl, hb.out⟩
  by_cases h3 : g < 0
  · clear h
    go_enter Try.func22, Try.ntmps22
    go_wp2
    go_ret
    exact ⟨rfl, hb.out⟩
  by_cases h4 : 9 < g
  · clear h
    go_enter Try.func22, Try.ntmps22
    go_wp2
    go_ret
    exact ⟨rfl, hb.out⟩
  · exact absurd ⟨by omega, by omega, by omega, by omega⟩ h

end Go.Proofs.Ytcloimdndcbchaa
