/- The contract of the reference's Parse, whole. -/
import Derived.Test.YtiiaheaadbhomaaBrkT
import Derived.Test.YtiiaheaadbhomaaBrkU
namespace Go.Proofs.Ytiiaheaadbhomaa
open Go.RowKit

theorem refParse_any (A : Option Addr) (n c : Nat) (l : List UInt8) (w : World) (hn : n = l.length) (hnc : n ≤ c) (hns : n ≤ 100000) (hbt : Byt w w.heap.size A l) (k : Nat) (hk : k ≤ n) :
    Calls Try.prog 9 #[.slice A n c, .int .i64 (k : Int)] w fun e w' => e = .returned (.tuple #[.agg (setC (told (readB l k)).1), .int .i64 ((told (readB l k)).2.1 : Int), .int .i64 ((told (readB l k)).2.2 : Int)]) ∧ Below w.heap.size w w' := by
  cases hx : bg [94] (l.drop k) with
  | true => exact refParse_true A n c l w hn hnc hns hbt k hk hx
  | false => exact refParse_false A n c l w hn hnc hns hbt k hk hx
end Go.Proofs.Ytiiaheaadbhomaa
