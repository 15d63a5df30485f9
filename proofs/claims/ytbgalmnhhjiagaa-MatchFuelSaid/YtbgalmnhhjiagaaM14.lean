/- A node without a set, as a value. Plain facts of trees: what fits, what is put, Re in two parts. -/
import Derived.Test.YtbgalmnhhjiagaaM10
import Derived.Test.YtbgalmnhhjiagaaM13
set_option maxRecDepth 100000
namespace Go.Proofs.Ytbgalmnhhjiagaa
open Go.RowKit

theorem nodV_z (k a b lo hi g : Int) : nodV ⟨k, a, b, lo, hi, g, zset⟩ = .agg #[.int .i64 k, .int .i64 a, .int .i64 b, .int .i64 lo, .int .i64 hi, .int .i64 g, .int .u64 0, .int .u64 0, .int .u64 0, .int .u64 0] := by unfold nodV; rw [nodC_z]
end Go.Proofs.Ytbgalmnhhjiagaa

set_option linter.unusedVariables false
set_option maxRecDepth 100000
namespace Go.Proofs.Ytbgalmnhhjiagaa
open Go.RowKit

end Go.Proofs.Ytbgalmnhhjiagaa
