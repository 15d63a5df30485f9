/-
  No cell of these rows narrows 'for every input' (looked for: loops, veiled, ifaces, maps, wideKeys, modest, calm, conditions, laid).
  DERIVED. THE GIVEN ROWS OF THIS SEAT. 4 by the template 'for every input the law returns true; each argument reads behind the call as it read before'; 0 by the template 'total and deterministic' (their statements: YtkfdehkembcaoaaTotals.lean).
  GIVEN WITH THE SEED: the statements are not yours to turn. If you find one false, say at which input.
  Laid BY PROGRAM, IN A SANDBOX (cutbox-rows.mjs): the forced cells as the released guide's own fill.sh prints them over the translation 75c1f75e3332d39c… (all of the seat's roots in one cut). By AI agents, Wed Nov 11 2026. No macro, syntax, notation, axiom, sorry.
-/
import Derived.Test.YtkfdehkembcaoaaChecked
import GoSem.Claim
import GoSem.ClaimJoined
import GoSem.ClaimMapViews
import Derived.JoinedTies
import Derived.KernelRfl
namespace Go.Proofs.Ytkfdehkembcaoaa
/- THE CELL 'sum', in the pinned program and in every row, IS THE sha256 OF THE DUMP (.gsa) THAT YtkfdehkembcaoaaProg.lean LOADS. Nothing in Lean hashes anything: it is a label: what it is worth is what the hold of that sum in a sandbox is worth. -/
noncomputable def Try.pinned : Pinned := { name := "ytkfdehkembcaoaa", sum := "75c1f75e3332d39c3b94530cdda0017874cb5e3f7cd112f1da685a2c0f54c5c7", checked := Try.checked }
namespace Rows
def none {H : Type} : Left H := { results := [], args := [] }

/-- 'palinodelaw13.SwapBack': WHATEVER THE INPUT: true; the input reads as it did. -/
def swapBackSpec : ChangeSpec := { name := "swapBack", fn := fun _ => fun
  | [d] => { results := [.lit (.bool true)], args := [d] }
  | _ => none }
def swapBackRow : OpenClaim := { program := "ytkfdehkembcaoaa", sum := "75c1f75e3332d39c3b94530cdda0017874cb5e3f7cd112f1da685a2c0f54c5c7", func := "palinode/palinodelaw13.SwapBack", spec := "swapBack", unfollowed := true, recurses := true, apart := false }
def SwapBackSaid : Prop := swapBackRow.holds Try.pinned (OpenSpec.ofChange swapBackSpec)

/-- ITS FALSE NEIGHBOUR: 'it returns false'. Refute it at one input. -/
def swapBackWrong : ChangeSpec := { name := "swapBack", fn := fun _ => fun
  | [d] => { results := [.lit (.bool false)], args := [d] }
  | _ => none }
def SwapBackWrongFalsely : Prop := swapBackRow.holds Try.pinned (OpenSpec.ofChange swapBackWrong)

/-- 'palinodelaw13.SwapExpands': WHATEVER THE INPUT: true; the input reads as it did. -/
def swapExpandsSpec : ChangeSpec := { name := "swapExpands", fn := fun _ => fun
  | [d1, d2, d3] => { results := [.lit (.bool true)], args := [d1, d2, d3] }
  | _ => none }
def swapExpandsRow : OpenClaim := { program := "ytkfdehkembcaoaa", sum := "75c1f75e3332d39c3b94530cdda0017874cb5e3f7cd112f1da685a2c0f54c5c7", func := "palinode/palinodelaw13.SwapExpands", spec := "swapExpands", unfollowed := true, recurses := true, apart := false }
def SwapExpandsSaid : Prop := swapExpandsRow.holds Try.pinned (OpenSpec.ofChange swapExpandsSpec)

/-- ITS FALSE NEIGHBOUR: 'it returns false'. Refute it at one input. -/
def swapExpandsWrong : ChangeSpec := { name := "swapExpands", fn := fun _ => fun
  | [d1, d2, d3] => { results := [.lit (.bool false)], args := [d1, d2, d3] }
  | _ => none }
def SwapExpandsWrongFalsely : Prop := swapExpandsRow.holds Try.pinned (OpenSpec.ofChange swapExpandsWrong)

/-- 'palinodelaw13.SwapReplaces': WHATEVER THE INPUT: true; the input reads as it did. -/
def swapReplacesSpec : ChangeSpec := { name := "swapReplaces", fn := fun _ => fun
  | [d1, d2, d3] => { results := [.lit (.bool true)], args := [d1, d2, d3] }
  | _ => none }
def swapReplacesRow : OpenClaim := { program := "ytkfdehkembcaoaa", sum := "75c1f75e3332d39c3b94530cdda0017874cb5e3f7cd112f1da685a2c0f54c5c7", func := "palinode/palinodelaw13.SwapReplaces", spec := "swapReplaces", unfollowed := true, recurses := true, apart := false }
def SwapReplacesSaid : Prop := swapReplacesRow.holds Try.pinned (OpenSpec.ofChange swapReplacesSpec)

/-- ITS FALSE NEIGHBOUR: 'it returns false'. Refute it at one input. -/
def swapReplacesWrong : ChangeSpec := { name := "swapReplaces", fn := fun _ => fun
  | [d1, d2, d3] => { results := [.lit (.bool false)], args := [d1, d2, d3] }
  | _ => none }
def SwapReplacesWrongFalsely : Prop := swapReplacesRow.holds Try.pinned (OpenSpec.ofChange swapReplacesWrong)

/-- 'palinodelaw13.SwapSame': WHATEVER THE INPUT: true; the input reads as it did. -/
def swapSameSpec : ChangeSpec := { name := "swapSame", fn := fun _ => fun
  | [d1, d2] => { results := [.lit (.bool true)], args := [d1, d2] }
  | _ => none }
def swapSameRow : OpenClaim := { program := "ytkfdehkembcaoaa", sum := "75c1f75e3332d39c3b94530cdda0017874cb5e3f7cd112f1da685a2c0f54c5c7", func := "palinode/palinodelaw13.SwapSame", spec := "swapSame", unfollowed := true, recurses := true, apart := false }
def SwapSameSaid : Prop := swapSameRow.holds Try.pinned (OpenSpec.ofChange swapSameSpec)

/-- ITS FALSE NEIGHBOUR: 'it returns false'. Refute it at one input. -/
def swapSameWrong : ChangeSpec := { name := "swapSame", fn := fun _ => fun
  | [d1, d2] => { results := [.lit (.bool false)], args := [d1, d2] }
  | _ => none }
def SwapSameWrongFalsely : Prop := swapSameRow.holds Try.pinned (OpenSpec.ofChange swapSameWrong)

/- THE SECOND FORM. 'bulk': how many values and letters a reading holds, each counted each time it is reached (what is shared counts as often as it is met; a slice's spare places count too). A statement '..UptoSaid' is the law's where the arguments, and the package variables that the reading takes, are together of bulk at most 1048576: NARROWER than '..Said'. Prove '..Said' where nothing that the law and all that it calls make is longer than what came in: it says more and counts as full. Else prove '..UptoSaid'. A law counts once. -/
mutual
def uptoBulk {H : Type} : DataW H → Nat
  | .lit (.string bytes) => bytes.length + 1
  | .lit _ => 1
  | .nil => 1
  | .ptr d => uptoBulk d + 1
  | .slice elems spare => uptoBulkAll elems + uptoBulkAll spare + 1
  | .agg parts => uptoBulkAll parts + 1
  | .iface _ d => uptoBulk d + 1
  | .map entries => uptoBulkEntries entries + 1
  | .held _ => 1
def uptoBulkAll {H : Type} : List (DataW H) → Nat
  | [] => 0
  | d :: r => uptoBulk d + uptoBulkAll r
def uptoBulkEntries {H : Type} : List (Lit × DataW H) → Nat
  | [] => 0
  | x :: r => uptoBulkEntry x + uptoBulkEntries r
def uptoBulkEntry {H : Type} : Lit × DataW H → Nat
  | (.string bytes, d) => bytes.length + uptoBulk d + 1
  | (_, d) => uptoBulk d + 1
 end
def uptoSmall : (H : Type) → List (DataW H) → Bool := fun _ ds => decide (uptoBulkAll ds ≤ 1048576)
def OpenSpec.upto (s : _root_.Go.ChangeSpec) : _root_.Go.OpenSpec := { _root_.Go.OpenSpec.ofChange s with cond := some uptoSmall }

/-- 'palinodelaw13.SwapBack', WHERE WHAT IT READS IS OF BULK AT MOST 1048576: true; the input reads as it did. -/
def swapBackUptoRow : OpenClaim := { program := "ytkfdehkembcaoaa", sum := "75c1f75e3332d39c3b94530cdda0017874cb5e3f7cd112f1da685a2c0f54c5c7", func := "palinode/palinodelaw13.SwapBack", spec := "swapBack", unfollowed := true, recurses := true, apart := false, narrowed := true }
def SwapBackUptoSaid : Prop := swapBackUptoRow.holds Try.pinned (OpenSpec.upto swapBackSpec)

/-- 'palinodelaw13.SwapExpands', WHERE WHAT IT READS IS OF BULK AT MOST 1048576: true; the input reads as it did. -/
def swapExpandsUptoRow : OpenClaim := { program := "ytkfdehkembcaoaa", sum := "75c1f75e3332d39c3b94530cdda0017874cb5e3f7cd112f1da685a2c0f54c5c7", func := "palinode/palinodelaw13.SwapExpands", spec := "swapExpands", unfollowed := true, recurses := true, apart := false, narrowed := true }
def SwapExpandsUptoSaid : Prop := swapExpandsUptoRow.holds Try.pinned (OpenSpec.upto swapExpandsSpec)

/-- 'palinodelaw13.SwapReplaces', WHERE WHAT IT READS IS OF BULK AT MOST 1048576: true; the input reads as it did. -/
def swapReplacesUptoRow : OpenClaim := { program := "ytkfdehkembcaoaa", sum := "75c1f75e3332d39c3b94530cdda0017874cb5e3f7cd112f1da685a2c0f54c5c7", func := "palinode/palinodelaw13.SwapReplaces", spec := "swapReplaces", unfollowed := true, recurses := true, apart := false, narrowed := true }
def SwapReplacesUptoSaid : Prop := swapReplacesUptoRow.holds Try.pinned (OpenSpec.upto swapReplacesSpec)

/-- 'palinodelaw13.SwapSame', WHERE WHAT IT READS IS OF BULK AT MOST 1048576: true; the input reads as it did. -/
def swapSameUptoRow : OpenClaim := { program := "ytkfdehkembcaoaa", sum := "75c1f75e3332d39c3b94530cdda0017874cb5e3f7cd112f1da685a2c0f54c5c7", func := "palinode/palinodelaw13.SwapSame", spec := "swapSame", unfollowed := true, recurses := true, apart := false, narrowed := true }
def SwapSameUptoSaid : Prop := swapSameUptoRow.holds Try.pinned (OpenSpec.upto swapSameSpec)

end Rows
end Go.Proofs.Ytkfdehkembcaoaa
