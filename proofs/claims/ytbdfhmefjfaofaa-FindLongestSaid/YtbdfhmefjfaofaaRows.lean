/-
  No cell of these rows narrows 'for every input' (looked for: loops, veiled, ifaces, maps, wideKeys, modest, calm, conditions, laid).
  DERIVED. THE GIVEN ROWS OF THIS SEAT. 6 by the template 'for every input the law returns true; each argument reads behind the call as it read before'; 0 by the template 'total and deterministic' (their statements: YtbdfhmefjfaofaaTotals.lean).
  GIVEN WITH THE SEED: the statements are not yours to turn. If you find one false, say at which input.
  Laid BY PROGRAM, IN A SANDBOX (cutbox-rows.mjs): the forced cells as the released guide's own fill.sh prints them over the translation cda554fe17a6ba2f… (all of the seat's roots in one cut). By AI agents, Wed Nov 11 2026. No macro, syntax, notation, axiom, sorry.
-/
import Derived.Test.YtbdfhmefjfaofaaChecked
import GoSem.Claim
import GoSem.ClaimJoined
import GoSem.ClaimMapViews
import Derived.JoinedTies
import Derived.KernelRfl
namespace Go.Proofs.Ytbdfhmefjfaofaa
/- THE CELL 'sum', in the pinned program and in every row, IS THE sha256 OF THE DUMP (.gsa) THAT YtbdfhmefjfaofaaProg.lean LOADS. Nothing in Lean hashes anything: it is a label: what it is worth is what the hold of that sum in a sandbox is worth. -/
noncomputable def Try.pinned : Pinned := { name := "ytbdfhmefjfaofaa", sum := "cda554fe17a6ba2fc6bba87ad37e15373bfdf9fa6e36b42e9793db72bf2ecacb", checked := Try.checked }
namespace Rows
def none {H : Type} : Left H := { results := [], args := [] }

/-- 'palinodelaw11.MatchTells': WHATEVER THE INPUT: true; the input reads as it did. -/
def matchTellsSpec : ChangeSpec := { name := "matchTells", fn := fun _ => fun
  | [d1, d2, d3, d4] => { results := [.lit (.bool true)], args := [d1, d2, d3, d4] }
  | _ => none }
def matchTellsRow : OpenClaim := { program := "ytbdfhmefjfaofaa", sum := "cda554fe17a6ba2fc6bba87ad37e15373bfdf9fa6e36b42e9793db72bf2ecacb", func := "palinode/palinodelaw11.MatchTells", spec := "matchTells", unfollowed := true, recurses := true, apart := false }
def MatchTellsSaid : Prop := matchTellsRow.holds Try.pinned (OpenSpec.ofChange matchTellsSpec)

/-- ITS FALSE NEIGHBOUR: 'it returns false'. Refute it at one input. -/
def matchTellsWrong : ChangeSpec := { name := "matchTells", fn := fun _ => fun
  | [d1, d2, d3, d4] => { results := [.lit (.bool false)], args := [d1, d2, d3, d4] }
  | _ => none }
def MatchTellsWrongFalsely : Prop := matchTellsRow.holds Try.pinned (OpenSpec.ofChange matchTellsWrong)

/-- 'palinodelaw11.MatchRelates': WHATEVER THE INPUT: true; the input reads as it did. -/
def matchRelatesSpec : ChangeSpec := { name := "matchRelates", fn := fun _ => fun
  | [d1, d2, d3] => { results := [.lit (.bool true)], args := [d1, d2, d3] }
  | _ => none }
def matchRelatesRow : OpenClaim := { program := "ytbdfhmefjfaofaa", sum := "cda554fe17a6ba2fc6bba87ad37e15373bfdf9fa6e36b42e9793db72bf2ecacb", func := "palinode/palinodelaw11.MatchRelates", spec := "matchRelates", unfollowed := true, recurses := true, apart := false }
def MatchRelatesSaid : Prop := matchRelatesRow.holds Try.pinned (OpenSpec.ofChange matchRelatesSpec)

/-- ITS FALSE NEIGHBOUR: 'it returns false'. Refute it at one input. -/
def matchRelatesWrong : ChangeSpec := { name := "matchRelates", fn := fun _ => fun
  | [d1, d2, d3] => { results := [.lit (.bool false)], args := [d1, d2, d3] }
  | _ => none }
def MatchRelatesWrongFalsely : Prop := matchRelatesRow.holds Try.pinned (OpenSpec.ofChange matchRelatesWrong)

/-- 'palinodelaw12.FindFirst': WHATEVER THE INPUT: true; the input reads as it did. -/
def findFirstSpec : ChangeSpec := { name := "findFirst", fn := fun _ => fun
  | [d1, d2, d3, d4] => { results := [.lit (.bool true)], args := [d1, d2, d3, d4] }
  | _ => none }
def findFirstRow : OpenClaim := { program := "ytbdfhmefjfaofaa", sum := "cda554fe17a6ba2fc6bba87ad37e15373bfdf9fa6e36b42e9793db72bf2ecacb", func := "palinode/palinodelaw12.FindFirst", spec := "findFirst", unfollowed := true, recurses := true, apart := false }
def FindFirstSaid : Prop := findFirstRow.holds Try.pinned (OpenSpec.ofChange findFirstSpec)

/-- ITS FALSE NEIGHBOUR: 'it returns false'. Refute it at one input. -/
def findFirstWrong : ChangeSpec := { name := "findFirst", fn := fun _ => fun
  | [d1, d2, d3, d4] => { results := [.lit (.bool false)], args := [d1, d2, d3, d4] }
  | _ => none }
def FindFirstWrongFalsely : Prop := findFirstRow.holds Try.pinned (OpenSpec.ofChange findFirstWrong)

/-- 'palinodelaw12.FindAll': WHATEVER THE INPUT: true; the input reads as it did. -/
def findAllSpec : ChangeSpec := { name := "findAll", fn := fun _ => fun
  | [d1, d2, d3] => { results := [.lit (.bool true)], args := [d1, d2, d3] }
  | _ => none }
def findAllRow : OpenClaim := { program := "ytbdfhmefjfaofaa", sum := "cda554fe17a6ba2fc6bba87ad37e15373bfdf9fa6e36b42e9793db72bf2ecacb", func := "palinode/palinodelaw12.FindAll", spec := "findAll", unfollowed := true, recurses := true, apart := false }
def FindAllSaid : Prop := findAllRow.holds Try.pinned (OpenSpec.ofChange findAllSpec)

/-- ITS FALSE NEIGHBOUR: 'it returns false'. Refute it at one input. -/
def findAllWrong : ChangeSpec := { name := "findAll", fn := fun _ => fun
  | [d1, d2, d3] => { results := [.lit (.bool false)], args := [d1, d2, d3] }
  | _ => none }
def FindAllWrongFalsely : Prop := findAllRow.holds Try.pinned (OpenSpec.ofChange findAllWrong)

/-- 'palinodelaw12.FindLongest': WHATEVER THE INPUT: true; the input reads as it did. -/
def findLongestSpec : ChangeSpec := { name := "findLongest", fn := fun _ => fun
  | [d1, d2] => { results := [.lit (.bool true)], args := [d1, d2] }
  | _ => none }
def findLongestRow : OpenClaim := { program := "ytbdfhmefjfaofaa", sum := "cda554fe17a6ba2fc6bba87ad37e15373bfdf9fa6e36b42e9793db72bf2ecacb", func := "palinode/palinodelaw12.FindLongest", spec := "findLongest", unfollowed := true, recurses := true, apart := false }
def FindLongestSaid : Prop := findLongestRow.holds Try.pinned (OpenSpec.ofChange findLongestSpec)

/-- ITS FALSE NEIGHBOUR: 'it returns false'. Refute it at one input. -/
def findLongestWrong : ChangeSpec := { name := "findLongest", fn := fun _ => fun
  | [d1, d2] => { results := [.lit (.bool false)], args := [d1, d2] }
  | _ => none }
def FindLongestWrongFalsely : Prop := findLongestRow.holds Try.pinned (OpenSpec.ofChange findLongestWrong)

/-- 'palinodelaw12.FindApart': WHATEVER THE INPUT: true; the input reads as it did. -/
def findApartSpec : ChangeSpec := { name := "findApart", fn := fun _ => fun
  | [d1, d2] => { results := [.lit (.bool true)], args := [d1, d2] }
  | _ => none }
def findApartRow : OpenClaim := { program := "ytbdfhmefjfaofaa", sum := "cda554fe17a6ba2fc6bba87ad37e15373bfdf9fa6e36b42e9793db72bf2ecacb", func := "palinode/palinodelaw12.FindApart", spec := "findApart", unfollowed := true, recurses := true, apart := false }
def FindApartSaid : Prop := findApartRow.holds Try.pinned (OpenSpec.ofChange findApartSpec)

/-- ITS FALSE NEIGHBOUR: 'it returns false'. Refute it at one input. -/
def findApartWrong : ChangeSpec := { name := "findApart", fn := fun _ => fun
  | [d1, d2] => { results := [.lit (.bool false)], args := [d1, d2] }
  | _ => none }
def FindApartWrongFalsely : Prop := findApartRow.holds Try.pinned (OpenSpec.ofChange findApartWrong)

/- THE SECOND FORM. 'bulk': how many values and letters a reading holds, each counted each time it is reached (what is shared counts as often as it is met; a slice's spare places count too). A statement '..UptoSaid' is the law's where the arguments, and the package variables that the reading takes, are together of bulk at most 1048576: NARROWER than '..Said'. Prove '..Said' where nothing that the law and all that it calls make is longer than what came in: it says more and counts as full. Else prove '..UptoSaid'. A law counts once. -/
mutual
def uptoBulk {H : Type} : DataW H → Nat
  | .lit (.string bytes) => bytes.length + 1
  | .lit _ => 1
  | .nil => 1
  | .ptr d => uptoBulk d + 1
  | .slice elems spare => uptoBulkAll elems + uptoBulkAll spare + 1
  | .agg parts => uptoBulkAll parts + 1
  | .iface _ d => uptoBulk d + 1
  | .map entries => uptoBulkEntries entries + 1
  | .held _ => 1
def uptoBulkAll {H : Type} : List (DataW H) → Nat
  | [] => 0
  | d :: r => uptoBulk d + uptoBulkAll r
def uptoBulkEntries {H : Type} : List (Lit × DataW H) → Nat
  | [] => 0
  | x :: r => uptoBulkEntry x + uptoBulkEntries r
def uptoBulkEntry {H : Type} : Lit × DataW H → Nat
  | (.string bytes, d) => bytes.length + uptoBulk d + 1
  | (_, d) => uptoBulk d + 1
 end
def uptoSmall : (H : Type) → List (DataW H) → Bool := fun _ ds => decide (uptoBulkAll ds ≤ 1048576)
def OpenSpec.upto (s : _root_.Go.ChangeSpec) : _root_.Go.OpenSpec := { _root_.Go.OpenSpec.ofChange s with cond := some uptoSmall }

/-- 'palinodelaw11.MatchTells', WHERE WHAT IT READS IS OF BULK AT MOST 1048576: true; the input reads as it did. -/
def matchTellsUptoRow : OpenClaim := { program := "ytbdfhmefjfaofaa", sum := "cda554fe17a6ba2fc6bba87ad37e15373bfdf9fa6e36b42e9793db72bf2ecacb", func := "palinode/palinodelaw11.MatchTells", spec := "matchTells", unfollowed := true, recurses := true, apart := false, narrowed := true }
def MatchTellsUptoSaid : Prop := matchTellsUptoRow.holds Try.pinned (OpenSpec.upto matchTellsSpec)

/-- 'palinodelaw11.MatchRelates', WHERE WHAT IT READS IS OF BULK AT MOST 1048576: true; the input reads as it did. -/
def matchRelatesUptoRow : OpenClaim := { program := "ytbdfhmefjfaofaa", sum := "cda554fe17a6ba2fc6bba87ad37e15373bfdf9fa6e36b42e9793db72bf2ecacb", func := "palinode/palinodelaw11.MatchRelates", spec := "matchRelates", unfollowed := true, recurses := true, apart := false, narrowed := true }
def MatchRelatesUptoSaid : Prop := matchRelatesUptoRow.holds Try.pinned (OpenSpec.upto matchRelatesSpec)

/-- 'palinodelaw12.FindFirst', WHERE WHAT IT READS IS OF BULK AT MOST 1048576: true; the input reads as it did. -/
def findFirstUptoRow : OpenClaim := { program := "ytbdfhmefjfaofaa", sum := "cda554fe17a6ba2fc6bba87ad37e15373bfdf9fa6e36b42e9793db72bf2ecacb", func := "palinode/palinodelaw12.FindFirst", spec := "findFirst", unfollowed := true, recurses := true, apart := false, narrowed := true }
def FindFirstUptoSaid : Prop := findFirstUptoRow.holds Try.pinned (OpenSpec.upto findFirstSpec)

/-- 'palinodelaw12.FindAll', WHERE WHAT IT READS IS OF BULK AT MOST 1048576: true; the input reads as it did. -/
def findAllUptoRow : OpenClaim := { program := "ytbdfhmefjfaofaa", sum := "cda554fe17a6ba2fc6bba87ad37e15373bfdf9fa6e36b42e9793db72bf2ecacb", func := "palinode/palinodelaw12.FindAll", spec := "findAll", unfollowed := true, recurses := true, apart := false, narrowed := true }
def FindAllUptoSaid : Prop := findAllUptoRow.holds Try.pinned (OpenSpec.upto findAllSpec)

/-- 'palinodelaw12.FindLongest', WHERE WHAT IT READS IS OF BULK AT MOST 1048576: true; the input reads as it did. -/
def findLongestUptoRow : OpenClaim := { program := "ytbdfhmefjfaofaa", sum := "cda554fe17a6ba2fc6bba87ad37e15373bfdf9fa6e36b42e9793db72bf2ecacb", func := "palinode/palinodelaw12.FindLongest", spec := "findLongest", unfollowed := true, recurses := true, apart := false, narrowed := true }
def FindLongestUptoSaid : Prop := findLongestUptoRow.holds Try.pinned (OpenSpec.upto findLongestSpec)

/-- 'palinodelaw12.FindApart', WHERE WHAT IT READS IS OF BULK AT MOST 1048576: true; the input reads as it did. -/
def findApartUptoRow : OpenClaim := { program := "ytbdfhmefjfaofaa", sum := "cda554fe17a6ba2fc6bba87ad37e15373bfdf9fa6e36b42e9793db72bf2ecacb", func := "palinode/palinodelaw12.FindApart", spec := "findApart", unfollowed := true, recurses := true, apart := false, narrowed := true }
def FindApartUptoSaid : Prop := findApartUptoRow.holds Try.pinned (OpenSpec.upto findApartSpec)

end Rows
end Go.Proofs.Ytbdfhmefjfaofaa
