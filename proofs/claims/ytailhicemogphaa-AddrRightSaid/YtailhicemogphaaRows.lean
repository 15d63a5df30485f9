/-
  No cell of these rows narrows 'for every input' (looked for: loops, veiled, ifaces, maps, wideKeys, modest, calm, conditions, laid).
  DERIVED. THE GIVEN ROWS OF THIS SEAT. 5 by the template 'for every input the law returns true; each argument reads behind the call as it read before'; 0 by the template 'total and deterministic' (their statements: YtailhicemogphaaTotals.lean).
  GIVEN WITH THE SEED: the statements are not yours to turn. If you find one false, say at which input.
  Laid BY PROGRAM, IN A SANDBOX (cutbox-rows.mjs): the forced cells as the released guide's own fill.sh prints them over the translation 17c2a0a26af87126… (all of the seat's roots in one cut). By AI agents, Wed Nov 11 2026. No macro, syntax, notation, axiom, sorry.
-/
import Derived.Test.YtailhicemogphaaChecked
import GoSem.Claim
import GoSem.ClaimJoined
import GoSem.ClaimMapViews
import Derived.JoinedTies
import Derived.KernelRfl
namespace Go.Proofs.Ytailhicemogphaa
/- THE CELL 'sum', in the pinned program and in every row, IS THE sha256 OF THE DUMP (.gsa) THAT YtailhicemogphaaProg.lean LOADS. Nothing in Lean hashes anything: it is a label: what it is worth is what the hold of that sum in a sandbox is worth. -/
noncomputable def Try.pinned : Pinned := { name := "ytailhicemogphaa", sum := "17c2a0a26af87126120478cccb77ff090387f33691bc2df1c7c62fbb3bc76ff1", checked := Try.checked }
namespace Rows
def none {H : Type} : Left H := { results := [], args := [] }

/-- 'palinodelaw15.AddrRight': WHATEVER THE INPUT: true; the input reads as it did. -/
def addrRightSpec : ChangeSpec := { name := "addrRight", fn := fun _ => fun
  | [d1, d2] => { results := [.lit (.bool true)], args := [d1, d2] }
  | _ => none }
def addrRightRow : OpenClaim := { program := "ytailhicemogphaa", sum := "17c2a0a26af87126120478cccb77ff090387f33691bc2df1c7c62fbb3bc76ff1", func := "palinode/palinodelaw15.AddrRight", spec := "addrRight", unfollowed := true, recurses := true, apart := false }
def AddrRightSaid : Prop := addrRightRow.holds Try.pinned (OpenSpec.ofChange addrRightSpec)

/-- ITS FALSE NEIGHBOUR: 'it returns false'. Refute it at one input. -/
def addrRightWrong : ChangeSpec := { name := "addrRight", fn := fun _ => fun
  | [d1, d2] => { results := [.lit (.bool false)], args := [d1, d2] }
  | _ => none }
def AddrRightWrongFalsely : Prop := addrRightRow.holds Try.pinned (OpenSpec.ofChange addrRightWrong)

/-- 'palinodelaw15.AddrHolds': WHATEVER THE INPUT: true; the input reads as it did. -/
def addrHoldsSpec : ChangeSpec := { name := "addrHolds", fn := fun _ => fun
  | [d1, d2] => { results := [.lit (.bool true)], args := [d1, d2] }
  | _ => none }
def addrHoldsRow : OpenClaim := { program := "ytailhicemogphaa", sum := "17c2a0a26af87126120478cccb77ff090387f33691bc2df1c7c62fbb3bc76ff1", func := "palinode/palinodelaw15.AddrHolds", spec := "addrHolds", unfollowed := true, recurses := true, apart := false }
def AddrHoldsSaid : Prop := addrHoldsRow.holds Try.pinned (OpenSpec.ofChange addrHoldsSpec)

/-- ITS FALSE NEIGHBOUR: 'it returns false'. Refute it at one input. -/
def addrHoldsWrong : ChangeSpec := { name := "addrHolds", fn := fun _ => fun
  | [d1, d2] => { results := [.lit (.bool false)], args := [d1, d2] }
  | _ => none }
def AddrHoldsWrongFalsely : Prop := addrHoldsRow.holds Try.pinned (OpenSpec.ofChange addrHoldsWrong)

/-- 'palinodelaw15.AddrSpans': WHATEVER THE INPUT: true; the input reads as it did. -/
def addrSpansSpec : ChangeSpec := { name := "addrSpans", fn := fun _ => fun
  | [d1, d2, d3] => { results := [.lit (.bool true)], args := [d1, d2, d3] }
  | _ => none }
def addrSpansRow : OpenClaim := { program := "ytailhicemogphaa", sum := "17c2a0a26af87126120478cccb77ff090387f33691bc2df1c7c62fbb3bc76ff1", func := "palinode/palinodelaw15.AddrSpans", spec := "addrSpans", unfollowed := true, recurses := true, apart := false }
def AddrSpansSaid : Prop := addrSpansRow.holds Try.pinned (OpenSpec.ofChange addrSpansSpec)

/-- ITS FALSE NEIGHBOUR: 'it returns false'. Refute it at one input. -/
def addrSpansWrong : ChangeSpec := { name := "addrSpans", fn := fun _ => fun
  | [d1, d2, d3] => { results := [.lit (.bool false)], args := [d1, d2, d3] }
  | _ => none }
def AddrSpansWrongFalsely : Prop := addrSpansRow.holds Try.pinned (OpenSpec.ofChange addrSpansWrong)

/-- 'palinodelaw15.AddrFinds': WHATEVER THE INPUT: true; the input reads as it did. -/
def addrFindsSpec : ChangeSpec := { name := "addrFinds", fn := fun _ => fun
  | [d1, d2] => { results := [.lit (.bool true)], args := [d1, d2] }
  | _ => none }
def addrFindsRow : OpenClaim := { program := "ytailhicemogphaa", sum := "17c2a0a26af87126120478cccb77ff090387f33691bc2df1c7c62fbb3bc76ff1", func := "palinode/palinodelaw15.AddrFinds", spec := "addrFinds", unfollowed := true, recurses := true, apart := false }
def AddrFindsSaid : Prop := addrFindsRow.holds Try.pinned (OpenSpec.ofChange addrFindsSpec)

/-- ITS FALSE NEIGHBOUR: 'it returns false'. Refute it at one input. -/
def addrFindsWrong : ChangeSpec := { name := "addrFinds", fn := fun _ => fun
  | [d1, d2] => { results := [.lit (.bool false)], args := [d1, d2] }
  | _ => none }
def AddrFindsWrongFalsely : Prop := addrFindsRow.holds Try.pinned (OpenSpec.ofChange addrFindsWrong)

/-- 'palinodelaw15.AddrLast': WHATEVER THE INPUT: true; the input reads as it did. -/
def addrLastSpec : ChangeSpec := { name := "addrLast", fn := fun _ => fun
  | [d1, d2] => { results := [.lit (.bool true)], args := [d1, d2] }
  | _ => none }
def addrLastRow : OpenClaim := { program := "ytailhicemogphaa", sum := "17c2a0a26af87126120478cccb77ff090387f33691bc2df1c7c62fbb3bc76ff1", func := "palinode/palinodelaw15.AddrLast", spec := "addrLast", unfollowed := true, recurses := true, apart := false }
def AddrLastSaid : Prop := addrLastRow.holds Try.pinned (OpenSpec.ofChange addrLastSpec)

/-- ITS FALSE NEIGHBOUR: 'it returns false'. Refute it at one input. -/
def addrLastWrong : ChangeSpec := { name := "addrLast", fn := fun _ => fun
  | [d1, d2] => { results := [.lit (.bool false)], args := [d1, d2] }
  | _ => none }
def AddrLastWrongFalsely : Prop := addrLastRow.holds Try.pinned (OpenSpec.ofChange addrLastWrong)

/- THE SECOND FORM. 'bulk': how many values and letters a reading holds, each counted each time it is reached (what is shared counts as often as it is met; a slice's spare places count too). A statement '..UptoSaid' is the law's where the arguments, and the package variables that the reading takes, are together of bulk at most 1048576: NARROWER than '..Said'. Prove '..Said' where nothing that the law and all that it calls make is longer than what came in: it says more and counts as full. Else prove '..UptoSaid'. A law counts once. -/
mutual
def uptoBulk {H : Type} : DataW H → Nat
  | .lit (.string bytes) => bytes.length + 1
  | .lit _ => 1
  | .nil => 1
  | .ptr d => uptoBulk d + 1
  | .slice elems spare => uptoBulkAll elems + uptoBulkAll spare + 1
  | .agg parts => uptoBulkAll parts + 1
  | .iface _ d => uptoBulk d + 1
  | .map entries => uptoBulkEntries entries + 1
  | .held _ => 1
def uptoBulkAll {H : Type} : List (DataW H) → Nat
  | [] => 0
  | d :: r => uptoBulk d + uptoBulkAll r
def uptoBulkEntries {H : Type} : List (Lit × DataW H) → Nat
  | [] => 0
  | x :: r => uptoBulkEntry x + uptoBulkEntries r
def uptoBulkEntry {H : Type} : Lit × DataW H → Nat
  | (.string bytes, d) => bytes.length + uptoBulk d + 1
  | (_, d) => uptoBulk d + 1
 end
def uptoSmall : (H : Type) → List (DataW H) → Bool := fun _ ds => decide (uptoBulkAll ds ≤ 1048576)
def OpenSpec.upto (s : _root_.Go.ChangeSpec) : _root_.Go.OpenSpec := { _root_.Go.OpenSpec.ofChange s with cond := some uptoSmall }

/-- 'palinodelaw15.AddrRight', WHERE WHAT IT READS IS OF BULK AT MOST 1048576: true; the input reads as it did. -/
def addrRightUptoRow : OpenClaim := { program := "ytailhicemogphaa", sum := "17c2a0a26af87126120478cccb77ff090387f33691bc2df1c7c62fbb3bc76ff1", func := "palinode/palinodelaw15.AddrRight", spec := "addrRight", unfollowed := true, recurses := true, apart := false, narrowed := true }
def AddrRightUptoSaid : Prop := addrRightUptoRow.holds Try.pinned (OpenSpec.upto addrRightSpec)

/-- 'palinodelaw15.AddrHolds', WHERE WHAT IT READS IS OF BULK AT MOST 1048576: true; the input reads as it did. -/
def addrHoldsUptoRow : OpenClaim := { program := "ytailhicemogphaa", sum := "17c2a0a26af87126120478cccb77ff090387f33691bc2df1c7c62fbb3bc76ff1", func := "palinode/palinodelaw15.AddrHolds", spec := "addrHolds", unfollowed := true, recurses := true, apart := false, narrowed := true }
def AddrHoldsUptoSaid : Prop := addrHoldsUptoRow.holds Try.pinned (OpenSpec.upto addrHoldsSpec)

/-- 'palinodelaw15.AddrSpans', WHERE WHAT IT READS IS OF BULK AT MOST 1048576: true; the input reads as it did. -/
def addrSpansUptoRow : OpenClaim := { program := "ytailhicemogphaa", sum := "17c2a0a26af87126120478cccb77ff090387f33691bc2df1c7c62fbb3bc76ff1", func := "palinode/palinodelaw15.AddrSpans", spec := "addrSpans", unfollowed := true, recurses := true, apart := false, narrowed := true }
def AddrSpansUptoSaid : Prop := addrSpansUptoRow.holds Try.pinned (OpenSpec.upto addrSpansSpec)

/-- 'palinodelaw15.AddrFinds', WHERE WHAT IT READS IS OF BULK AT MOST 1048576: true; the input reads as it did. -/
def addrFindsUptoRow : OpenClaim := { program := "ytailhicemogphaa", sum := "17c2a0a26af87126120478cccb77ff090387f33691bc2df1c7c62fbb3bc76ff1", func := "palinode/palinodelaw15.AddrFinds", spec := "addrFinds", unfollowed := true, recurses := true, apart := false, narrowed := true }
def AddrFindsUptoSaid : Prop := addrFindsUptoRow.holds Try.pinned (OpenSpec.upto addrFindsSpec)

/-- 'palinodelaw15.AddrLast', WHERE WHAT IT READS IS OF BULK AT MOST 1048576: true; the input reads as it did. -/
def addrLastUptoRow : OpenClaim := { program := "ytailhicemogphaa", sum := "17c2a0a26af87126120478cccb77ff090387f33691bc2df1c7c62fbb3bc76ff1", func := "palinode/palinodelaw15.AddrLast", spec := "addrLast", unfollowed := true, recurses := true, apart := false, narrowed := true }
def AddrLastUptoSaid : Prop := addrLastUptoRow.holds Try.pinned (OpenSpec.upto addrLastSpec)

end Rows
end Go.Proofs.Ytailhicemogphaa
