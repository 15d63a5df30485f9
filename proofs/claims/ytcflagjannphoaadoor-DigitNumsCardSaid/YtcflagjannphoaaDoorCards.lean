/-
  DERIVED. GIVEN WITH THE SEED: THE CARDS: each row of YtcflagjannphoaaDoorRows.lean that lists a variable, with what it lists TIED to the program's text (the seventh form; the later family's looks); each row that meets fmt, with fmt's text TOLD by the authors' own Lean function (tested against real Go, not proved from fmt's source: count such statements apart). THE CARD IS WHAT COUNTS. Prove the row's statement (the work); the ties are given (YtcflagjannphoaaDoorTie.lean); close each card by the builder's one call (the guide's Derived/Test/ToyasCard.lean, 'card_holds'). Laid BY PROGRAM, IN A SANDBOX (cutbox-door.mjs). By AI agents, Wed Nov 11 2026. No macro, syntax, notation, axiom, sorry.
-/
import Derived.Test.YtcflagjannphoaaDoorRows
import GoSem.ClaimSeven
namespace Go.Proofs.YtcflagjannphoaaDoor
namespace Rows

/-- THE TIED CARD OF 'palinodelaw01.DigitClasses'. -/
def digitClassesCard : Claim7 := { stood := { row := digitClassesRow, standIns := [], harness := (true, "bfc92792f74b25c64254cd15eabd06bee035c37780901df82f5a99e31fdeb328"), looks := false }, kinds := [], alts := [], laidByText := true, laidKinds := [.data, .data, .data], laidTests := true, laidLooks := .later }
def DigitClassesCardSaid : Prop := Claim7.holds Tryd.pinned (.plain (OpenSpec.ofChange digitClassesSpec)) digitClassesCard

/-- THE TIED CARD OF 'palinodelaw01.DigitNums'. -/
def digitNumsCard : Claim7 := { stood := { row := digitNumsRow, standIns := [], harness := (true, "bfc92792f74b25c64254cd15eabd06bee035c37780901df82f5a99e31fdeb328"), looks := false }, kinds := [], alts := [], laidByText := true, laidKinds := [.data, .data, .data], laidTests := true, laidLooks := .later }
def DigitNumsCardSaid : Prop := Claim7.holds Tryd.pinned (.plain (OpenSpec.ofChange digitNumsSpec)) digitNumsCard

/-- THE TIED CARD OF 'palinodelaw01.DigitBack'. -/
def digitBackCard : Claim7 := { stood := { row := digitBackRow, standIns := [], harness := (true, "bfc92792f74b25c64254cd15eabd06bee035c37780901df82f5a99e31fdeb328"), looks := false }, kinds := [], alts := [], laidByText := true, laidKinds := [.data, .data, .data], laidTests := true, laidLooks := .later }
def DigitBackCardSaid : Prop := Claim7.holds Tryd.pinned (.plain (OpenSpec.ofChange digitBackSpec)) digitBackCard

/-- THE TIED CARD OF 'palinodelaw01.DigitJoins'. -/
def digitJoinsCard : Claim7 := { stood := { row := digitJoinsRow, standIns := [], harness := (true, "bfc92792f74b25c64254cd15eabd06bee035c37780901df82f5a99e31fdeb328"), looks := false }, kinds := [], alts := [], laidByText := true, laidKinds := [.data, .data, .data], laidTests := true, laidLooks := .later }
def DigitJoinsCardSaid : Prop := Claim7.holds Tryd.pinned (.plain (OpenSpec.ofChange digitJoinsSpec)) digitJoinsCard

/-- THE TIED CARD OF 'palinodelaw01.DigitKinds'. -/
def digitKindsCard : Claim7 := { stood := { row := digitKindsRow, standIns := [], harness := (true, "bfc92792f74b25c64254cd15eabd06bee035c37780901df82f5a99e31fdeb328"), looks := false }, kinds := [], alts := [], laidByText := true, laidKinds := [.data, .data, .data], laidTests := true, laidLooks := .later }
def DigitKindsCardSaid : Prop := Claim7.holds Tryd.pinned (.plain (OpenSpec.ofChange digitKindsSpec)) digitKindsCard

/-- THE SECOND FORM's CARD OF 'palinodelaw01.DigitClasses'. -/
def digitClassesUptoCard : Claim7 := { stood := { row := digitClassesUptoRow, standIns := [], harness := (true, "bfc92792f74b25c64254cd15eabd06bee035c37780901df82f5a99e31fdeb328"), looks := false }, kinds := [], alts := [], laidByText := true, laidKinds := [.data, .data, .data], laidTests := true, laidLooks := .later }
def DigitClassesUptoCardSaid : Prop := Claim7.holds Tryd.pinned (.plain (OpenSpec.upto digitClassesSpec)) digitClassesUptoCard

/-- THE SECOND FORM's CARD OF 'palinodelaw01.DigitNums'. -/
def digitNumsUptoCard : Claim7 := { stood := { row := digitNumsUptoRow, standIns := [], harness := (true, "bfc92792f74b25c64254cd15eabd06bee035c37780901df82f5a99e31fdeb328"), looks := false }, kinds := [], alts := [], laidByText := true, laidKinds := [.data, .data, .data], laidTests := true, laidLooks := .later }
def DigitNumsUptoCardSaid : Prop := Claim7.holds Tryd.pinned (.plain (OpenSpec.upto digitNumsSpec)) digitNumsUptoCard

/-- THE SECOND FORM's CARD OF 'palinodelaw01.DigitBack'. -/
def digitBackUptoCard : Claim7 := { stood := { row := digitBackUptoRow, standIns := [], harness := (true, "bfc92792f74b25c64254cd15eabd06bee035c37780901df82f5a99e31fdeb328"), looks := false }, kinds := [], alts := [], laidByText := true, laidKinds := [.data, .data, .data], laidTests := true, laidLooks := .later }
def DigitBackUptoCardSaid : Prop := Claim7.holds Tryd.pinned (.plain (OpenSpec.upto digitBackSpec)) digitBackUptoCard

/-- THE SECOND FORM's CARD OF 'palinodelaw01.DigitJoins'. -/
def digitJoinsUptoCard : Claim7 := { stood := { row := digitJoinsUptoRow, standIns := [], harness := (true, "bfc92792f74b25c64254cd15eabd06bee035c37780901df82f5a99e31fdeb328"), looks := false }, kinds := [], alts := [], laidByText := true, laidKinds := [.data, .data, .data], laidTests := true, laidLooks := .later }
def DigitJoinsUptoCardSaid : Prop := Claim7.holds Tryd.pinned (.plain (OpenSpec.upto digitJoinsSpec)) digitJoinsUptoCard

/-- THE SECOND FORM's CARD OF 'palinodelaw01.DigitKinds'. -/
def digitKindsUptoCard : Claim7 := { stood := { row := digitKindsUptoRow, standIns := [], harness := (true, "bfc92792f74b25c64254cd15eabd06bee035c37780901df82f5a99e31fdeb328"), looks := false }, kinds := [], alts := [], laidByText := true, laidKinds := [.data, .data, .data], laidTests := true, laidLooks := .later }
def DigitKindsUptoCardSaid : Prop := Claim7.holds Tryd.pinned (.plain (OpenSpec.upto digitKindsSpec)) digitKindsUptoCard
end Rows
end Go.Proofs.YtcflagjannphoaaDoor
