/- Walks of DigitKinds: what the twelve answers are, given. -/
import Derived.Test.YtcflagjannphoaaDoorFrame
import Derived.Test.YtcflagjannphoaaDoorDigE
import Derived.Deep.RegionWith
namespace Go.Proofs.YtcflagjannphoaaDoor.digitKinds
open Go.ChangeShapes Go.WideShapes Go.ChangeAt Go.RowKit
open Go.ChangeMaps (open_string shut_string)

def IsAt (s : ByteArray) (c : Int) (v : Bool) : Prop := ∀ W : World, Calls Tryd.prog 9 #[.string s, .int .u8 c] W fun e w' => e = .returned (.tuple #[.bool v, .bool true]) ∧ W = w'
theorem isAt_of {s : ByteArray} {c : Int} {v : Bool} (h : clsOf s.toList c = some v) : IsAt s c v := by
  intro W
  have k := is_any s c W
  rw [h] at k
  exact k

end Go.Proofs.YtcflagjannphoaaDoor.digitKinds
