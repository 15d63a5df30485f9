/- Walks of DigitKinds: what the twelve answers are, given. -/
import Derived.Test.YtcflagjannphoaaDoorFrame
import Derived.Test.YtcflagjannphoaaDoorDigE
import Derived.Test.YtcflagjannphoaaDoorKindsA0
import Derived.Deep.RegionWith
namespace Go.Proofs.YtcflagjannphoaaDoor.digitKinds
open Go.ChangeShapes Go.WideShapes Go.ChangeAt Go.RowKit
open Go.ChangeMaps (open_string shut_string)

set_option maxRecDepth 100000 in
set_option maxHeartbeats 4000000 in
theorem kinds_3 (c : Int) (W : World) (HA : Hid (Calls Tryd.prog 8 #[] W fun e w' => e = .returned (.bool true) ∧ Below W.heap.size W w'))
    (k0 : IsAt ⟨#[97, 108, 110, 117, 109]⟩ c false) (k1 : IsAt ⟨#[97, 108, 112, 104, 97]⟩ c false) (k2 : IsAt ⟨#[100, 105, 103, 105, 116]⟩ c false) (k3 : IsAt ⟨#[117, 112, 112, 101, 114]⟩ c false) (k4 : IsAt ⟨#[108, 111, 119, 101, 114]⟩ c false) (k5 : IsAt ⟨#[103, 114, 97, 112, 104]⟩ c false) (k6 : IsAt ⟨#[112, 117, 110, 99, 116]⟩ c false) (k7 : IsAt ⟨#[99, 110, 116, 114, 108]⟩ c false) (k8 : IsAt ⟨#[112, 114, 105, 110, 116]⟩ c true) (k9 : IsAt ⟨#[98, 108, 97, 110, 107]⟩ c true) (k10 : IsAt ⟨#[115, 112, 97, 99, 101]⟩ c true) (k11 : IsAt ⟨#[120, 100, 105, 103, 105, 116]⟩ c false) :
    Calls Tryd.prog 7 #[.int .u8 c] W fun e w' => e = .returned (.bool true) ∧ Below W.heap.size W w' := by
  go_enter Tryd.func7, Tryd.ntmps7
  go_wp2_with (first
    | (go_at_call_of 9 (Value.string ⟨#[97, 108, 110, 117, 109]⟩); refine (k0 _).mono ?_; rintro e w2 ⟨rfl, rfl⟩)
    | (go_at_call_of 9 (Value.string ⟨#[97, 108, 112, 104, 97]⟩); refine (k1 _).mono ?_; rintro e w2 ⟨rfl, rfl⟩)
    | (go_at_call_of 9 (Value.string ⟨#[100, 105, 103, 105, 116]⟩); refine (k2 _).mono ?_; rintro e w2 ⟨rfl, rfl⟩)
    | (go_at_call_of 9 (Value.string ⟨#[117, 112, 112, 101, 114]⟩); refine (k3 _).mono ?_; rintro e w2 ⟨rfl, rfl⟩)
    | (go_at_call_of 9 (Value.string ⟨#[108, 111, 119, 101, 114]⟩); refine (k4 _).mono ?_; rintro e w2 ⟨rfl, rfl⟩)
    | (go_at_call_of 9 (Value.string ⟨#[103, 114, 97, 112, 104]⟩); refine (k5 _).mono ?_; rintro e w2 ⟨rfl, rfl⟩)
    | (go_at_call_of 9 (Value.string ⟨#[112, 117, 110, 99, 116]⟩); refine (k6 _).mono ?_; rintro e w2 ⟨rfl, rfl⟩)
    | (go_at_call_of 9 (Value.string ⟨#[99, 110, 116, 114, 108]⟩); refine (k7 _).mono ?_; rintro e w2 ⟨rfl, rfl⟩)
    | (go_at_call_of 9 (Value.string ⟨#[112, 114, 105, 110, 116]⟩); refine (k8 _).mono ?_; rintro e w2 ⟨rfl, rfl⟩)
    | (go_at_call_of 9 (Value.string ⟨#[98, 108, 97, 110, 107]⟩); refine (k9 _).mono ?_; rintro e w2 ⟨rfl, rfl⟩)
    | (go_at_call_of 9 (Value.string ⟨#[115, 112, 97, 99, 101]⟩); refine (k10 _).mono ?_; rintro e w2 ⟨rfl, rfl⟩)
    | (go_at_call_of 9 (Value.string ⟨#[120, 100, 105, 103, 105, 116]⟩); refine (k11 _).mono ?_; rintro e w2 ⟨rfl, rfl⟩)
    | (go_at_call 8; refine (HA.out).mono ?_; rintro e w2 ⟨rfl, hb⟩))
  go_ret
  exact ⟨rfl, hb⟩

set_option maxRecDepth 100000 in
set_option maxHeartbeats 4000000 in
theorem kinds_7 (c : Int) (W : World) (HA : Hid (Calls Tryd.prog 8 #[] W fun e w' => e = .returned (.bool true) ∧ Below W.heap.size W w'))
    (k0 : IsAt ⟨#[97, 108, 110, 117, 109]⟩ c true) (k1 : IsAt ⟨#[97, 108, 112, 104, 97]⟩ c true) (k2 : IsAt ⟨#[100, 105, 103, 105, 116]⟩ c false) (k3 : IsAt ⟨#[117, 112, 112, 101, 114]⟩ c true) (k4 : IsAt ⟨#[108, 111, 119, 101, 114]⟩ c false) (k5 : IsAt ⟨#[103, 114, 97, 112, 104]⟩ c true) (k6 : IsAt ⟨#[112, 117, 110, 99, 116]⟩ c false) (k7 : IsAt ⟨#[99, 110, 116, 114, 108]⟩ c false) (k8 : IsAt ⟨#[112, 114, 105, 110, 116]⟩ c true) (k9 : IsAt ⟨#[98, 108, 97, 110, 107]⟩ c false) (k10 : IsAt ⟨#[115, 112, 97, 99, 101]⟩ c false) (k11 : IsAt ⟨#[120, 100, 105, 103, 105, 116]⟩ c false) :
    Calls Tryd.prog 7 #[.int .u8 c] W fun e w' => e = .returned (.bool true) ∧ Below W.heap.size W w' := by
  go_enter Tryd.func7, Tryd.ntmps7
  go_wp2_with (first
    | (go_at_call_of 9 (Value.string ⟨#[97, 108, 110, 117, 109]⟩); refine (k0 _).mono ?_; rintro e w2 ⟨rfl, rfl⟩)
    | (go_at_call_of 9 (Value.string ⟨#[97, 108, 112, 104, 97]⟩); refine (k1 _).mono ?_; rintro e w2 ⟨rfl, rfl⟩)
    | (go_at_call_of 9 (Value.string ⟨#[100, 105, 103, 105, 116]⟩); refine (k2 _).mono ?_; rintro e w2 ⟨rfl, rfl⟩)
    | (go_at_call_of 9 (Value.string ⟨#[117, 112, 112, 101, 114]⟩); refine (k3 _).mono ?_; rintro e w2 ⟨rfl, rfl⟩)
    | (go_at_call_of 9 (Value.string ⟨#[108, 111, 119, 101, 114]⟩); refine (k4 _).mono ?_; rintro e w2 ⟨rfl, rfl⟩)
    | (go_at_call_of 9 (Value.string ⟨#[103, 114, 97, 112, 104]⟩); refine (k5 _).mono ?_; rintro e w2 ⟨rfl, rfl⟩)
    | (go_at_call_of 9 (Value.string ⟨#[112, 117, 110, 99, 116]⟩); refine (k6 _).mono ?_; rintro e w2 ⟨rfl, rfl⟩)
    | (go_at_call_of 9 (Value.string ⟨#[99, 110, 116, 114, 108]⟩); refine (k7 _).mono ?_; rintro e w2 ⟨rfl, rfl⟩)
    | (go_at_call_of 9 (Value.string ⟨#[112, 114, 105, 110, 116]⟩); refine (k8 _).mono ?_; rintro e w2 ⟨rfl, rfl⟩)
    | (go_at_call_of 9 (Value.string ⟨#[98, 108, 97, 110, 107]⟩); refine (k9 _).mono ?_; rintro e w2 ⟨rfl, rfl⟩)
    | (go_at_call_of 9 (Value.string ⟨#[115, 112, 97, 99, 101]⟩); refine (k10 _).mono ?_; rintro e w2 ⟨rfl, rfl⟩)
    | (go_at_call_of 9 (Value.string ⟨#[120, 100, 105, 103, 105, 116]⟩); refine (k11 _).mono ?_; rintro e w2 ⟨rfl, rfl⟩)
    | (go_at_call 8; refine (HA.out).mono ?_; rintro e w2 ⟨rfl, hb⟩))
  go_ret
  exact ⟨rfl, hb⟩

end Go.Proofs.YtcflagjannphoaaDoor.digitKinds
