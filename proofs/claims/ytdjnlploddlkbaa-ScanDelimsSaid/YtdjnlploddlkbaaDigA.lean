/- Contracts of package digit's tests of one byte, and of the reference's. -/
import Derived.Test.YtdjnlploddlkbaaProg
import Derived.Test.YtdjnlploddlkbaaWords
set_option maxRecDepth 100000
namespace Go.Proofs.Ytdjnlploddlkbaa
open Go.RowKit


def isW (c a b : Int) : Bool := decide (a ≤ c) && decide (c ≤ b)
def cUpper (c : Int) : Bool := isW c 65 90
def cLower (c : Int) : Bool := isW c 97 122
def cDigit (c : Int) : Bool := isW c 48 57
def cAlpha (c : Int) : Bool := cUpper c || cLower c
def cAlnum (c : Int) : Bool := cAlpha c || cDigit c
def cBlank (c : Int) : Bool := c == 32 || c == 9
def cGraph (c : Int) : Bool := isW c 33 126

theorem within_any (c a b : Int) (w : World) :
    Calls Try.prog 43 #[.int .u8 c, .int .u8 a, .int .u8 b] w fun e w' => e = .returned (.bool (isW c a b)) ∧ w = w' := by
  go_enter Try.func43, Try.ntmps43
  go_wp2
  all_goals
    go_ret
    exact ⟨ret_bool (by simp only [isW]; simp [*]; try omega), rfl⟩
theorem isUpper_any (c : Int) (w : World) :
    Calls Try.prog 37 #[.int .u8 c] w fun e w' => e = .returned (.bool (cUpper c)) ∧ w = w' := by
  go_enter Try.func37, Try.ntmps37
  go_wp2_with (go_at_call 43; refine (within_any _ _ _ _).mono ?_; rintro e w' ⟨rfl, rfl⟩)
  go_ret
  exact ⟨rfl, rfl⟩
theorem isLower_any (c : Int) (w : World) :
    Calls Try.prog 38 #[.int .u8 c] w fun e w' => e = .returned (.bool (cLower c)) ∧ w = w' := by
  go_enter Try.func38, Try.ntmps38
  go_wp2_with (go_at_call 43; refine (within_any _ _ _ _).mono ?_; rintro e w' ⟨rfl, rfl⟩)
  go_ret
  exact ⟨rfl, rfl⟩
theorem isDigit_any (c : Int) (w : World) :
    Calls Try.prog 39 #[.int .u8 c] w fun e w' => e = .returned (.bool (cDigit c)) ∧ w = w' := by
  go_enter Try.func39, Try.ntmps39
  go_wp2_with (go_at_call 43; refine (within_any _ _ _ _).mono ?_; rintro e w' ⟨rfl, rfl⟩)
  go_ret
  exact ⟨rfl, rfl⟩
theorem isGraph_any (c : Int) (w : World) :
    Calls Try.prog 44 #[.int .u8 c] w fun e w' => e = .returned (.bool (cGraph c)) ∧ w = w' := by
  go_enter Try.func44, Try.ntmps44
  go_wp2_with (go_at_call 43; refine (within_any _ _ _ _).mono ?_; rintro e w' ⟨rfl, rfl⟩)
  go_ret
  exact ⟨rfl, rfl⟩
theorem isBlank_any (c : Int) (w : World) :
    Calls Try.prog 42 #[.int .u8 c] w fun e w' => e = .returned (.bool (cBlank c)) ∧ w = w' := by
  go_enter Try.func42, Try.ntmps42
  go_wp2
  all_goals
    go_ret
    exact ⟨ret_bool (by simp [cBlank, *]), rfl⟩
theorem isAlpha_any (c : Int) (w : World) :
    Calls Try.prog 40 #[.int .u8 c] w fun e w' => e = .returned (.bool (cAlpha c)) ∧ w = w' := by
  go_enter Try.func40, Try.ntmps40
  go_wp2_with (first
    | (go_at_call 37; refine (isUpper_any _ _).mono ?_; rintro e w' ⟨rfl, rfl⟩)
    | (go_at_call 38; refine (isLower_any _ _).mono ?_; rintro e w' ⟨rfl, rfl⟩))
  all_goals
    go_ret
    exact ⟨ret_bool (by simp only [cAlpha]; simp [*]), rfl⟩
theorem isAlnum_any (c : Int) (w : World) :
    Calls Try.prog 41 #[.int .u8 c] w fun e w' => e = .returned (.bool (cAlnum c)) ∧ w = w' := by
  go_enter Try.func41, Try.ntmps41
  go_wp2_with (first
    | (go_at_call 40; refine (isAlpha_any _ _).mono ?_; rintro e w' ⟨rfl, rfl⟩)
    | (go_at_call 39; refine (isDigit_any _ _).mono ?_; rintro e w' ⟨rfl, rfl⟩))
  all_goals
    go_ret
    exact ⟨ret_bool (by simp only [cAlnum]; simp [*]), rfl⟩

/-- The document's classes: of a name and a byte, whether it is in; none of no class. -/
def clsOf (s : List UInt8) (c : Int) : Option Bool :=
  if s == [117, 112, 112, 101, 114] then some (cUpper c)
  else if s == [108, 111, 119, 101, 114] then some (cLower c)
  else if s == [100, 105, 103, 105, 116] then some (cDigit c)
  else if s == [97, 108, 112, 104, 97] then some (cAlpha c)
  else if s == [97, 108, 110, 117, 109] then some (cAlnum c)
  else if s == [98, 108, 97, 110, 107] then some (cBlank c)
  else if s == [115, 112, 97, 99, 101] then some (cBlank c || isW c 10 13)
  else if s == [99, 110, 116, 114, 108] then some (decide (c < 32) || c == 127)
  else if s == [103, 114, 97, 112, 104] then some (cGraph c)
  else if s == [112, 114, 105, 110, 116] then some (cGraph c || c == 32)
  else if s == [112, 117, 110, 99, 116] then some (cGraph c && !cAlnum c)
  else if s == [120, 100, 105, 103, 105, 116] then some (cDigit c || isW c 65 70 || isW c 97 102)
  else none

theorem is_any (s : ByteArray) (c : Int) (w : World) :
    Calls Try.prog 27 #[.string s, .int .u8 c] w fun e w' =>
      e = .returned (.tuple #[.bool ((clsOf s.toList c).getD false), .bool (clsOf s.toList c).isSome]) ∧ w = w' := by
  go_enter Try.func27, Try.ntmps27
  go_wp2_with (first
    | (go_at_call 37; refine (isUpper_any _ _).mono ?_; rintro e w' ⟨rfl, rfl⟩)
    | (go_at_call 38; refine (isLower_any _ _).mono ?_; rintro e w' ⟨rfl, rfl⟩)
    | (go_at_call 39; refine (isDigit_any _ _).mono ?_; rintro e w' ⟨rfl, rfl⟩)
    | (go_at_call 40; refine (isAlpha_any _ _).mono ?_; rintro e w' ⟨rfl, rfl⟩)
    | (go_at_call 41; refine (isAlnum_any _ _).mono ?_; rintro e w' ⟨rfl, rfl⟩)
    | (go_at_call 42; refine (isBlank_any _ _).mono ?_; rintro e w' ⟨rfl, rfl⟩)
    | (go_at_call 44; refine (isGraph_any _ _).mono ?_; rintro e w' ⟨rfl, rfl⟩)
    | (go_at_call 43; refine (within_any _ _ _ _).mono ?_; rintro e w' ⟨rfl, rfl⟩))
  all_goals
    go_ret2
    exact ⟨ret_bools (by simp [clsOf, *]) (by simp [clsOf, *]), rfl⟩

/-- The reference's rows. -/
def inRow : List UInt8 → Int → Bool
  | a :: b :: r, c => isW c a.toNat b.toNat || inRow r c
  | _, _ => false

theorem ret_one {v : Value} {b : Bool} (h : v = .bool b) : Ending.returned v = .returned (.bool b) := by rw [h]

theorem isW_lo {c a b : Int} (h : c < a) : isW c a b = false := by simp [isW]; omega
theorem isW_hi {c a b : Int} (h : b < c) : isW c a b = false := by simp [isW]; omega
theorem isW_in {c a b : Int} (h : a ≤ c) (k : c ≤ b) : isW c a b = true := by simp [isW]; omega
theorem inRow_step (s : ByteArray) (k : Nat) (c : Int) (h : 2 * k + 1 < s.size) :
    inRow (s.data.toList.drop (2 * k)) c = (isW c (s[2 * k].toNat) (s[2 * k + 1].toNat) || inRow (s.data.toList.drop (2 * (k + 1))) c) := by
  have h1 : 2 * k < s.data.toList.length := by rw [len_toList]; omega
  have h2 : 2 * k + 1 < s.data.toList.length := by rw [len_toList]; omega
  rw [List.drop_eq_getElem_cons h1, List.drop_eq_getElem_cons h2]
  rfl
theorem inRow_end (s : ByteArray) (k : Nat) (c : Int) (h : s.size ≤ 2 * k + 1) : inRow (s.data.toList.drop (2 * k)) c = false := by
  have hl : (s.data.toList.drop (2 * k)).length ≤ 1 := by
    rw [List.length_drop, len_toList]; omega
  match h' : s.data.toList.drop (2 * k), hl with
  | [], _ => rfl
  | [_], _ => rfl
theorem in_any (s : ByteArray) (c : Int) (w : World) (hs : s.size ≤ 100) :
    Calls Try.prog 26 #[.string s, .int .u8 c] w fun e w' => e = .returned (.bool (inRow s.data.toList c)) ∧ w = w' := by
  go_enter Try.func26, Try.ntmps26
  go_wp2
  go_loop [5] (fun i => ∃ k : Nat, 2 * k ≤ s.size ∧ i = .int .i64 ((2 * k : Nat) : Int) ∧ Hid (inRow s.data.toList c = inRow (s.data.toList.drop (2 * k)) c)) (fun i => s.size - (intOf i).toNat)
  case atStart => exact ⟨0, by omega, rfl, rfl⟩
  case round =>
    obtain ⟨k, hk, rfl, hr⟩ := hrel
    by_cases hlt : 2 * k + 1 < s.size
    · have hst := Lib.hid (inRow_step s k c hlt)
      go_wp2
      · go_ret
        refine ⟨ret_bool ?_, rfl⟩
        rw [hr.out, hst.out, isW_in (by omega) (by omega)]; rfl
      · go_round
        case rel => exact ⟨k + 1, by omega, by go_num, by rw [hr.out, hst.out, isW_hi (by omega)]; rfl⟩
        case measure => simp [intOf]; omega
      · go_round
        case rel => exact ⟨k + 1, by omega, by go_num, by rw [hr.out, hst.out, isW_lo (by omega)]; rfl⟩
        case measure => simp [intOf]; omega
    · have hst := Lib.hid (inRow_end s k c (by omega))
      go_wp2
      go_ret
      exact ⟨ret_bool (by rw [hr.out, hst.out]), rfl⟩

end Go.Proofs.Ytdjnlploddlkbaa
