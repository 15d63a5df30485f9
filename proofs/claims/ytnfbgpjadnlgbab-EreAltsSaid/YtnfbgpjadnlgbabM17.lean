/- Plain facts of trees: what fits, what is put, Re in two parts. Contracts of package digit's tests of one byte, and of the reference's. -/
import Derived.Test.YtnfbgpjadnlgbabM13
import Derived.Test.YtnfbgpjadnlgbabM16
import Derived.Test.YtnfbgpjadnlgbabProg
import Derived.Test.YtnfbgpjadnlgbabM02
set_option linter.unusedVariables false
set_option maxRecDepth 100000
namespace Go.Proofs.Ytnfbgpjadnlgbab
open Go.RowKit

theorem fits_set (s : Nat → Bool) (t g : Int) : fitsN (setN s) t g = true := by
  unfold fitsN
  rw [show partsN (setN s) = [] from rfl, show wantedN (setN s) = setN s from rfl, sameN_self]
  simp [setN]
theorem fits_two (k : Int) (hk : k = 2 ∨ k = 3) (a b t g : Int) : fitsN (twoN k a b) t g = (okP t a && okP t b) := by
  unfold fitsN
  rcases hk with rfl | rfl
  · rw [show partsN (twoN 2 a b) = [a, b] from rfl, show wantedN (twoN 2 a b) = twoN 2 a b from rfl, sameN_self]
    simp [twoN]
  · rw [show partsN (twoN 3 a b) = [a, b] from rfl, show wantedN (twoN 3 a b) = twoN 3 a b from rfl, sameN_self]
    simp [twoN]
theorem fits_plain (k : Int) (hk : k = 0 ∨ k = 7 ∨ k = 8) (t g : Int) : fitsN ⟨k, 0, 0, 0, 0, 0, zset⟩ t g = true := by
  unfold fitsN
  rcases hk with rfl | rfl | rfl
  · rw [show partsN ⟨0, 0, 0, 0, 0, 0, zset⟩ = [] from rfl, show wantedN ⟨0, 0, 0, 0, 0, 0, zset⟩ = ⟨0, 0, 0, 0, 0, 0, zset⟩ from rfl, sameN_self]; simp
  · rw [show partsN ⟨7, 0, 0, 0, 0, 0, zset⟩ = [] from rfl, show wantedN ⟨7, 0, 0, 0, 0, 0, zset⟩ = ⟨7, 0, 0, 0, 0, 0, zset⟩ from rfl, sameN_self]; simp
  · rw [show partsN ⟨8, 0, 0, 0, 0, 0, zset⟩ = [] from rfl, show wantedN ⟨8, 0, 0, 0, 0, 0, zset⟩ = ⟨8, 0, 0, 0, 0, 0, zset⟩ from rfl, sameN_self]; simp
theorem putI_yes {ns : List Nod} {g : Nat} {n : Nod} (h : canPut ns g n = true) : putI ns g n = (ns.length : Int) := by simp [putI, h]
theorem putL_yes {ns : List Nod} {g : Nat} {n : Nod} (h : canPut ns g n = true) : putL ns g n = ns ++ [n] := by simp [putL, h]
theorem putI_no {ns : List Nod} {g : Nat} {n : Nod} (h : canPut ns g n = false) : putI ns g n = -1 := by simp [putI, h]
theorem putL_no {ns : List Nod} {g : Nat} {n : Nod} (h : canPut ns g n = false) : putL ns g n = ns := by simp [putL, h]
theorem canPut_of {ns : List Nod} {g : Nat} {n : Nod} (hl : ns.length < 1000) (h : fitsN n (ns.length : Int) (g : Int) = true) : canPut ns g n = true := by
  unfold canPut; rw [decide_eq_true hl, h]; rfl
theorem canPut_full {ns : List Nod} {g : Nat} {n : Nod} (hl : 1000 ≤ ns.length) : canPut ns g n = false := by
  unfold canPut; rw [decide_eq_false (by omega)]; rfl
theorem set_any_lit (B T o : Nat) (v : Value) (ns : List Nod) (g : Nat) (w : World) (h : Bldr w B T o v ns g) (s : Nat → Bool) (cs : Array Value) (hs : setC s = cs) (hf : ns.length < 1000) :
    Calls Try.prog 59 #[.pointer (some ⟨T, o, none⟩), .agg cs] w (BldRet w B T o v (ns.length : Int) (ns ++ [setN s]) g) := by
  have := set_any B T o v ns g w h s
  rw [putI_yes (canPut_of hf (fits_set s _ _)), putL_yes (canPut_of hf (fits_set s _ _))] at this
  unfold setV at this
  rw [hs] at this
  exact this
theorem set_num (n : Nat) (hn : n < 18446744073709551616) : ∃ s, setC s = #[.int .u64 (n : Int), .int .u64 0, .int .u64 0, .int .u64 0] := by
  obtain ⟨s, h0, h1, h2, h3⟩ := set_of n 0 0 0 hn (by decide) (by decide) (by decide)
  exact ⟨s, by unfold setC; rw [h0, h1, h2, h3]; rfl⟩
/-- A builder of nothing. -/
theorem bldr_new (w : World) : Bldr (w.alloc (.cells #[.slice none 0 0, .int .i64 0] 40)) w.heap.size w.heap.size 0 (.slice none 0 0) [] 0 :=
  ⟨⟨_, _, held_new w _ _, by decide, rfl, rfl⟩, World.ownsRow_nil _ _ _ _, by decide, by decide, by simp⟩
theorem apart_new {w : World} {B T o : Nat} {v : Value} {ns : List Nod} {g : Nat} (h : Bldr w B T o v ns g) : Apart (some ⟨w.heap.size, 0, none⟩) T v := fun ad e => by
  obtain rfl := Option.some.inj e
  refine ⟨by have := h.lt; show w.heap.size ≠ T; omega, fun e => ?_⟩
  have := (h.own.lt _ e.symm).2
  exact absurd this (Nat.lt_irrefl _)
/-- Cat of numbers that lie in a block of their own. -/
theorem cat_new (B T o : Nat) (v : Value) (ns : List Nod) (g : Nat) (w : World) (h : Bldr w B T o v ns g) (l : List Int) (hl : l.length ≤ 1000) :
    Calls Try.prog 38 #[.pointer (some ⟨T, o, none⟩), .slice (some ⟨w.heap.size, 0, none⟩) l.length l.length] (w.alloc (.cells (l.map (Value.int .i64)).toArray 3)) fun e w' => ∃ v', e = .returned (.int .i64 (catR ns g l).1) ∧ Bldr w' B T o v' (catR ns g l).2 g ∧ Chg w w' T o v v' := by
  have hb : Below w.heap.size w (w.alloc (.cells (l.map (Value.int .i64)).toArray 3)) := (Below.refl _ _).alloc (Nat.le_refl _) _
  have := cat_any B T o v ns g (some ⟨w.heap.size, 0, none⟩) l.length l.length (w.heap.size + 1) l _ (h.keep hb) rfl (Nat.le_refl _) (by omega) (vals_new w _ 3 (0, 0)) (by simp) (apart_new h)
  exact this.mono fun e w' ⟨v', h1, h2, h3⟩ => ⟨v', h1, h2, (Chg.of_below hb).trans h3⟩
theorem re_yes (B T o : Nat) (v : Value) (ns : List Nod) (g x : Nat) (w : World) (h : Bldr w B T o v ns g) (hx : x < ns.length) (hr : rightN (ns.take (x + 1)) (g : Int) = true) :
    Calls Try.prog 14 #[.pointer (some ⟨T, o, none⟩), .int .i64 (x : Int)] w (ReYes w (ns.take (x + 1)) g) :=
  (re_in B T o v ns g x w h hx).mono fun e w' hh => by
    rcases hh with ⟨_, h1⟩ | ⟨h1, _⟩
    · exact h1
    · rw [hr] at h1; cases h1
theorem re_no (B T o : Nat) (v : Value) (ns : List Nod) (g x : Nat) (w : World) (h : Bldr w B T o v ns g) (hx : x < ns.length) (hr : rightN (ns.take (x + 1)) (g : Int) = false) :
    Calls Try.prog 14 #[.pointer (some ⟨T, o, none⟩), .int .i64 (x : Int)] w (ReNo w) :=
  (re_in B T o v ns g x w h hx).mono fun e w' hh => by
    rcases hh with ⟨h1, _⟩ | ⟨_, h1⟩
    · rw [hr] at h1; cases h1
    · exact h1
end Go.Proofs.Ytnfbgpjadnlgbab

set_option maxRecDepth 100000
namespace Go.Proofs.Ytnfbgpjadnlgbab
open Go.RowKit


def isW (c a b : Int) : Bool := decide (a ≤ c) && decide (c ≤ b)
def cUpper (c : Int) : Bool := isW c 65 90
def cLower (c : Int) : Bool := isW c 97 122
def cDigit (c : Int) : Bool := isW c 48 57
def cAlpha (c : Int) : Bool := cUpper c || cLower c
def cAlnum (c : Int) : Bool := cAlpha c || cDigit c
def cBlank (c : Int) : Bool := c == 32 || c == 9
def cGraph (c : Int) : Bool := isW c 33 126

theorem within_any (c a b : Int) (w : World) :
    Calls Try.prog 78 #[.int .u8 c, .int .u8 a, .int .u8 b] w fun e w' => e = .returned (.bool (isW c a b)) ∧ w = w' := by
  go_enter Try.func78, Try.ntmps78
  go_wp2
  all_goals
    go_ret
    exact ⟨ret_bool (by simp only [isW]; simp [*]; try omega), rfl⟩
theorem isUpper_any (c : Int) (w : World) :
    Calls Try.prog 73 #[.int .u8 c] w fun e w' => e = .returned (.bool (cUpper c)) ∧ w = w' := by
  go_enter Try.func73, Try.ntmps73
  go_wp2_with (go_at_call 78; refine (within_any _ _ _ _).mono ?_; rintro e w' ⟨rfl, rfl⟩)
  go_ret
  exact ⟨rfl, rfl⟩
theorem isLower_any (c : Int) (w : World) :
    Calls Try.prog 74 #[.int .u8 c] w fun e w' => e = .returned (.bool (cLower c)) ∧ w = w' := by
  go_enter Try.func74, Try.ntmps74
  go_wp2_with (go_at_call 78; refine (within_any _ _ _ _).mono ?_; rintro e w' ⟨rfl, rfl⟩)
  go_ret
  exact ⟨rfl, rfl⟩
theorem isDigit_any (c : Int) (w : World) :
    Calls Try.prog 71 #[.int .u8 c] w fun e w' => e = .returned (.bool (cDigit c)) ∧ w = w' := by
  go_enter Try.func71, Try.ntmps71
  go_wp2_with (go_at_call 78; refine (within_any _ _ _ _).mono ?_; rintro e w' ⟨rfl, rfl⟩)
  go_ret
  exact ⟨rfl, rfl⟩
theorem isGraph_any (c : Int) (w : World) :
    Calls Try.prog 79 #[.int .u8 c] w fun e w' => e = .returned (.bool (cGraph c)) ∧ w = w' := by
  go_enter Try.func79, Try.ntmps79
  go_wp2_with (go_at_call 78; refine (within_any _ _ _ _).mono ?_; rintro e w' ⟨rfl, rfl⟩)
  go_ret
  exact ⟨rfl, rfl⟩
theorem isBlank_any (c : Int) (w : World) :
    Calls Try.prog 77 #[.int .u8 c] w fun e w' => e = .returned (.bool (cBlank c)) ∧ w = w' := by
  go_enter Try.func77, Try.ntmps77
  go_wp2
  all_goals
    go_ret
    exact ⟨ret_bool (by simp [cBlank, *]), rfl⟩
theorem isAlpha_any (c : Int) (w : World) :
    Calls Try.prog 75 #[.int .u8 c] w fun e w' => e = .returned (.bool (cAlpha c)) ∧ w = w' := by
  go_enter Try.func75, Try.ntmps75
  go_wp2_with (first
    | (go_at_call 73; refine (isUpper_any _ _).mono ?_; rintro e w' ⟨rfl, rfl⟩)
    | (go_at_call 74; refine (isLower_any _ _).mono ?_; rintro e w' ⟨rfl, rfl⟩))
  all_goals
    go_ret
    exact ⟨ret_bool (by simp only [cAlpha]; simp [*]), rfl⟩
theorem isAlnum_any (c : Int) (w : World) :
    Calls Try.prog 76 #[.int .u8 c] w fun e w' => e = .returned (.bool (cAlnum c)) ∧ w = w' := by
  go_enter Try.func76, Try.ntmps76
  go_wp2_with (first
    | (go_at_call 75; refine (isAlpha_any _ _).mono ?_; rintro e w' ⟨rfl, rfl⟩)
    | (go_at_call 71; refine (isDigit_any _ _).mono ?_; rintro e w' ⟨rfl, rfl⟩))
  all_goals
    go_ret
    exact ⟨ret_bool (by simp only [cAlnum]; simp [*]), rfl⟩

/-- The document's classes: of a name and a byte, whether it is in; none of no class. -/
def clsOf (s : List UInt8) (c : Int) : Option Bool :=
  if s == [117, 112, 112, 101, 114] then some (cUpper c)
  else if s == [108, 111, 119, 101, 114] then some (cLower c)
  else if s == [100, 105, 103, 105, 116] then some (cDigit c)
  else if s == [97, 108, 112, 104, 97] then some (cAlpha c)
  else if s == [97, 108, 110, 117, 109] then some (cAlnum c)
  else if s == [98, 108, 97, 110, 107] then some (cBlank c)
  else if s == [115, 112, 97, 99, 101] then some (cBlank c || isW c 10 13)
  else if s == [99, 110, 116, 114, 108] then some (decide (c < 32) || c == 127)
  else if s == [103, 114, 97, 112, 104] then some (cGraph c)
  else if s == [112, 114, 105, 110, 116] then some (cGraph c || c == 32)
  else if s == [112, 117, 110, 99, 116] then some (cGraph c && !cAlnum c)
  else if s == [120, 100, 105, 103, 105, 116] then some (cDigit c || isW c 65 70 || isW c 97 102)
  else none

theorem is_any (s : ByteArray) (c : Int) (w : World) :
    Calls Try.prog 70 #[.string s, .int .u8 c] w fun e w' =>
      e = .returned (.tuple #[.bool ((clsOf s.toList c).getD false), .bool (clsOf s.toList c).isSome]) ∧ w = w' := by
  go_enter Try.func70, Try.ntmps70
  go_wp2_with (first
    | (go_at_call 73; refine (isUpper_any _ _).mono ?_; rintro e w' ⟨rfl, rfl⟩)
    | (go_at_call 74; refine (isLower_any _ _).mono ?_; rintro e w' ⟨rfl, rfl⟩)
    | (go_at_call 71; refine (isDigit_any _ _).mono ?_; rintro e w' ⟨rfl, rfl⟩)
    | (go_at_call 75; refine (isAlpha_any _ _).mono ?_; rintro e w' ⟨rfl, rfl⟩)
    | (go_at_call 76; refine (isAlnum_any _ _).mono ?_; rintro e w' ⟨rfl, rfl⟩)
    | (go_at_call 77; refine (isBlank_any _ _).mono ?_; rintro e w' ⟨rfl, rfl⟩)
    | (go_at_call 79; refine (isGraph_any _ _).mono ?_; rintro e w' ⟨rfl, rfl⟩)
    | (go_at_call 78; refine (within_any _ _ _ _).mono ?_; rintro e w' ⟨rfl, rfl⟩))
  all_goals
    go_ret2
    exact ⟨ret_bools (by simp [clsOf, *]) (by simp [clsOf, *]), rfl⟩

/-- The reference's rows. -/
def inRow : List UInt8 → Int → Bool
  | a :: b :: r, c => isW c a.toNat b.toNat || inRow r c
  | _, _ => false

theorem ret_one {v : Value} {b : Bool} (h : v = .bool b) : Ending.returned v = .returned (.bool b) := by rw [h]

theorem isW_lo {c a b : Int} (h : c < a) : isW c a b = false := by simp [isW]; omega
theorem isW_hi {c a b : Int} (h : b < c) : isW c a b = false := by simp [isW]; omega
theorem isW_in {c a b : Int} (h : a ≤ c) (k : c ≤ b) : isW c a b = true := by simp [isW]; omega
theorem inRow_step (s : ByteArray) (k : Nat) (c : Int) (h : 2 * k + 1 < s.size) :
    inRow (s.data.toList.drop (2 * k)) c = (isW c (s[2 * k].toNat) (s[2 * k + 1].toNat) || inRow (s.data.toList.drop (2 * (k + 1))) c) := by
  have h1 : 2 * k < s.data.toList.length := by rw [len_toList]; omega
  have h2 : 2 * k + 1 < s.data.toList.length := by rw [len_toList]; omega
  rw [List.drop_eq_getElem_cons h1, List.drop_eq_getElem_cons h2]
  rfl
theorem inRow_end (s : ByteArray) (k : Nat) (c : Int) (h : s.size ≤ 2 * k + 1) : inRow (s.data.toList.drop (2 * k)) c = false := by
  have hl : (s.data.toList.drop (2 * k)).length ≤ 1 := by
    rw [List.length_drop, len_toList]; omega
  match h' : s.data.toList.drop (2 * k), hl with
  | [], _ => rfl
  | [_], _ => rfl

end Go.Proofs.Ytnfbgpjadnlgbab
