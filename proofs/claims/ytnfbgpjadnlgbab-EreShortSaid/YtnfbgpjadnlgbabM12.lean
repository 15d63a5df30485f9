/- Contracts: Empty, Set, Bol, Eol, Rep, Group, Back; chain. -/
import Derived.Test.YtnfbgpjadnlgbabM11
set_option linter.unusedVariables false
set_option maxRecDepth 100000
namespace Go.Proofs.Ytnfbgpjadnlgbab
open Go.RowKit

theorem nodV_z (k a b lo hi g : Int) : nodV ⟨k, a, b, lo, hi, g, zset⟩ = .agg #[.int .i64 k, .int .i64 a, .int .i64 b, .int .i64 lo, .int .i64 hi, .int .i64 g, .int .u64 0, .int .u64 0, .int .u64 0, .int .u64 0] := by unfold nodV; rw [nodC_z]
def emptyN : Nod := ⟨0, 0, 0, 0, 0, 0, zset⟩
def setN (s : Nat → Bool) : Nod := ⟨1, 0, 0, 0, 0, 0, s⟩
def bolN : Nod := ⟨7, 0, 0, 0, 0, 0, zset⟩
def eolN : Nod := ⟨8, 0, 0, 0, 0, 0, zset⟩
def repN (a lo hi : Int) : Nod := ⟨4, a, 0, lo, hi, 0, zset⟩
def groupN (g a : Int) : Nod := ⟨5, a, 0, 0, 0, g, zset⟩
def backN (g : Int) : Nod := ⟨6, 0, 0, 0, 0, g, zset⟩
def twoN (k a b : Int) : Nod := ⟨k, a, b, 0, 0, 0, zset⟩

section
variable (B T o : Nat) (v : Value) (ns : List Nod) (g : Nat) (w : World) (h : Bldr w B T o v ns g)
include h
theorem empty_any : Calls Try.prog 11 #[.pointer (some ⟨T, o, none⟩)] w (BldRet w B T o v (putI ns g emptyN) (putL ns g emptyN) g) := by
  have hP := Lib.hid (put_any B T o v ns g emptyN w h)
  rw [show nodV emptyN = _ from nodV_z 0 0 0 0 0 0] at hP
  clear h
  go_enter Try.func11, Try.ntmps11
  go_wp2_with (go_at_call 15; refine (hP.out).mono ?_; rintro e w' ⟨v', rfl, h1, h2⟩)
  go_ret
  exact BldRet.mk rfl h1 h2
theorem bol_any : Calls Try.prog 34 #[.pointer (some ⟨T, o, none⟩)] w (BldRet w B T o v (putI ns g bolN) (putL ns g bolN) g) := by
  have hP := Lib.hid (put_any B T o v ns g bolN w h)
  rw [show nodV bolN = _ from nodV_z 7 0 0 0 0 0] at hP
  clear h
  go_enter Try.func34, Try.ntmps34
  go_wp2_with (go_at_call 15; refine (hP.out).mono ?_; rintro e w' ⟨v', rfl, h1, h2⟩)
  go_ret
  exact BldRet.mk rfl h1 h2
theorem eol_any : Calls Try.prog 35 #[.pointer (some ⟨T, o, none⟩)] w (BldRet w B T o v (putI ns g eolN) (putL ns g eolN) g) := by
  have hP := Lib.hid (put_any B T o v ns g eolN w h)
  rw [show nodV eolN = _ from nodV_z 8 0 0 0 0 0] at hP
  clear h
  go_enter Try.func35, Try.ntmps35
  go_wp2_with (go_at_call 15; refine (hP.out).mono ?_; rintro e w' ⟨v', rfl, h1, h2⟩)
  go_ret
  exact BldRet.mk rfl h1 h2
theorem rep_any (a lo hi : Int) : Calls Try.prog 42 #[.pointer (some ⟨T, o, none⟩), .int .i64 a, .int .i64 lo, .int .i64 hi] w (BldRet w B T o v (putI ns g (repN a lo hi)) (putL ns g (repN a lo hi)) g) := by
  have hP := Lib.hid (put_any B T o v ns g (repN a lo hi) w h)
  rw [show nodV (repN a lo hi) = _ from nodV_z 4 a 0 lo hi 0] at hP
  clear h
  go_enter Try.func42, Try.ntmps42
  go_wp2_with (go_at_call 15; refine (hP.out).mono ?_; rintro e w' ⟨v', rfl, h1, h2⟩)
  go_ret
  exact BldRet.mk rfl h1 h2
theorem group_any (q a : Int) : Calls Try.prog 51 #[.pointer (some ⟨T, o, none⟩), .int .i64 q, .int .i64 a] w (BldRet w B T o v (putI ns g (groupN q a)) (putL ns g (groupN q a)) g) := by
  have hP := Lib.hid (put_any B T o v ns g (groupN q a) w h)
  rw [show nodV (groupN q a) = _ from nodV_z 5 a 0 0 0 q] at hP
  clear h
  go_enter Try.func51, Try.ntmps51
  go_wp2_with (go_at_call 15; refine (hP.out).mono ?_; rintro e w' ⟨v', rfl, h1, h2⟩)
  go_ret
  exact BldRet.mk rfl h1 h2
theorem back_any (q : Int) : Calls Try.prog 69 #[.pointer (some ⟨T, o, none⟩), .int .i64 q] w (BldRet w B T o v (putI ns g (backN q)) (putL ns g (backN q)) g) := by
  have hP := Lib.hid (put_any B T o v ns g (backN q) w h)
  rw [show nodV (backN q) = _ from nodV_z 6 0 0 0 0 q] at hP
  clear h
  go_enter Try.func69, Try.ntmps69
  go_wp2_with (go_at_call 15; refine (hP.out).mono ?_; rintro e w' ⟨v', rfl, h1, h2⟩)
  go_ret
  exact BldRet.mk rfl h1 h2
theorem set_any (s : Nat → Bool) : Calls Try.prog 59 #[.pointer (some ⟨T, o, none⟩), setV s] w (BldRet w B T o v (putI ns g (setN s)) (putL ns g (setN s)) g) := by
  have hb : Below w.heap.size w (w.alloc (.cells (setC s) 32)) := (Below.refl _ _).alloc (Nat.le_refl _) _
  have hP := Lib.hid (put_any B T o v ns g (setN s) _ (h.keep hb))
  have hb' := Lib.hid hb
  clear hb
  unfold setV
  rw [show nodV (setN s) = _ from nodV_lit 1 0 0 0 0 0 s] at hP
  rw [show setC s = #[.int .u64 (wd s 0 : Nat), .int .u64 (wd s 1 : Nat), .int .u64 (wd s 2 : Nat), .int .u64 (wd s 3 : Nat)] from rfl] at hP hb' ⊢
  clear h
  go_enter Try.func59, Try.ntmps59
  go_wp2_with (go_at_call 15; refine (hP.out).mono ?_; rintro e w' ⟨v', rfl, h1, h2⟩)
  go_ret
  exact BldRet.mk rfl h1 ((Chg.of_below hb'.out).trans h2)
end
end Go.Proofs.Ytnfbgpjadnlgbab
