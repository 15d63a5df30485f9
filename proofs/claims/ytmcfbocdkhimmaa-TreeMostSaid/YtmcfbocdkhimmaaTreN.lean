/- Contracts: Empty, Set, Bol, Eol, Rep, Group, Back; chain. -/
import Derived.Test.YtmcfbocdkhimmaaTreL
set_option linter.unusedVariables false
namespace Go.Proofs.Ytmcfbocdkhimmaa
open Go.RowKit

theorem nodV_z (k a b lo hi g : Int) : nodV ⟨k, a, b, lo, hi, g, zset⟩ = .agg #[.int .i64 k, .int .i64 a, .int .i64 b, .int .i64 lo, .int .i64 hi, .int .i64 g, .int .u64 0, .int .u64 0, .int .u64 0, .int .u64 0] := by unfold nodV; rw [nodC_z]
def emptyN : Nod := ⟨0, 0, 0, 0, 0, 0, zset⟩
def setN (s : Nat → Bool) : Nod := ⟨1, 0, 0, 0, 0, 0, s⟩
def bolN : Nod := ⟨7, 0, 0, 0, 0, 0, zset⟩
def eolN : Nod := ⟨8, 0, 0, 0, 0, 0, zset⟩
def repN (a lo hi : Int) : Nod := ⟨4, a, 0, lo, hi, 0, zset⟩
def groupN (g a : Int) : Nod := ⟨5, a, 0, 0, 0, g, zset⟩
def backN (g : Int) : Nod := ⟨6, 0, 0, 0, 0, g, zset⟩
def twoN (k a b : Int) : Nod := ⟨k, a, b, 0, 0, 0, zset⟩

section
variable (B T o : Nat) (v : Value) (ns : List Nod) (g : Nat) (w : World) (h : Bldr w B T o v ns g)
include h
theorem empty_any : Calls Try.prog 12 #[.pointer (some ⟨T, o, none⟩)] w (BldRet w B T o v (putI ns g emptyN) (putL ns g emptyN) g) := by
  have hP := Lib.hid (put_any B T o v ns g emptyN w h)
  rw [show nodV emptyN = _ from nodV_z 0 0 0 0 0 0] at hP
  clear h
  go_enter Try.func12, Try.ntmps12
  go_wp2_with (go_at_call 18; refine (hP.out).mono ?_; rintro e w' ⟨v', rfl, h1, h2⟩)
  go_ret
  exact BldRet.mk rfl h1 h2
theorem bol_any : Calls Try.prog 9 #[.pointer (some ⟨T, o, none⟩)] w (BldRet w B T o v (putI ns g bolN) (putL ns g bolN) g) := by
  have hP := Lib.hid (put_any B T o v ns g bolN w h)
  rw [show nodV bolN = _ from nodV_z 7 0 0 0 0 0] at hP
  clear h
  go_enter Try.func9, Try.ntmps9
  go_wp2_with (go_at_call 18; refine (hP.out).mono ?_; rintro e w' ⟨v', rfl, h1, h2⟩)
  go_ret
  exact BldRet.mk rfl h1 h2
theorem set_any (s : Nat → Bool) : Calls Try.prog 10 #[.pointer (some ⟨T, o, none⟩), setV s] w (BldRet w B T o v (putI ns g (setN s)) (putL ns g (setN s)) g) := by
  have hb : Below w.heap.size w (w.alloc (.cells (setC s) 33)) := (Below.refl _ _).alloc (Nat.le_refl _) _
  have hP := Lib.hid (put_any B T o v ns g (setN s) _ (h.keep hb))
  have hb' := Lib.hid hb
  clear hb
  unfold setV
  rw [show nodV (setN s) = _ from nodV_lit 1 0 0 0 0 0 s] at hP
  rw [show setC s = #[.int .u64 (wd s 0 : Nat), .int .u64 (wd s 1 : Nat), .int .u64 (wd s 2 : Nat), .int .u64 (wd s 3 : Nat)] from rfl] at hP hb' ⊢
  clear h
  go_enter Try.func10, Try.ntmps10
  go_wp2_with (go_at_call 18; refine (hP.out).mono ?_; rintro e w' ⟨v', rfl, h1, h2⟩)
  go_ret
  exact BldRet.mk rfl h1 ((Chg.of_below hb'.out).trans h2)
end
end Go.Proofs.Ytmcfbocdkhimmaa
