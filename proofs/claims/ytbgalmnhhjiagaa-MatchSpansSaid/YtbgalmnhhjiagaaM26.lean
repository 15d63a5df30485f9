/- Contract of the way's put. Contracts of package class: bit, Has. -/
import Derived.Test.YtbgalmnhhjiagaaM25
import Derived.Deep.RegionLaw
import Derived.Deep.RegionWith
import Derived.Test.YtbgalmnhhjiagaaProg
import Derived.Test.YtbgalmnhhjiagaaM04
import Derived.Lib.Hide
import Derived.IntWalk
import Derived.Deep.QuietTactic
import Derived.BigQuiet
import Derived.WalkSmall
set_option linter.unusedVariables false
set_option maxRecDepth 100000
namespace Go.Proofs.Ytbgalmnhhjiagaa
open Go.RowKit

/-- What put leaves: a cell more ahead. -/
def MPut (w : World) (W : Nat) (p : Pt) (pv : Value) (k n t q : Int) (e : Ending) (w' : World) : Prop :=
  e = .returned (.tuple #[]) ∧ ∃ b, w.heap.size ≤ b ∧ Held w' W 75 (wayC p (.pointer (some ⟨b, 0, none⟩))) ∧ Held w' b 92 #[.int .i64 k, .int .i64 n, .int .i64 t, .int .i64 q, pv] ∧ w.grownBy w' (some W)
set_option maxHeartbeats 4000000 in
theorem mput_any (W : Nat) (p : Pt) (pv : Value) (k n t q : Int) (w : World) (h : Held w W 75 (wayC p pv)) (hp : PtrV pv) :
    Calls Try.prog 24 #[.pointer (some ⟨W, 0, none⟩), .agg #[.int .i64 k, .int .i64 n, .int .i64 t, .int .i64 q]] w (MPut w W p pv k n t q) := by
  obtain ⟨x, rfl⟩ := hp
  have hlt := h.lt
  have hne : W ≠ w.heap.size := by omega
  have c21 : w.cell? ⟨W, 21, none⟩ = some (.pointer x) := h.at_ rfl
  have t21 := h.thawed 21
  have hh := Lib.hid h
  clear h
  go_enter Try.func24, Try.ntmps24
  go_wp2
  go_region
  all_goals
    go_wp2
    go_end0
    refine ⟨rfl, w.heap.size + 1, by omega, ?_, ?_, ?_⟩
    · exact (((hh.out.put 21 (.pointer (some ⟨w.heap.size + 1, 0, none⟩))).alloc _).alloc _).drew
    · have := held_new2 (w.setCell ⟨W, 21, none⟩ (.pointer (some ⟨w.heap.size + 1, 0, none⟩))) (.cells #[.int .i64 k, .int .i64 n, .int .i64 t, .int .i64 q] 78) 92 #[.int .i64 k, .int .i64 n, .int .i64 t, .int .i64 q, .pointer x]
      rw [World.size_setCell] at this
      exact this.drew
    · exact grown_then (grown_cell w W 21 _) ((((Below.refl _ _).alloc (Nat.le_refl _) _).alloc (by simp) _).drew)
section
variable {w w' : World} {B S W : Nat} {An : Option Addr} {nn cn : Nat} {At : Option Addr} {nt ct : Nat} {ns : List Nod} {t : List UInt8} {g : Int} {a left : Nat} {v : Value} {xs : List Wt} {b : Option Spn} {pv : Value} {p : Pt} {l : List Tsk} {k n u q : Int} {tk : Tsk} {e : Ending}
/-- A task more is ahead of the way's row. -/
theorem Sta.put (h : Sta w B S W An nn cn At nt ct ns t g a left v xs b pv p l) (hk : TkC ns tk k n u q) (hm : MPut w W p pv k n u q e w') : e = .returned (.tuple #[]) ∧ ∃ pv', Sta w' B S W An nn cn At nt ct ns t g a left v xs b pv' p (tk :: l) ∧ Chm w w' S W v v := by
  obtain ⟨he, c, hc, h1, h2, h3⟩ := hm
  refine ⟨he, _, h.wayed h3 h1 (.cons h2 hk (h.row.keep fun b cs hb => hb.grown h3 (fun e => ?_)))⟩
  exact hb.apart h.way (by decide) (Option.some.inj e)
/-- Another way. -/
structure Ow (w : World) (B : Nat) (ns : List Nod) (O : Nat) (pv : Value) (p : Pt) (l : List Tsk) : Prop where
  way : Held w O 75 (wayC p pv)
  row : RowAt w ns pv l
  base : B ≤ O
theorem Ow.keep {O : Nat} (h : Ow w B ns O pv p l) (hb : Below w.heap.size w w') : Ow w' B ns O pv p l := ⟨h.way.keep hb, h.row.far hb, h.base⟩
theorem Ow.put {O : Nat} (h : Ow w B ns O pv p l) (hk : TkC ns tk k n u q) (hm : MPut w O p pv k n u q e w') : e = .returned (.tuple #[]) ∧ w.grownBy w' (some O) ∧ ∃ pv', Ow w' B ns O pv' p (tk :: l) := by
  obtain ⟨he, c, hc, h1, h2, h3⟩ := hm
  refine ⟨he, h3, _, h1, .cons h2 hk (h.row.keep fun b cs hb => hb.grown h3 (fun e => ?_)), h.base⟩
  exact hb.apart h.way (by decide) (Option.some.inj e)
end
end Go.Proofs.Ytbgalmnhhjiagaa

set_option maxRecDepth 100000
namespace Go.Proofs.Ytbgalmnhhjiagaa
open Go.RowKit

theorem pow_small (c : Nat) : (2 : Int) ^ (c % 64) % 18446744073709551616 = ((bitN c : Nat) : Int) := by
  have hb := bitN_lt c
  have e : (2 : Int) ^ (c % 64) = ((bitN c : Nat) : Int) := by simp [bitN]
  rw [e]
  omega

theorem bit_any (c : Nat) (w : World) (hc : c < 256) :
    Calls Try.prog 48 #[.int .u8 (c : Int)] w fun e w' => e = .returned (.int .u64 ((bitN c : Nat) : Int)) ∧ w = w' := by
  have h1 : (0 : Int) ≤ (c : Int) % 64 := by omega
  have h2 : (c : Int) % 64 ≤ 64 := by omega
  have ht : ((c : Int) % 64).toNat = c % 64 := by omega
  go_enter Try.func48, Try.ntmps48
  go_wp2
  go_ret
  exact ⟨ret_int (pow_small c), rfl⟩

set_option maxRecDepth 100000 in
theorem has_any (f : Nat → Bool) (c : Nat) (w : World) (hc : c < 256) :
    Calls Try.prog 45 #[setV f, .int .u8 (c : Int)] w fun e w' => e = .returned (.bool (f c)) ∧ Below w.heap.size w w' := by
  unfold setV setC
  obtain ⟨k, i, he, hi, hk⟩ := byte_parts c hc
  have hA := Lib.hid (and_ne f c k i he hi)
  have h0 := tdiv_of he hi
  have h1 := ediv_of he hi
  clear he hi
  rcases hk with rfl | rfl | rfl | rfl
  all_goals
    go_enter Try.func45, Try.ntmps45
    go_wp2_with (go_quiet ((go_at_call 48; exact Calls.quiet_of_same ((bit_any c _ hc).mono fun e w' h => ⟨h.1, h.2.symm⟩))))
    go_ret
    exact ⟨ret_bool hA.out, below_drewN ((Below.refl _ _).alloc (Nat.le_refl _) _) _⟩

section
variable {w w' : World} {g : Nat} {f : Nat → Bool}
theorem SetAt.more {c k i : Nat} (h : SetAt w g f) (he : c = 64 * k + i) (hi : i < 64) (hk : k = 0 ∨ k = 1 ∨ k = 2 ∨ k = 3) :
    SetAt (w.setCell ⟨g, k, none⟩ (.int .u64 (bits .or .u64 ((wd f k : Nat) : Int) ((bitN c : Nat) : Int)))) g (fun x => f x || decide (x = c)) := by
  unfold SetAt at h ⊢
  rw [heap_setCell_same w g k _ _ _ h, or_bit f c k i he hi]
  have hw : ∀ k', k' ≠ k → wd (fun x => f x || decide (x = c)) k' = wd f k' := fun k' hk' => wd_more f c k k' i he hi hk'
  unfold setC
  rcases hk with rfl | rfl | rfl | rfl
  · rw [hw 1 (by decide), hw 2 (by decide), hw 3 (by decide)]; rfl
  · rw [hw 0 (by decide), hw 2 (by decide), hw 3 (by decide)]; rfl
  · rw [hw 0 (by decide), hw 1 (by decide), hw 3 (by decide)]; rfl
  · rw [hw 0 (by decide), hw 1 (by decide), hw 2 (by decide)]; rfl
end
end Go.Proofs.Ytbgalmnhhjiagaa
