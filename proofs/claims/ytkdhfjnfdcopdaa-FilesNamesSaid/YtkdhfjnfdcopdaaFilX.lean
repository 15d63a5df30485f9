/- What adding and cutting make of files; Pick. -/
import Derived.Test.YtkdhfjnfdcopdaaFilV
import Derived.Test.YtkdhfjnfdcopdaaFilS
import Derived.Test.YtkdhfjnfdcopdaaFilT
import Derived.Test.YtkdhfjnfdcopdaaFilU
namespace Go.Proofs.Ytkdhfjnfdcopdaa
open Go.RowKit

theorem pos_of_mem {fs : List Fil} {k : Nat} (hk : k < fs.length) : ∃ j, posN fs (fs[k]'hk).1 = some j := by
  cases h : posN fs (fs[k]'hk).1 with
  | some j => exact ⟨j, rfl⟩
  | none => exact absurd rfl (posN_none h _ (List.getElem_mem hk))
theorem lenF_some {fs : List Fil} {nm : ByteArray} {j : Nat} (h : posN fs nm = some j) : lenF fs nm = ((getF fs nm).length : Int) := by simp [lenF, h]
theorem add_there {fs : List Fil} (hok : OkF fs) {nm : ByteArray} {j : Nat} (h : posN fs nm = some j) {b : List UInt8} (hb : (getF fs nm).length + b.length ≤ 65536) :
    addF fs nm b = (setF fs nm (getF fs nm ++ b), 0) := by
  unfold addF putF
  simp only
  rw [if_pos]
  exact refuse_of (name_ok hok h) (by rw [List.length_append]; simp; omega) (fun e => by rw [h] at e; cases e)
theorem cut_far {fs : List Fil} {nm : ByteArray} {j : Nat} (h : posN fs nm = some j) {z : Int} (hz : ((getF fs nm).length : Int) < z) : cutF fs nm z = (fs, 3) := by
  unfold cutF; simp only [h]; rw [if_pos (.inr hz)]
theorem cut_back {fs : List Fil} {nm : ByteArray} {j : Nat} (h : posN fs nm = some j) (b : List UInt8) : cutF (setF fs nm (getF fs nm ++ b)) nm ((getF fs nm).length : Int) = (fs, 0) := by
  unfold cutF
  simp only [posN_spot, getF_setF]
  rw [if_neg (by rw [List.length_append]; omega), setF_setF, Int.toNat_natCast, List.take_left, setF_same h]
theorem flat_le {ls : List (List UInt8)} {m : Nat} (h : ∀ p ∈ ls, p.length ≤ m) : ls.flatten.length ≤ ls.length * m := by
  induction ls with
  | nil => simp
  | cons x r ih =>
    have h1 := h x (by simp)
    have h2 := ih fun p hp => h p (by simp [hp])
    rw [List.flatten_cons, List.length_append, List.length_cons, Nat.add_mul]; omega
theorem pick_any (z : Int) (n : Nat) (w : World) (h0 : 0 < n) (hn : n ≤ 20) :
    Calls Try.prog 26 #[.int .i64 z, .int .i64 (n : Nat)] w fun e w' => (∃ k : Nat, k < n ∧ e = .returned (.int .i64 (k : Nat))) ∧ w = w' := by
  have hne : (n : Int) ≠ 0 := by omega
  have h1 := Int.tmod_lt_of_pos z (show (0 : Int) < n by omega)
  have h2 : -(n : Int) < z.tmod n := by
    have := Int.tmod_lt_of_pos (-z) (show (0 : Int) < n by omega)
    rw [Int.neg_tmod] at this; omega
  by_cases h3 : z.tmod n < 0
  · go_enter Try.func26, Try.ntmps26
    go_wp2
    go_ret
    exact ⟨⟨(z.tmod n + n).toNat, by omega, ret_int (by rw [Int.toNat_of_nonneg (by omega)])⟩, rfl⟩
  · go_enter Try.func26, Try.ntmps26
    go_wp2
    go_ret
    exact ⟨⟨(z.tmod n).toNat, by omega, ret_int (by rw [Int.toNat_of_nonneg (by omega)])⟩, rfl⟩
end Go.Proofs.Ytkdhfjnfdcopdaa
