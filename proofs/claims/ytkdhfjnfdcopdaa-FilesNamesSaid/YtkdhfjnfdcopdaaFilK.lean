/- Contracts of package files that write: Cut. -/
import Derived.Test.YtkdhfjnfdcopdaaFilJ
namespace Go.Proofs.Ytkdhfjnfdcopdaa
open Go.RowKit

theorem setF_pos {fs : List Fil} {nm : ByteArray} {k : Nat} (h : posN fs nm = some k) (hk : k < fs.length) (b : List UInt8) : fs.set k ((fs[k]'hk).1, b) = setF fs nm b := by
  obtain ⟨_, e⟩ := posN_lt h
  rw [e, setF, h]

set_option maxHeartbeats 2000000 in
theorem cut_any (F : Nat → Prop) (T : Nat) (fs : List Fil) (nm : ByteArray) (z : Int) (w : World) (h : Tab w F T fs) :
    Calls Try.prog 17 #[.pointer (some ⟨T, 0, none⟩), .string nm, .int .i64 z] w fun e w' => e = .returned (.int .i64 (cutF fs nm z).2) ∧ Tab w' F T (cutF fs nm z).1 ∧ Fr F w w' := by
  have hP := place_any F T fs nm w h
  obtain ⟨v, vs, h⟩ := h
  have hslot := h.slot
  have hlt := h.lt
  have hcu : cutF fs nm z = match posN fs nm with | none => (fs, 6) | some _ => if z < 0 ∨ ((getF fs nm).length : Int) < z then (fs, 3) else (setF fs nm ((getF fs nm).take z.toNat), 0) := rfl
  cases hp : posN fs nm with
  | none =>
    rw [posI_neg hp] at hP
    rw [hp] at hcu
    simp only [hcu]
    replace hP := Lib.hid hP
    have hh := Lib.hid h
    obtain ⟨A, cap, rfl, h1, h2, -⟩ := h.row.fils
    clear hp hcu h
    go_enter Try.func17, Try.ntmps17
    go_wp2_with (first
      | (go_at_call 29; refine (hP.out).mono ?_; rintro e w1 ⟨rfl, hb1⟩))
    go_ret
    exact ⟨rfl, ⟨_, _, hh.out.below hb1⟩, Fr.of_below hb1⟩
  | some k =>
    obtain ⟨hk, -⟩ := posN_lt hp
    rw [posI_some hp] at hP
    rw [hp] at hcu
    rw [getF_some hp hk] at hcu
    have hput := Lib.hid (fun b => setF_pos hp hk b)
    obtain ⟨g, cap, rfl, h1, h2, -⟩ := own_some h.row.own (by omega)
    obtain ⟨x, hx, hcx, hfx, hg, hxo⟩ := h.fileB hk
    obtain ⟨A1, c1, rfl, -, hc1, hm1, -⟩ := own_byt hxo.1
    unfold maxLen at h2 hm1
    replace hP := Lib.hid hP
    have hh := Lib.hid h
    replace hx := Lib.hid hx
    replace hxo := Lib.hid hxo
    have hkk := Lib.hid hk
    have hrow := Lib.hid (h.row.kind g rfl)
    clear hp h
    have hB1 : ∀ w1, Below w.heap.size w w1 → w1.cell? ⟨T, 0, none⟩ = some (.slice (some ⟨g, 0, none⟩) fs.length cap) ∧ w1.cell? ⟨g, k * 2 + 1, none⟩ = some (.slice A1 (fs[k]'hk).2.length c1) ∧ w1.frozen? ⟨g, k * 2 + 1, none⟩ = false ∧ T < w1.heap.size ∧ g < w1.heap.size :=
      fun w1 hb => ⟨(hb.cell (p := ⟨T, 0, none⟩) hlt).trans hslot, (hb.cell (p := ⟨g, k * 2 + 1, none⟩) hg).trans hcx, (hb.frozen (p := ⟨g, k * 2 + 1, none⟩) hg).trans hfx, Nat.lt_of_lt_of_le hlt hb.size, Nat.lt_of_lt_of_le hg hb.size⟩
    replace hB1 := Lib.hid hB1
    by_cases hbad : z < 0 ∨ (((fs[k]'hk).2.length : Nat) : Int) < z
    · simp only [hcu, if_pos hbad]
      clear hcu hput
      generalize (fs[k]'hk).2.length = m at *
      rcases hbad with hz | hz
      · go_enter Try.func17, Try.ntmps17
        go_wp2_with (first
          | (go_at_call 29; refine (hP.out).mono ?_; rintro e w1 ⟨rfl, hb1⟩
             obtain ⟨q1, q2, q3, q4, q5⟩ := hB1.out w1 hb1))
        go_ret
        exact ⟨rfl, ⟨_, _, hh.out.below hb1⟩, Fr.of_below hb1⟩
      · have hz0 : ¬ z < 0 := by omega
        go_enter Try.func17, Try.ntmps17
        go_wp2_with (first
          | (go_at_call 29; refine (hP.out).mono ?_; rintro e w1 ⟨rfl, hb1⟩
             obtain ⟨q1, q2, q3, q4, q5⟩ := hB1.out w1 hb1))
        go_ret
        exact ⟨rfl, ⟨_, _, hh.out.below hb1⟩, Fr.of_below hb1⟩
    · simp only [hcu, if_neg hbad]
      obtain ⟨m, rfl⟩ : ∃ m : Nat, z = (m : Int) := ⟨z.toNat, by omega⟩
      rw [Int.toNat_natCast]
      have hml : m ≤ (fs[k]'hk).2.length := by omega
      have hmz : (m : Int) ≤ (((fs[k]'hk).2.length : Nat) : Int) := by omega
      have hcut := Lib.hid (hxo.out.cut hml)
      have hfin := Lib.hid (fun (w1 : World) (hb : Below w.heap.size w w1) => (hh.out.below hb).put hk hx.out (World.grownBy.refl w1 _) (hcut.out.kept (fun b e => hb.block b (hcut.out.lt e)) fun _ _ f => f) (fun b e => .inl (by cases A1 <;> exact e)))
      clear hcu hbad
      have hlen : ∀ b, (setF fs nm b).length = fs.length := fun b => by rw [← hput.out b, List.length_set]
      replace hlen := Lib.hid hlen
      generalize hL : (fs[k]'hk).2 = l at *
      have hA1 : ∀ q : Nat, A1.map (·.add 0) = A1 := fun _ => by
        rcases hxo.out.1.2 with ⟨e, _⟩ | ⟨g1, _, _, e, _⟩
        · injection e with e; rw [e]; rfl
        · injection e with e; rw [e]; rfl
      go_enter Try.func17, Try.ntmps17
      go_wp2_with (first
        | (go_at_call 29; refine (hP.out).mono ?_; rintro e w1 ⟨rfl, hb1⟩
           obtain ⟨q1, q2, q3, q4, q5⟩ := hB1.out w1 hb1))
      go_ret
      refine ⟨rfl, ?_, (Fr.of_below hb1).trans (Fr.setCell _ _ hrow.out)⟩
      have := hfin.out w1 hb1
      rw [hput.out, ← hlen.out (l.take m)] at this
      exact ⟨_, _, this⟩
end Go.Proofs.Ytkdhfjnfdcopdaa
