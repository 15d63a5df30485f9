/- Contract: Text (package scan). -/
import Derived.Test.YtdjnlploddlkbaaScnG
set_option linter.unusedVariables false
set_option linter.unusedSimpArgs false
set_option maxRecDepth 100000
namespace Go.Proofs.Ytdjnlploddlkbaa
open Go.RowKit

section
variable {w : World} {B C : Nat} {v : Value} {l : List UInt8} {a : Nat}
/-- The bytes ahead of the newline that no \ takes along, or of the end. -/
def txtS (r : List UInt8) : List UInt8 := r.take (plS (anyOf [10]) r)
/-- What Text leaves. -/
def TxtQ (w : World) (B C : Nat) (v : Value) (l : List UInt8) (a : Nat) (e : Ending) (w' : World) : Prop :=
  match mnS (txtS (l.drop a)) with
  | none => e = .returned (.tuple #[.slice none 0 0, .int .i64 10]) ∧ CurQ w w' B C v l a
  | some t => (∃ u, e = .returned (.tuple #[u, .int .i64 0]) ∧ OwnB w' w.heap.size u (t ++ [10])) ∧ CurQ w w' B C v l (min (a + plS (anyOf [10]) (l.drop a) + 1) l.length)
theorem TxtQ.no {w' : World} (h : mnS (txtS (l.drop a)) = none) (hq : CurQ w w' B C v l a) : TxtQ w B C v l a (.returned (.tuple #[.slice none 0 0, .int .i64 10])) w' := by unfold TxtQ; rw [h]; exact ⟨rfl, hq⟩
theorem TxtQ.yes {w' : World} {t : List UInt8} {u : Value} (h : mnS (txtS (l.drop a)) = some t) (ho : OwnB w' w.heap.size u (t ++ [10])) (hq : CurQ w w' B C v l (min (a + plS (anyOf [10]) (l.drop a) + 1) l.length)) : TxtQ w B C v l a (.returned (.tuple #[u, .int .i64 0])) w' := by unfold TxtQ; rw [h]; exact ⟨⟨u, rfl, ho⟩, hq⟩
set_option maxHeartbeats 4000000 in
theorem text_any (h : Cur w B C v l a) :
    Calls Try.prog 17 #[.pointer (some ⟨C, 0, none⟩)] w (TxtQ w B C v l a) := by
  obtain ⟨A, c, hlv, h1, h2, h3, h4⟩ := h.rest
  have hL := Lib.hid (left_any h)
  rw [hlv] at hL
  have hle := h.le
  have hfew := h.few
  have hrl := Lib.hid (show (l.drop a).length = l.length - a from List.length_drop)
  have hmf : (l.drop a).length ≤ 1000000 := by rw [hrl.out]; omega
  have hK := Lib.hid (fun (q : Nat) => show Below w.heap.size w ((w.drewN q).alloc (.cells #[.int .u8 10] 5)) from (below_drewN (Below.refl _ _) q).alloc (Nat.le_refl _) _)
  have hPl := Lib.hid (fun (q : Nat) => show Calls Try.prog 25 #[.slice A (l.drop a).length c, .slice (some ⟨w.heap.size, 0, none⟩) 1 1] ((w.drewN q).alloc (.cells #[.int .u8 10] 5)) _ from
    plain_any (B := w.heap.size + 1) (l := l.drop a) (s := [10]) rfl h1 (by omega) ((h4.below (hK.out q)).more (Nat.le_succ _)) rfl (byt_new (w.drewN q) [10] 5 (0, 0)))
  have hpl := plS_le (anyOf [10]) (l.drop a)
  have hT := Lib.hid (show txtS (l.drop a) = (l.drop a).take (plS (anyOf [10]) (l.drop a)) from rfl)
  have hh := Lib.hid h
  have hlvh := Lib.hid hlv
  unfold maxLen at h2
  have hcm : c ≤ maxLen := by unfold maxLen; exact h2
  have hcmh := Lib.hid hcm
  clear h h3 h4 hlv hcm
  have hY := Lib.hid (fun (w' : World) (t : List UInt8) (u : Value) => TxtQ.yes (w := w) (B := B) (C := C) (v := v) (l := l) (a := a) (w' := w') (t := t) (u := u))
  have hN := Lib.hid (fun (w' : World) => TxtQ.no (w := w) (B := B) (C := C) (v := v) (l := l) (a := a) (w' := w'))
  generalize hk : plS (anyOf [10]) (l.drop a) = k at *
  generalize hm : (l.drop a).length = m at *
  replace hk := Lib.hid hk
  replace hm := Lib.hid hm
  have hB0 := Lib.hid hh.out.base
  go_enter Try.func17, Try.ntmps17
  go_upto_region 5 with (first
    | (go_at_call 24; refine (hL.out).mono ?_; rintro e w1 ⟨rfl, q, rfl⟩; have hPq := Lib.hid (hPl.out q); have hKq := Lib.hid (hK.out q))
    | (go_at_call 25; refine (hPq.out).mono ?_; rintro e w1 ⟨rfl, rfl⟩))
  clear hL hPl hK hPq
  generalize (w.drewN q).alloc (.cells #[.int .u8 10] 5) = w2 at *
  have hC2 := Lib.hid (hh.out.keep hKq.out)
  have hQ2 := Lib.hid ((CurQ.refl hh.out).keep hKq.out)
  have hM := Lib.hid (meant_any (w := w2) (A := A) (n := k) (c := c) (b := txtS (l.drop a)) (B := w2.heap.size) (by rw [hT.out, List.length_take, hm.out]; omega) (by omega) hcmh.out (Nat.le_refl _) (by rw [hT.out]; exact (hC2.out.own.rest_at hle hlvh.out).pre k) (by omega))
  cases hmn : mnS (txtS (l.drop a)) with
  | none =>
    have hM2 := Lib.hid (hM.out.mono fun e w' h => (show e = .returned (.tuple #[.slice none 0 0, .bool false]) ∧ Below w2.heap.size w2 w' from by unfold MnQ at h; rw [hmn] at h; exact h))
    clear hM
    have hR := Lib.hid (fun w' => hN.out w' hmn)
    clear hmn
    go_wp2_with (go_at_call 31; refine (hM2.out).mono ?_; rintro e w3 ⟨rfl, hb3⟩; have hb3h := Lib.hid hb3; clear hb3)
    go_ret2
    exact hR.out _ (hQ2.out.keep hb3h.out)
  | some t =>
    have hM2 := Lib.hid (hM.out.mono fun e w' h => (show (∃ v, e = .returned (.tuple #[v, .bool true]) ∧ OwnB w' w2.heap.size v t) ∧ Below w2.heap.size w2 w' from by unfold MnQ at h; rw [hmn] at h; exact h))
    clear hM
    have htl := Lib.hid (show t.length + ([10] : List UInt8).length ≤ 1000000000 from by
      have := mnS_len _ _ hmn
      rw [hT.out, List.length_take, hm.out] at this
      simp only [List.length_singleton]; omega)
    have hR := Lib.hid (fun w' u => hY.out w' t u hmn)
    clear hmn
    go_upto_region 6 with (go_at_call 31; refine (hM2.out).mono ?_; rintro e w3 ⟨⟨v3, rfl, ho3⟩, hb3⟩)
    have hQ3 := Lib.hid (hQ2.out.keep hb3)
    have ho3h := Lib.hid ho3
    have hs3 := Lib.hid (show w2.heap.size ≤ w3.heap.size from hb3.size)
    have hPL := Lib.hid (passLine_any hQ3.out.cur k (by have := hrl.out; omega))
    clear hb3 ho3 hM2
    go_upto_region 9 with (go_at_call 30; refine (hPL.out).mono ?_; rintro e w4 ⟨rfl, hc4, hg4⟩)
    have hq4 : CurQ w3 w4 B C v l (min (a + k + 1) l.length) := ⟨hc4, hg4⟩
    have ho4 := Lib.hid (hq4.other hQ3.out.cur ho3h.out)
    have hQ4 := Lib.hid (show CurQ w w4 B C v l (min (a + k + 1) l.length) from ⟨hc4, by
      have g := hQ3.out.grown
      exact ⟨hg4.os.trans g.os, hg4.tape.trans g.tape, hg4.output.trans g.output, Nat.le_trans g.size hg4.size, fun j hj hne => (hg4.block j (Nat.lt_of_lt_of_le hj g.size) hne).trans (g.block j hj hne)⟩⟩)
    have hs2 := Lib.hid (show w.heap.size ≤ w2.heap.size from hKq.out.size)
    have hs4 := Lib.hid (show w2.heap.size ≤ w4.heap.size from Nat.le_trans hs3.out hg4.size)
    clear hPL hq4 hc4 hg4
    have hA4 := Lib.hid ((Below.refl w4.heap.size w4).alloc (Nat.le_refl _) (.cells #[.int .u8 10] 5))
    have hn4 := Lib.hid (show BytV (w4.alloc (.cells #[.int .u8 10] 5)) (w4.heap.size + 1) (.slice (some ⟨w4.heap.size, 0, none⟩) 1 1) [10] from bytv_new w4 [10] 1 rfl (by decide))
    go_wp2_with (at_builtin; refine wpList_app rfl (.tmp 27) (.tmp 28) rfl rfl (OwnB.keep ho4.out hA4.out) rfl hn4.out htl.out (Nat.le_trans hs4.out hA4.out.size) ?_; intro v5 w5 h5 h6; have h5h := Lib.hid h5; have h6h := Lib.hid h6; clear h5 h6)
    go_ret2
    refine hR.out _ _ (sw_base h5h.out hs2.out) (CurQ.fresh hh.out (hQ4.out.keep hA4.out) h6h.out.grown fun j e => ?_)
    exact Nat.le_trans hs2.out (World.ownsRow.lt (OwnB.keep ho4.out hA4.out) j e).1
end
end Go.Proofs.Ytdjnlploddlkbaa
