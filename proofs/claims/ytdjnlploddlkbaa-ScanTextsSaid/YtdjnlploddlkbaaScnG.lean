/- Contracts: Until, Rest, Text (package scan). -/
import Derived.Test.YtdjnlploddlkbaaScnC
import Derived.Test.YtdjnlploddlkbaaScnF
import Derived.Test.YtdjnlploddlkbaaMaxA
import Derived.Test.YtdjnlploddlkbaaSmB
import Derived.Lib.IndexBytes
import Derived.Lib.SlBytesConst
set_option linter.unusedVariables false
set_option linter.unusedSimpArgs false
set_option maxRecDepth 100000
namespace Go.Proofs.Ytdjnlploddlkbaa
open Go.RowKit

/-- How many bytes there are ahead of the next delimiter, if it comes ahead of a newline. -/
def untS (d : UInt8) (r : List UInt8) : Option Nat := if r[plS (anyOf [d, 10]) r]? = some d then some (plS (anyOf [d, 10]) r) else none
theorem untS_some {d : UInt8} {r : List UInt8} {k : Nat} (hk : plS (anyOf [d, 10]) r = k) (h : r[k]? = some d) : untS d r = some k := by unfold untS; rw [hk, if_pos h]
theorem untS_none {d : UInt8} {r : List UInt8} {k : Nat} (hk : plS (anyOf [d, 10]) r = k) (h : r[k]? ≠ some d) : untS d r = none := by unfold untS; rw [hk, if_neg h]
section
variable {w : World} {B C : Nat} {v : Value} {l : List UInt8} {a : Nat}
/-- What Until leaves. -/
def UntQ (w : World) (B C : Nat) (v : Value) (l : List UInt8) (a : Nat) (d : UInt8) (e : Ending) (w' : World) : Prop :=
  match untS d (l.drop a) with
  | none => e = .returned (.tuple #[.slice none 0 0, .int .i64 19]) ∧ CurQ w w' B C v l a
  | some k => (∃ u, e = .returned (.tuple #[u, .int .i64 0]) ∧ OwnB w' w.heap.size u ((l.drop a).take k)) ∧ CurQ w w' B C v l (a + k + 1)
theorem UntQ.no {d : UInt8} {w' : World} (h : untS d (l.drop a) = none) (hq : CurQ w w' B C v l a) : UntQ w B C v l a d (.returned (.tuple #[.slice none 0 0, .int .i64 19])) w' := by unfold UntQ; rw [h]; exact ⟨rfl, hq⟩
theorem UntQ.yes {d : UInt8} {w' : World} {k : Nat} {u : Value} (h : untS d (l.drop a) = some k) (ho : OwnB w' w.heap.size u ((l.drop a).take k)) (hq : CurQ w w' B C v l (a + k + 1)) : UntQ w B C v l a d (.returned (.tuple #[u, .int .i64 0])) w' := by unfold UntQ; rw [h]; exact ⟨⟨u, rfl, ho⟩, hq⟩
theorem until_not (h : Cur w B C v l a) (d : UInt8) (hd : dlm d = false) :
    Calls Try.prog 8 #[.pointer (some ⟨C, 0, none⟩), .int .u8 (d.toNat : Int)] w fun e w' => e = .returned (.tuple #[.slice none 0 0, .int .i64 19]) ∧ w = w' := by
  have hD := Lib.hid (isDelim_any d w)
  rw [hd] at hD
  clear h
  go_enter Try.func8, Try.ntmps8
  go_wp2_with (go_at_call 10; refine (hD.out).mono ?_; rintro e w1 ⟨rfl, rfl⟩)
  go_ret2
  exact ⟨rfl, rfl⟩
set_option maxHeartbeats 4000000 in
theorem until_any (h : Cur w B C v l a) (d : UInt8) (hd : dlm d = true) :
    Calls Try.prog 8 #[.pointer (some ⟨C, 0, none⟩), .int .u8 (d.toNat : Int)] w (UntQ w B C v l a d) := by
  have hD := Lib.hid (isDelim_any d w)
  rw [hd] at hD
  obtain ⟨A, c, hlv, h1, h2, h3, h4⟩ := h.rest
  have hL := Lib.hid (left_any h)
  rw [hlv] at hL
  have hle := h.le
  have hfew := h.few
  have hrl := Lib.hid (show (l.drop a).length = l.length - a from List.length_drop)
  have hmf : (l.drop a).length ≤ 1000000 := by rw [hrl.out]; omega
  have hK := Lib.hid (fun (q : Nat) => show Below w.heap.size w ((w.drewN q).alloc (.cells #[.int .u8 (d.toNat : Int), .int .u8 10] 5)) from (below_drewN (Below.refl _ _) q).alloc (Nat.le_refl _) _)
  have hPl := Lib.hid (fun (q : Nat) => show Calls Try.prog 25 #[.slice A (l.drop a).length c, .slice (some ⟨w.heap.size, 0, none⟩) 2 2] ((w.drewN q).alloc (.cells #[.int .u8 (d.toNat : Int), .int .u8 10] 5)) _ from
    plain_any (B := w.heap.size + 1) (l := l.drop a) (s := [d, 10]) rfl h1 (by omega) ((h4.below (hK.out q)).more (Nat.le_succ _)) rfl (byt_new (w.drewN q) [d, 10] 5 (0, 0)))
  have hpl := plS_le (anyOf [d, 10]) (l.drop a)
  have hh := Lib.hid h
  have hlvh := Lib.hid hlv
  unfold maxLen at h2
  clear h h3 h4 hlv
  generalize hk : plS (anyOf [d, 10]) (l.drop a) = k at *
  generalize hm : (l.drop a).length = m at *
  replace hk := Lib.hid hk
  replace hm := Lib.hid hm
  go_enter Try.func8, Try.ntmps8
  go_upto_region 7 with (first
    | (go_at_call 10; refine (hD.out).mono ?_; rintro e w1 ⟨rfl, rfl⟩)
    | (go_at_call 24; refine (hL.out).mono ?_; rintro e w1 ⟨rfl, q, rfl⟩; have hPq := Lib.hid (hPl.out q); have hKq := Lib.hid (hK.out q))
    | (go_at_call 25; refine (hPq.out).mono ?_; rintro e w1 ⟨rfl, rfl⟩))
  clear hD hL hPl hK hPq
  generalize (w.drewN q).alloc (.cells #[.int .u8 (d.toNat : Int), .int .u8 10] 5) = w2 at *
  have hC2 := Lib.hid (hh.out.keep hKq.out)
  have hQ2 := Lib.hid ((CurQ.refl hh.out).keep hKq.out)
  by_cases hkm : k = m
  · have hR := Lib.hid (untS_none hk.out (by rw [List.getElem?_eq_none (by rw [hm.out]; omega)]; exact fun e => by cases e))
    have e0 : ((k : Int) == (m : Int)) = true := by rw [beq_iff_eq]; omega
    go_wp2
    go_ret2
    exact UntQ.no hR.out hQ2.out
  · have e0 : ((k : Int) == (m : Int)) = false := by rw [beq_eq_false_iff_ne]; omega
    have hkx : k < (l.drop a).length := by rw [hm.out]; omega
    have hlt : k < m := by omega
    have hkI : (k : Int) < (m : Int) := by omega
    have hB2 := Lib.hid (hC2.out.own.rest_at hle hlvh.out)
    obtain ⟨ad, rfl, -, hc0⟩ := hB2.out.at_ hkx
    have hge := List.getElem?_eq_getElem hkx
    generalize hy : (l.drop a)[k]'hkx = y at *
    replace hy := Lib.hid hy
    by_cases hyd : y = d
    · subst hyd
      have hR := Lib.hid (untS_some hk.out hge)
      clear hge
      have c1 : w2.cell? ⟨C, 1, none⟩ = some (.int .i64 (a : Int)) := hC2.out.held.at_ rfl
      have t1 : w2.frozen? ⟨C, 1, none⟩ = false := hC2.out.held.thawed 1
      have hG := Lib.hid (show Cur (w2.setCell ⟨C, 1, none⟩ (.int .i64 ((a : Int) + (k : Int) + 1))) B C v l (a + k + 1) from hC2.out.goto' (by have := hrl.out; omega) (by omega))
      have hgr := Lib.hid (cur_grown w2 C 1 (.int .i64 ((a : Int) + (k : Int) + 1)))
      have hC := Lib.hid (clone_any (some ad) k c ((l.drop a).take k) (w2.setCell ⟨C, 1, none⟩ (.int .i64 ((a : Int) + (k : Int) + 1))).heap.size (w2.setCell ⟨C, 1, none⟩ (.int .i64 ((a : Int) + (k : Int) + 1))) (by rw [List.length_take, hm.out]; omega) (by omega) ((hG.out.own.rest_at hle hlvh.out).pre k))
      have hsz := Lib.hid (show w.heap.size ≤ (w2.setCell ⟨C, 1, none⟩ (.int .i64 ((a : Int) + (k : Int) + 1))).heap.size from Nat.le_trans hKq.out.size hgr.out.size)
      have hkl := Lib.hid (show ((l.drop a).take k).length = k from by rw [List.length_take, hm.out]; omega)
      generalize (y.toNat : Int) = z at *
      go_wp2_with (go_at_call 23; refine (hC.out).mono ?_; rintro e w4 ⟨v4, rfl, ho4, hb4⟩; have ho4h := Lib.hid ho4; have hb4h := Lib.hid hb4; clear ho4 hb4)
      go_ret2
      refine UntQ.yes hR.out ?_ ((CurQ.of_keep hKq.out ⟨hG.out, hgr.out⟩).keep hb4h.out)
      have := sw_base ho4h.out hsz.out
      unfold OwnB
      rw [hkl.out]
      exact this
    · have hR := Lib.hid (untS_none hk.out (by rw [hge]; intro e; exact hyd (Option.some.inj e)))
      have e1 := u8_ne hyd
      clear hge
      generalize (y.toNat : Int) = z at *
      generalize (d.toNat : Int) = zd at *
      go_wp2
      go_ret2
      exact UntQ.no hR.out hQ2.out
end
end Go.Proofs.Ytdjnlploddlkbaa
