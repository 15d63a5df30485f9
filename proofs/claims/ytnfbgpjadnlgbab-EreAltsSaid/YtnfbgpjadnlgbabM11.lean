/- Contract: put. -/
import Derived.Test.YtnfbgpjadnlgbabM10
import Derived.Deep.AppendLies
import Derived.Deep.RegionLaw
import Derived.OwnWalk
set_option linter.unusedVariables false
set_option maxRecDepth 100000
namespace Go.Proofs.Ytnfbgpjadnlgbab
open Go.RowKit

noncomputable def canPut (ns : List Nod) (g : Nat) (n : Nod) : Bool := decide (ns.length < 1000) && fitsN n (ns.length : Int) (g : Int)
noncomputable def putI (ns : List Nod) (g : Nat) (n : Nod) : Int := if canPut ns g n = true then (ns.length : Int) else -1
noncomputable def putL (ns : List Nod) (g : Nat) (n : Nod) : List Nod := if canPut ns g n = true then ns ++ [n] else ns
/-- What a call that puts something leaves. -/
def BldRet (w : World) (B T o : Nat) (v : Value) (z : Int) (ns : List Nod) (g : Nat) (e : Ending) (w' : World) : Prop :=
  ∃ v', e = .returned (.int .i64 z) ∧ Bldr w' B T o v' ns g ∧ Chg w w' T o v v'
theorem BldRet.mk {w : World} {B T o : Nat} {v v' : Value} {z z' : Int} {ns : List Nod} {g : Nat} {w' : World} (hz : z' = z) (h : Bldr w' B T o v' ns g) (hc : Chg w w' T o v v') : BldRet w B T o v z ns g (.returned (.int .i64 z')) w' := ⟨v', by rw [hz], h, hc⟩
theorem node_info : (Try.prog.info? 34).map (fun i => (i.zero, i.size, i.bytes)) = some (some (.agg #[.int .i64 0, .int .i64 0, .int .i64 0, .int .i64 0, .int .i64 0, .int .i64 0, .int .u64 0, .int .u64 0, .int .u64 0, .int .u64 0]), 10, 80) := by kernel_rfl
/-- A node's cells. -/
def CellsN (w : World) (B : Nat) (k a b lo hi g : Int) (s0 s1 s2 s3 : Nat) : Prop :=
  w.cell? ⟨B, 0, none⟩ = some (.int .i64 k) ∧ w.cell? ⟨B, 1, none⟩ = some (.int .i64 a) ∧ w.cell? ⟨B, 2, none⟩ = some (.int .i64 b) ∧ w.cell? ⟨B, 3, none⟩ = some (.int .i64 lo) ∧ w.cell? ⟨B, 4, none⟩ = some (.int .i64 hi) ∧
  w.cell? ⟨B, 5, none⟩ = some (.int .i64 g) ∧ w.cell? ⟨B, 6, none⟩ = some (.int .u64 (s0 : Int)) ∧ w.cell? ⟨B, 7, none⟩ = some (.int .u64 (s1 : Int)) ∧ w.cell? ⟨B, 8, none⟩ = some (.int .u64 (s2 : Int)) ∧ w.cell? ⟨B, 9, none⟩ = some (.int .u64 (s3 : Int))
/-- A node more. -/
theorem Bldr.more {w w' : World} {B T o : Nat} {v u : Value} {ns : List Nod} {g : Nat} {n : Nod} (h : Bldr w B T o v ns g) (hl : ns.length < 1000) (hown : w'.ownsRow B 34 10 u (ns.length + 1) (nodsL ns ++ nodL n)) (hg : w.grownBy w' v.ownBlock) :
    Bldr (w'.setCell ⟨T, o, none⟩ u) B T o u (ns ++ [n]) g := by
  obtain ⟨t, cs, hc, hne, h1, h2⟩ := h.obj
  have hlt : o < cs.size := (Array.getElem?_eq_some_iff.1 h1).1
  have hT : Held w' T t cs := hc.grown hg (fun e => h.apart e.symm)
  have hgr : w'.grownBy (w'.setCell ⟨T, o, none⟩ u) (some T) := by
    have hb : Below 0 w' (w'.setCell ⟨T, o, none⟩ u) := (Below.refl 0 w').setCell (Nat.zero_le _) u
    exact ⟨hb.os, hb.tape, hb.output, hb.size, fun k _ hne => Below.heap_setCell w' _ u k (fun e => hne (by rw [e]))⟩
  have hne2 : u.ownBlock ≠ some T := hT.not_own hown hne
  refine ⟨⟨t, _, hT.put o u, hne, ?_, ?_⟩, ?_, by simp; omega, h.grp, Nat.le_trans (Nat.le_trans h.base hg.size) hgr.size⟩
  · rw [Array.getElem?_setIfInBounds, if_pos rfl, if_pos hlt]
  · rw [Array.getElem?_setIfInBounds, if_neg (by omega)]; exact h2
  · have := hown.kept hgr (.inr hne2)
    rw [nodsL_append, List.length_append]
    have e : nodsL [n] = nodL n := by simp [nodsL]
    rw [e]
    exact this

theorem Bldr.grown {w w' : World} {B T o : Nat} {v : Value} {ns : List Nod} {g : Nat} (h : Bldr w B T o v ns g) (hg : w.grownBy w' v.ownBlock) : w'.cell? ⟨T, o, none⟩ = some v ∧ w'.frozen? ⟨T, o, none⟩ = false := by
  obtain ⟨t, cs, hc, hne, h1, h2⟩ := h.obj
  have hT : Held w' T t cs := hc.grown hg (fun e => h.apart e.symm)
  exact ⟨hT.at_ h1, hT.thawed o⟩

set_option maxRecDepth 100000 in
set_option maxHeartbeats 16000000 in
theorem put_any (B T o : Nat) (v : Value) (ns : List Nod) (g : Nat) (n : Nod) (w : World) (h : Bldr w B T o v ns g) :
    Calls Try.prog 15 #[.pointer (some ⟨T, o, none⟩), nodV n] w (BldRet w B T o v (putI ns g n) (putL ns g n) g) := by
  have hF := Lib.hid (fun w => fits_any n (ns.length : Int) (g : Int) w)
  have hb0 : Below w.heap.size w (w.alloc (.cells (nodC n) 34)) := (Below.refl _ _).alloc (Nat.le_refl _) _
  have hN0 := held_new w 34 (nodC n)
  have h0 := h.keep hb0
  have hcv := h0.cv
  have hcg := h0.cg
  have hth := h0.thawed o
  have hTl := h.lt
  have hap := Lib.hid (show some w.heap.size ≠ v.ownBlock from fun e => absurd (h.own.lt _ e.symm).2 (Nat.lt_irrefl _))
  obtain ⟨A, cap, rfl, hk1, hk2, -⟩ := h.slice
  have hl := h.len
  have hne : T ≠ w.heap.size := by omega
  obtain ⟨i0, hi0, hq0, hq1, hq2⟩ := info_parts node_info
  have hI2 := Lib.hid hq2
  have hh := Lib.hid h
  have hh0 := Lib.hid h0
  clear h h0 hq2
  unfold maxLen at hk2
  by_cases hbig : 1000 ≤ ns.length
  · have hp : canPut ns g n = false := by unfold canPut; rw [decide_eq_false (by omega)]; rfl
    rw [show putI ns g n = -1 by simp [putI, hp], show putL ns g n = ns by simp [putL, hp]]
    have g1 : decide (1000 ≤ (ns.length : Int)) = true := decide_eq_true (by omega)
    have hlen : ns.length = 1000 := by omega
    rw [hlen] at hcv g1
    replace hlen := Lib.hid hlen
    rw [hlen.out] at hh hh0 ⊢
    clear hF hN0 hi0 hq0 hq1 hI2 hk1 hl hbig
    have hb0' := Lib.hid hb0
    clear hb0
    show Calls Try.prog 15 #[.pointer (some ⟨T, o, none⟩), .agg (nodC n)] w _
    go_enter Try.func15, Try.ntmps15
    go_wp2
    go_quiet (fail)
    go_wp2
    go_ret
    exact BldRet.mk rfl ((hh0.out).keep (below_drewN (Below.refl _ _) _)) (Chg.of_below (below_drewN hb0'.out _))
  · have hbig : ns.length < 1000 := by omega
    have hp : canPut ns g n = fitsN n (ns.length : Int) (g : Int) := by unfold canPut; rw [decide_eq_true hbig]; rfl
    have hI : putI ns g n = if fitsN n (ns.length : Int) (g : Int) = true then (ns.length : Int) else -1 := by rw [← hp]; rfl
    have hL : putL ns g n = if fitsN n (ns.length : Int) (g : Int) = true then ns ++ [n] else ns := by rw [← hp]; rfl
    rw [hI, hL]
    clear hI hL hp
    have g1 : decide (1000 ≤ (ns.length : Int)) = false := decide_eq_false (by omega)
    have hmore := Lib.hid (fun w w' u (h : Bldr w B T o (.slice A ns.length cap) ns g) => h.more (w' := w') (u := u) (n := n) hbig)
    have hlen := Lib.hid (show ns.length = ns.length from rfl)
    generalize fitsN n (ns.length : Int) (g : Int) = fb at *
    generalize hLg : ns.length = L at *
    replace hLg := Lib.hid hLg
    generalize hnn : ns ++ [n] = nn at *
    generalize hnl : nodL n = nl at *
    generalize hz : (if fb = true then (L : Int) else -1) = z
    generalize hzl : (if fb = true then nn else ns) = zl
    replace hz := Lib.hid hz
    replace hzl := Lib.hid hzl
    have hnl' := Lib.hid hnl
    have hb0' := Lib.hid hb0
    obtain ⟨kd, a, b, lo, hi', gr, s⟩ := n
    rw [show nodC ⟨kd, a, b, lo, hi', gr, s⟩ = #[.int .i64 kd, .int .i64 a, .int .i64 b, .int .i64 lo, .int .i64 hi', .int .i64 gr, .int .u64 (wd s 0 : Nat), .int .u64 (wd s 1 : Nat), .int .u64 (wd s 2 : Nat), .int .u64 (wd s 3 : Nat)] from rfl] at hN0 hb0 hb0' hcv hcg hth hh0
    rw [nodV_lit] at hF ⊢
    rw [show nodL ⟨kd, a, b, lo, hi', gr, s⟩ = [.int .i64 kd, .int .i64 a, .int .i64 b, .int .i64 lo, .int .i64 hi', .int .i64 gr, .int .u64 (wd s 0 : Nat), .int .u64 (wd s 1 : Nat), .int .u64 (wd s 2 : Nat), .int .u64 (wd s 3 : Nat)] from rfl] at hnl'
    clear hnl hnn hlen
    generalize wd s 0 = s0 at *
    generalize wd s 1 = s1 at *
    generalize wd s 2 = s2 at *
    generalize wd s 3 = s3 at *
    have hN0' := Lib.hid hN0
    clear hb0
    go_enter Try.func15, Try.ntmps15
    go_wp2
    have hN1 := Lib.hid hN0'.out.drew
    have hB1 := Lib.hid hh0.out.drew
    have hW1 := Lib.hid hb0'.out.drew
    clear hN0' hN0 hh0 hb0' hcv hcg hth
    go_region_held3 (fun w' => w'.cell? ⟨w.heap.size, 0, none⟩ = some (.int .i64 kd) ∧ w'.cell? ⟨w.heap.size, 1, none⟩ = some (.int .i64 a) ∧ w'.cell? ⟨w.heap.size, 2, none⟩ = some (.int .i64 b) ∧ w'.cell? ⟨w.heap.size, 3, none⟩ = some (.int .i64 lo) ∧ w'.cell? ⟨w.heap.size, 4, none⟩ = some (.int .i64 hi') ∧ w'.cell? ⟨w.heap.size, 5, none⟩ = some (.int .i64 gr) ∧ w'.cell? ⟨w.heap.size, 6, none⟩ = some (.int .u64 (s0 : Int)) ∧ w'.cell? ⟨w.heap.size, 7, none⟩ = some (.int .u64 (s1 : Int)) ∧ w'.cell? ⟨w.heap.size, 8, none⟩ = some (.int .u64 (s2 : Int)) ∧ w'.cell? ⟨w.heap.size, 9, none⟩ = some (.int .u64 (s3 : Int)) ∧ w'.cell? ⟨T, o + 1, none⟩ = some (.int .i64 (g : Int)))
      (first | exact ⟨hN1.out.cells10.1, hN1.out.cells10.2.1, hN1.out.cells10.2.2.1, hN1.out.cells10.2.2.2.1, hN1.out.cells10.2.2.2.2.1, hN1.out.cells10.2.2.2.2.2.1, hN1.out.cells10.2.2.2.2.2.2.1, hN1.out.cells10.2.2.2.2.2.2.2.1, hN1.out.cells10.2.2.2.2.2.2.2.2.1, hN1.out.cells10.2.2.2.2.2.2.2.2.2, hB1.out.cg⟩ | go_keep)
      (first
      | (go_at_call 23; refine (hF.out _).mono ?_; rintro e w3 ⟨rfl, hb3⟩; replace hN1 := Lib.hid (hN1.out.keep hb3); replace hB1 := Lib.hid (hB1.out.keep hb3); replace hW1 := Lib.hid (hW1.out.trans (hb3.mono hW1.out.size))))
    cases fb
    · have hz1 := Lib.hid (show -1 = z from hz.out)
      have hzl1 := Lib.hid (show ns = zl from hzl.out)
      clear hz hzl
      go_wp2
      go_ret
      exact BldRet.mk hz1.out (by rw [← hzl1.out]; exact hB1.out) (Chg.of_below hW1.out)
    · have hz1 := Lib.hid (show (L : Int) = z from hz.out)
      have hzl1 := Lib.hid (show nn = zl from hzl.out)
      clear hz hzl hF
      go_wp2
      have hN2 := Lib.hid hN1.out.drew
      have hB2 := Lib.hid hB1.out.drew
      have hW2 := Lib.hid hW1.out.drew
      clear hN1 hB1 hW1
      have hal := Lib.hid (fun o' : Obj => (Below.refl w3.drew.heap.size w3.drew).alloc (Nat.le_refl _) o')
      have hTl2 := hB2.out.lt
      have hne2 : T ≠ w3.heap.size := by
        have : w3.drew.heap.size = w3.heap.size := rfl
        omega
      have hne3 : w.heap.size ≠ w3.heap.size := by
        have := hN2.out.lt
        have e : w3.drew.heap.size = w3.heap.size := rfl
        omega
      have hcv : w3.cell? ⟨T, o, none⟩ = some (.slice A L cap) := hB2.out.cv
      have hTl3 : T < w3.heap.size := hTl2
      have hNl3 : w.heap.size < w3.heap.size := hN2.out.lt
      have ⟨c0, c1, c2, c3, c4, c5, c6, c7, c8, c9⟩ : CellsN w3 w.heap.size kd a b lo hi' gr s0 s1 s2 s3 := hN2.out.cells10
      go_region_law (
        refine step_append_lies _ (by rfl) _ _ 24 (by rfl) B 34 i0 _ 10 80 Try.underlying24 hi0 hq0 hq1 hI2.out rfl (by decide) (.slice A L cap) L (nodsL ns) (by rfl) (by have := (hB2.out.keep (hal.out (.cells #[.int .i64 kd, .int .i64 a, .int .i64 b, .int .i64 lo, .int .i64 hi', .int .i64 gr, .int .u64 (s0 : Int), .int .u64 (s1 : Int), .int .u64 (s2 : Int), .int .u64 (s3 : Int)] 34))).own; rwa [hLg.out] at this) ⟨w3.drew.heap.size, 0, none⟩ 1 1 [.int .i64 kd, .int .i64 a, .int .i64 b, .int .i64 lo, .int .i64 hi', .int .i64 gr, .int .u64 (s0 : Int), .int .u64 (s1 : Int), .int .u64 (s2 : Int), .int .u64 (s3 : Int)] (by rfl) rfl (new_cells w3.drew [.int .i64 kd, .int .i64 a, .int .i64 b, .int .i64 lo, .int .i64 hi', .int .i64 gr, .int .u64 (s0 : Int), .int .u64 (s1 : Int), .int .u64 (s2 : Int), .int .u64 (s3 : Int)] 34) (by simp [Value.oneCell']) (by omega) (by unfold maxLen; omega) (by omega) (by exact (hB2.out.keep (hal.out _)).base) (w3.drew.heap.size + 1) (by simp) ?_; intro g6 c6 w6 hown6 hg6 hb6 hg6lt
        have hB5 := Lib.hid (hB2.out.keep (hal.out (.cells #[.int .i64 kd, .int .i64 a, .int .i64 b, .int .i64 lo, .int .i64 hi', .int .i64 gr, .int .u64 (s0 : Int), .int .u64 (s1 : Int), .int .u64 (s2 : Int), .int .u64 (s3 : Int)] 34)))
        have hN6 := Lib.hid ((hN2.out.alloc (.cells #[.int .i64 kd, .int .i64 a, .int .i64 b, .int .i64 lo, .int .i64 hi', .int .i64 gr, .int .u64 (s0 : Int), .int .u64 (s1 : Int), .int .u64 (s2 : Int), .int .u64 (s3 : Int)] 34)).grown hg6 hap.out)
        have hC6 := Lib.hid (hB5.out.grown hg6)
        have hc6 := hC6.out.1
        have hf6 := hC6.out.2
        have hM6 := Lib.hid (hown6)
        have hG6 := Lib.hid hg6
        have hZ6 := Lib.hid hb6
        have hFin := Lib.hid (show Bldr (w6.setCell ⟨T, o, none⟩ (.slice (some ⟨g6, 0, none⟩) (L + 1) c6)) B T o (.slice (some ⟨g6, 0, none⟩) (L + 1) c6) nn g ∧ Chg w (w6.setCell ⟨T, o, none⟩ (.slice (some ⟨g6, 0, none⟩) (L + 1) c6)) T o (.slice A L cap) (.slice (some ⟨g6, 0, none⟩) (L + 1) c6) from
          ⟨hmore.out _ _ _ hB5.out (by rw [← hnl'.out]; exact hM6.out) hG6.out,
            ((Chg.of_below (hW2.out.trans ((hal.out _).mono hW2.out.size))).trans (Chg.grown (v' := .slice (some ⟨g6, 0, none⟩) (L + 1) c6) hG6.out hB5.out.apart hB5.out.lt (fun k e => by
              have e : g6 = k := Option.some.inj e
              subst e
              exact hZ6.out.imp id (fun h => by rw [h, sizeA']; exact Nat.le_refl _)))).trans (Chg.store (.inl rfl) _)⟩)
        clear hown6 hg6 hb6 hB5 hM6 hG6 hZ6)
      all_goals
        go_wp2
        go_ret
        exact BldRet.mk hz1.out (by rw [← hzl1.out]; exact hFin.out.1) hFin.out.2
end Go.Proofs.Ytnfbgpjadnlgbab
