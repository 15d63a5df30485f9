/- Contracts of the reference: Builder.Put, of a node that fits; Reader.Put. Contracts of the reference: Builder.Put, where there is no room; Reader.Put. Contracts of the reference: Alnum, One. -/
import Derived.Test.YtnfbgpjadnlgbaaGreatM29
import Derived.Test.YtnfbgpjadnlgbaaGreatM18
import Derived.Test.YtnfbgpjadnlgbaaGreatM11
set_option linter.unusedVariables false
set_option maxRecDepth 100000
namespace Go.Proofs.YtnfbgpjadnlgbaaGreat
open Go.RowKit

theorem own_src {w : World} {base size n : Nat} {e : TypeId} {v : Value} {xs : List Value} (h : w.ownsRow base e size v n xs) : ∃ A cap, v = .slice A n cap ∧ n ≤ cap ∧ cap ≤ maxLen ∧ Src w A xs := by
  obtain ⟨hl, ⟨rfl, rfl⟩ | ⟨g, cap, cur, rfl, _, hh, hnc, hcm, hsz, htake⟩⟩ := id h
  · have : xs = [] := by simpa using hl
    subst this
    exact ⟨none, 0, rfl, Nat.le_refl _, by simp [maxLen], fun j u hj => by simp at hj⟩
  · refine ⟨some ⟨g, 0, none⟩, cap, rfl, hnc, hcm, fun j u hj => ⟨_, rfl, ?_⟩⟩
    have hj' : j < xs.length := (List.getElem?_eq_some_iff.1 hj).1
    rw [add_zero_off, h.cellAt j (by rw [hl] at hj'; exact hj'), hj]
section
variable {P : Program} {w : World}
theorem step_append_at {ops : Array Oper} {o : Oper} {a : Act} {K : Act → World → Prop} {Q : Exit → Act → World → Prop} {E : Prop} (hgd : o.guard = none) (s x : Operand) (t : TypeId)
    (ho : o.op = .call { callee := .builtin .append, args := #[s, x], argTypes := #[t, t] })
    (base : Nat) (e : TypeId) (i : TypeInfo) (z : Value) (size bytes : Nat) (ht : P.underlying t = some (.slice e)) (hi : P.info? e = some i) (hz : i.zero = some z)
    (hi1 : i.size = size) (hib : i.bytes = bytes) (hz1 : z.cells.size = size) (hsz : 0 < size) (v : Value) (n : Nat) (xs : List Value) (hs : a.eval s = v) (hown : w.ownsRow base e size v n xs)
    (A : Option Addr) (m c : Nat) (news : List Value) (hx : a.eval x = .slice A m c) (hl : news.length = m * size) (hv : Src w A news) (h1 : ∀ u ∈ news, u.oneCell' = true)
    (hlen : n + m ≤ maxLen) (hbytes : (n + m) * bytes ≤ 140737488355328) (hbase : base ≤ w.heap.size)
    (h : ∀ v' w', w'.ownsRow base e size v' (n + m) (xs ++ news) → w.grownBy w' v.ownBlock → (∀ k, v'.ownBlock = some k → v.ownBlock = some k ∨ w.heap.size ≤ k) → K (a.put o.dst v') w') :
    if Region.wanted o (yielded ops a.tmps) = true then Oper.wp P o a w K Q else E := by
  have hw : Region.wanted o (yielded ops a.tmps) = true := by simp [Region.wanted, hgd]
  rw [if_pos hw]
  obtain ⟨v', w', hrun, h2, h3, h4⟩ := run_append_at (P := P) (w := w) base t o.type e i z size bytes ht hi hz hi1 hib hz1 hsz v n xs hown A m c news hl hv h1 hlen hbytes hbase
  unfold Oper.wp execOp
  simp only [ho, resolve, invoke, builtin, Sem.run_bind, Sem.run_pure, Result.andThen_ok, List.map_toArray, List.map_cons, List.map_nil, hs, hx, hrun]
  exact h v' w' h2 h3 h4
end
theorem own_noneN (w : World) : (w.alloc (.cells #[] 39)).ownsRow w.heap.size 39 10 (.slice (some ⟨w.heap.size, 0, none⟩) 0 0) 0 (nodsL []) :=
  World.ownsRow_made w #[] 0 (Nat.le_refl _) (by simp [maxLen]) rfl

theorem own_none_of {w : World} {G base : Nat} (h : Held w G 39 #[]) (hb : base ≤ G) : w.ownsRow base 39 10 (.slice (some ⟨G, 0, none⟩) 0 0) 0 (nodsL []) :=
  ⟨rfl, .inr ⟨G, 0, #[], rfl, hb, h, Nat.le_refl _, by simp [maxLen], rfl, rfl⟩⟩
theorem own_base {w : World} {b b' size n : Nat} {e : TypeId} {v : Value} {xs : List Value} (h : w.ownsRow b e size v n xs) (hb : b' ≤ b) : w.ownsRow b' e size v n xs := by
  obtain ⟨hl, h1 | ⟨g, cap, cur, h1, h2, h3⟩⟩ := h
  · exact ⟨hl, .inl h1⟩
  · exact ⟨hl, .inr ⟨g, cap, cur, h1, Nat.le_trans hb h2, h3⟩⟩
/-- A builder whose row is another one. -/
theorem Bldr.renew {W w : World} {B T o H : Nat} {v v' u : Value} {ns : List Nod} {g : Nat} {n : Nod} (h : Bldr w B T o v ns g) (hl : ns.length < 1000) (hW : Below W.heap.size W w) (hH : W.heap.size ≤ H) (hB : B ≤ H) (hown : w.ownsRow H 39 10 u (ns.length + 1) (nodsL ns ++ nodL n)) :
    Bldr (w.setCell ⟨T, o, none⟩ u) B T o u (ns ++ [n]) g ∧ Chg W (w.setCell ⟨T, o, none⟩ u) T o v' u := by
  refine ⟨h.more hl (own_base hown hB) (World.grownBy.refl _ _), ?_⟩
  have c : Chg W (w.setCell ⟨T, o, none⟩ u) T o v' v' := (Chg.of_below hW).trans (Chg.store (.inl rfl) u)
  exact ⟨c.os, c.tape, c.output, c.size, c.far, c.near, fun k e => .inr (Nat.le_trans hH (hown.lt k e).1)⟩
theorem own_slice {w : World} {base size n : Nat} {e : TypeId} {v : Value} {xs : List Value} (h : w.ownsRow base e size v n xs) : ∃ A cap, v = .slice A n cap := by
  obtain ⟨A, cap, e, _⟩ := own_src h
  exact ⟨A, cap, e⟩
set_option maxHeartbeats 16000000 in
theorem refBput_room (B T o : Nat) (v : Value) (ns : List Nod) (g : Nat) (n : Nod) (w : World) (h : Bldr w B T o v ns g) (hl : ns.length < 1000) (hf : fitsN n (ns.length : Int) (g : Int) = true) :
    Calls Tryz.prog 38 #[.pointer (some ⟨T, o, none⟩), nodV n] w (BldRet w B T o v (ns.length : Int) (ns ++ [n]) g) := by
  have hM := Lib.hid (fun w => may_fits hf w)
  have hb0 : Below w.heap.size w (w.alloc (.cells (nodC n) 39)) := (Below.refl _ _).alloc (Nat.le_refl _) _
  have hN0 := held_new w 39 (nodC n)
  have h0 := h.keep hb0
  have hcv := h0.cv
  have hcg := h0.cg
  have hth := h0.thawed o
  have hTl := h.lt
  have hap := Lib.hid (show some w.heap.size ≠ v.ownBlock from fun e => absurd (h.own.lt _ e.symm).2 (Nat.lt_irrefl _))
  obtain ⟨A, cap, rfl, hk1, hk2, -⟩ := h.slice
  have hne : T ≠ w.heap.size := by omega
  obtain ⟨i0, hi0, hq0, hq1, hq2⟩ := info_parts node_info
  have hI2 := Lib.hid hq2
  have hh := Lib.hid h
  have hh0 := Lib.hid h0
  clear h h0 hq2
  unfold maxLen at hk2
  have g1 : decide (1000 ≤ (ns.length : Int)) = false := decide_eq_false (by omega)
  have hmore := Lib.hid (fun w w' u v (h : Bldr w B T o v ns g) => h.more (w' := w') (u := u) (n := n) hl)
  have hlen := Lib.hid (show ns.length = ns.length from rfl)
  generalize hLg : ns.length = L at *
  replace hLg := Lib.hid hLg
  generalize hnn : ns ++ [n] = nn at *
  have hnn' := Lib.hid hnn
  generalize hnl : nodL n = nl at *
  have hnl' := Lib.hid hnl
  have hnl'' := Lib.hid hnl
  have hb0' := Lib.hid hb0
  obtain ⟨kd, a, b, lo, hi', gr, s⟩ := n
  rw [show nodC ⟨kd, a, b, lo, hi', gr, s⟩ = #[.int .i64 kd, .int .i64 a, .int .i64 b, .int .i64 lo, .int .i64 hi', .int .i64 gr, .int .u64 (wd s 0 : Nat), .int .u64 (wd s 1 : Nat), .int .u64 (wd s 2 : Nat), .int .u64 (wd s 3 : Nat)] from rfl] at hN0 hb0 hb0' hcv hcg hth hh0
  rw [nodV_lit] at hM ⊢
  rw [show nodL ⟨kd, a, b, lo, hi', gr, s⟩ = [.int .i64 kd, .int .i64 a, .int .i64 b, .int .i64 lo, .int .i64 hi', .int .i64 gr, .int .u64 (wd s 0 : Nat), .int .u64 (wd s 1 : Nat), .int .u64 (wd s 2 : Nat), .int .u64 (wd s 3 : Nat)] from rfl] at hnl'
  clear hnl hnn hlen hf
  generalize wd s 0 = s0 at *
  generalize wd s 1 = s1 at *
  generalize wd s 2 = s2 at *
  generalize wd s 3 = s3 at *
  have hN0' := Lib.hid hN0
  clear hb0
  go_enter Tryz.func38, Tryz.ntmps38
  go_wp2
  have hN1 := Lib.hid hN0'.out.drew
  have hB1 := Lib.hid hh0.out.drew
  have hW1 := Lib.hid hb0'.out.drew
  clear hN0' hN0 hh0 hb0' hcv hcg hth
  go_region_held3 (fun w' => w'.cell? ⟨w.heap.size, 0, none⟩ = some (.int .i64 kd) ∧ w'.cell? ⟨w.heap.size, 1, none⟩ = some (.int .i64 a) ∧ w'.cell? ⟨w.heap.size, 2, none⟩ = some (.int .i64 b) ∧ w'.cell? ⟨w.heap.size, 3, none⟩ = some (.int .i64 lo) ∧ w'.cell? ⟨w.heap.size, 4, none⟩ = some (.int .i64 hi') ∧ w'.cell? ⟨w.heap.size, 5, none⟩ = some (.int .i64 gr) ∧ w'.cell? ⟨w.heap.size, 6, none⟩ = some (.int .u64 (s0 : Int)) ∧ w'.cell? ⟨w.heap.size, 7, none⟩ = some (.int .u64 (s1 : Int)) ∧ w'.cell? ⟨w.heap.size, 8, none⟩ = some (.int .u64 (s2 : Int)) ∧ w'.cell? ⟨w.heap.size, 9, none⟩ = some (.int .u64 (s3 : Int)) ∧ w'.cell? ⟨T, o, none⟩ = some (.slice A L cap) ∧ w'.cell? ⟨T, o + 1, none⟩ = some (.int .i64 (g : Int)))
    (first | exact ⟨hN1.out.cells10.1, hN1.out.cells10.2.1, hN1.out.cells10.2.2.1, hN1.out.cells10.2.2.2.1, hN1.out.cells10.2.2.2.2.1, hN1.out.cells10.2.2.2.2.2.1, hN1.out.cells10.2.2.2.2.2.2.1, hN1.out.cells10.2.2.2.2.2.2.2.1, hN1.out.cells10.2.2.2.2.2.2.2.2.1, hN1.out.cells10.2.2.2.2.2.2.2.2.2, hB1.out.cv, hB1.out.cg⟩ | go_keep)
    (first
    | (go_at_call 18; refine (hM.out _).mono ?_; rintro e w3 ⟨rfl, hb3⟩; replace hN1 := Lib.hid (hN1.out.keep hb3); replace hB1 := Lib.hid (hB1.out.keep hb3); replace hW1 := Lib.hid (hW1.out.trans (hb3.mono hW1.out.size))))
  clear hM
  go_wp2
  have hN2 := Lib.hid hN1.out.drew
  have hB2 := Lib.hid hB1.out.drew
  have hW2 := Lib.hid hW1.out.drew
  clear hN1 hB1 hW1
  have hal := Lib.hid (fun o' : Obj => (Below.refl w3.drew.heap.size w3.drew).alloc (Nat.le_refl _) o')
  have hTl2 := hB2.out.lt
  have hcv : w3.cell? ⟨T, o, none⟩ = some (.slice A L cap) := hB2.out.cv
  have hTl3 : T < w3.heap.size := hTl2
  have hNl3 : w.heap.size < w3.heap.size := hN2.out.lt
  have ⟨c0, c1, c2, c3, c4, c5, c6, c7, c8, c9⟩ : CellsN w3 w.heap.size kd a b lo hi' gr s0 s1 s2 s3 := hN2.out.cells10
  have hLL : L < 1000 := by have := hLg.out; omega
  have hSrc := Lib.hid (fun w' (h : Below w3.drew.heap.size w3.drew w') => show Src w' A (nodsL ns) from by
    obtain ⟨A1, c1, e, _, _, hs⟩ := own_src (hB2.out.keep h).own
    injection e with e1 e2 e3
    subst e1
    exact hs)
  have hlow2 := Lib.hid (show Below w3.drew.heap.size w3.drew ((w3.drew.alloc (.cells #[] 39)).alloc (.cells #[.int .i64 kd, .int .i64 a, .int .i64 b, .int .i64 lo, .int .i64 hi', .int .i64 gr, .int .u64 (s0 : Int), .int .u64 (s1 : Int), .int .u64 (s2 : Int), .int .u64 (s3 : Int)] 39)) from (hal.out _).alloc (hal.out _).size _)
  have hlow3 := Lib.hid (show Below w3.drew.heap.size w3.drew ((w3.drew.alloc (.cells #[.int .i64 kd, .int .i64 a, .int .i64 b, .int .i64 lo, .int .i64 hi', .int .i64 gr, .int .u64 (s0 : Int), .int .u64 (s1 : Int), .int .u64 (s2 : Int), .int .u64 (s3 : Int)] 39)).alloc (.cells #[] 39)) from (hal.out _).alloc (hal.out _).size _)
  have hown2 := Lib.hid (show ((w3.drew.alloc (.cells #[] 39)).alloc (.cells #[.int .i64 kd, .int .i64 a, .int .i64 b, .int .i64 lo, .int .i64 hi', .int .i64 gr, .int .u64 (s0 : Int), .int .u64 (s1 : Int), .int .u64 (s2 : Int), .int .u64 (s3 : Int)] 39)).ownsRow w3.drew.heap.size 39 10 (.slice (some ⟨w3.drew.heap.size, 0, none⟩) 0 0) 0 (nodsL []) from own_none_of ((held_new w3.drew _ _).alloc _) (Nat.le_refl _))
  have hown3 := Lib.hid (show ((w3.drew.alloc (.cells #[.int .i64 kd, .int .i64 a, .int .i64 b, .int .i64 lo, .int .i64 hi', .int .i64 gr, .int .u64 (s0 : Int), .int .u64 (s1 : Int), .int .u64 (s2 : Int), .int .u64 (s3 : Int)] 39)).alloc (.cells #[] 39)).ownsRow w3.drew.heap.size 39 10 (.slice (some ⟨w3.drew.heap.size + 1, 0, none⟩) 0 0) 0 (nodsL []) from own_none_of (held_new2 w3.drew _ _ _) (Nat.le_succ _))
  go_region_law (first
    | (refine step_append_at (by rfl) _ _ 24 (by rfl) w3.drew.heap.size 39 i0 _ 10 80 Tryz.underlying24 hi0 hq0 hq1 hI2.out rfl (by decide) (.slice (some ⟨w3.drew.heap.size, 0, none⟩) 0 0) 0 (nodsL []) (by rfl) (own_none_of (held_new _ _ _) (Nat.le_refl _)) A L cap (nodsL ns) (by rfl) (by rw [nodsL_len, hLg.out]) (hSrc.out _ (hal.out (.cells #[] 39))) (nodsL_one ns) (by unfold maxLen; omega) (by omega) ((hal.out (.cells #[] 39))).size ?_; intro v6 w6 hown6 hg6 hv6; have hw6 := Lib.hid ((hal.out (.cells #[] 39)).grown hg6 (by simp) (fun k e => by have e : w3.drew.heap.size = k := Option.some.inj e; omega)); rw [Nat.zero_add, show nodsL [] ++ nodsL ns = nodsL ns from rfl] at hown6; obtain ⟨A6, c6', rfl⟩ := own_slice hown6; replace hown6 := Lib.hid hown6; have ⟨d0, d1, d2, d3, d4, d5, d6, d7, d8, d9⟩ : CellsN w6 w.heap.size kd a b lo hi' gr s0 s1 s2 s3 := (hN2.out.keep hw6.out).cells10; have hNl6 : w.heap.size < w6.heap.size := Nat.lt_of_lt_of_le hNl3 hw6.out.size; clear hg6 hv6)
    | (refine step_append_at (by rfl) _ _ 24 (by rfl) w3.drew.heap.size 39 i0 _ 10 80 Tryz.underlying24 hi0 hq0 hq1 hI2.out rfl (by decide) (.slice (some ⟨w3.drew.heap.size, 0, none⟩) 0 0) 0 (nodsL []) (by rfl) hown2.out A L cap (nodsL ns) (by rfl) (by rw [nodsL_len, hLg.out]) (hSrc.out _ hlow2.out) (nodsL_one ns) (by unfold maxLen; omega) (by omega) (hlow2.out).size ?_; intro v6 w6 hown6 hg6 hv6; have hw6 := Lib.hid (hlow2.out.grown hg6 (by simp; omega) (fun k e => by have e : w3.drew.heap.size = k := Option.some.inj e; omega)); have hlit6 := Lib.hid ((held_new2 w3.drew (.cells #[] 39) 39 #[.int .i64 kd, .int .i64 a, .int .i64 b, .int .i64 lo, .int .i64 hi', .int .i64 gr, .int .u64 (s0 : Int), .int .u64 (s1 : Int), .int .u64 (s2 : Int), .int .u64 (s3 : Int)]).grown hg6 (fun e => by have e' : w3.drew.heap.size + 1 = w3.drew.heap.size := Option.some.inj e; omega)); rw [Nat.zero_add, show nodsL [] ++ nodsL ns = nodsL ns from rfl] at hown6; obtain ⟨A6, c6', rfl⟩ := own_slice hown6; replace hown6 := Lib.hid hown6; have ⟨d0, d1, d2, d3, d4, d5, d6, d7, d8, d9⟩ : CellsN w6 w.heap.size kd a b lo hi' gr s0 s1 s2 s3 := (hN2.out.keep hw6.out).cells10; have hNl6 : w.heap.size < w6.heap.size := Nat.lt_of_lt_of_le hNl3 hw6.out.size; clear hg6 hv6)
    | (refine step_append_at (by rfl) _ _ 24 (by rfl) w3.drew.heap.size 39 i0 _ 10 80 Tryz.underlying24 hi0 hq0 hq1 hI2.out rfl (by decide) (.slice (some ⟨w3.drew.heap.size + 1, 0, none⟩) 0 0) 0 (nodsL []) (by rfl) hown3.out A L cap (nodsL ns) (by rfl) (by rw [nodsL_len, hLg.out]) (hSrc.out _ hlow3.out) (nodsL_one ns) (by unfold maxLen; omega) (by omega) (hlow3.out).size ?_; intro v6 w6 hown6 hg6 hv6; have hw6 := Lib.hid (hlow3.out.grown hg6 (by simp; omega) (fun k e => by have e : w3.drew.heap.size + 1 = k := Option.some.inj e; omega)); have hlit6 := Lib.hid (((held_new w3.drew 39 #[.int .i64 kd, .int .i64 a, .int .i64 b, .int .i64 lo, .int .i64 hi', .int .i64 gr, .int .u64 (s0 : Int), .int .u64 (s1 : Int), .int .u64 (s2 : Int), .int .u64 (s3 : Int)]).alloc (.cells #[] 39)).grown hg6 (fun e => by have e' : w3.drew.heap.size = w3.drew.heap.size + 1 := Option.some.inj e; omega)); rw [Nat.zero_add, show nodsL [] ++ nodsL ns = nodsL ns from rfl] at hown6; obtain ⟨A6, c6', rfl⟩ := own_slice hown6; replace hown6 := Lib.hid hown6; have ⟨d0, d1, d2, d3, d4, d5, d6, d7, d8, d9⟩ : CellsN w6 w.heap.size kd a b lo hi' gr s0 s1 s2 s3 := (hN2.out.keep hw6.out).cells10; have hNl6 : w.heap.size < w6.heap.size := Nat.lt_of_lt_of_le hNl3 hw6.out.size; clear hg6 hv6)
    | (refine step_append_at (by rfl) _ _ 24 (by rfl) w3.drew.heap.size 39 i0 _ 10 80 Tryz.underlying24 hi0 hq0 hq1 hI2.out rfl (by decide) (.slice A6 L c6') L (nodsL ns) (by rfl) (hown6.out.alloc _) (some ⟨w6.heap.size, 0, none⟩) 1 1 [.int .i64 kd, .int .i64 a, .int .i64 b, .int .i64 lo, .int .i64 hi', .int .i64 gr, .int .u64 (s0 : Int), .int .u64 (s1 : Int), .int .u64 (s2 : Int), .int .u64 (s3 : Int)] (by rfl) rfl (src_new w6 [.int .i64 kd, .int .i64 a, .int .i64 b, .int .i64 lo, .int .i64 hi', .int .i64 gr, .int .u64 (s0 : Int), .int .u64 (s1 : Int), .int .u64 (s2 : Int), .int .u64 (s3 : Int)] 39) (by simp [Value.oneCell']) (by unfold maxLen; omega) (by omega) ((hw6.out.alloc hw6.out.size (.cells #[.int .i64 kd, .int .i64 a, .int .i64 b, .int .i64 lo, .int .i64 hi', .int .i64 gr, .int .u64 (s0 : Int), .int .u64 (s1 : Int), .int .u64 (s2 : Int), .int .u64 (s3 : Int)] 39))).size ?_; intro v7 w7 hown7 hg7 hv7; have hw7 := Lib.hid ((hw6.out.alloc hw6.out.size (.cells #[.int .i64 kd, .int .i64 a, .int .i64 b, .int .i64 lo, .int .i64 hi', .int .i64 gr, .int .u64 (s0 : Int), .int .u64 (s1 : Int), .int .u64 (s2 : Int), .int .u64 (s3 : Int)] 39)).grown hg7 ((hw6.out.alloc hw6.out.size (.cells #[.int .i64 kd, .int .i64 a, .int .i64 b, .int .i64 lo, .int .i64 hi', .int .i64 gr, .int .u64 (s0 : Int), .int .u64 (s1 : Int), .int .u64 (s2 : Int), .int .u64 (s3 : Int)] 39))).size (fun k e => (hown6.out.lt k e).1)); rw [hnl'.out] at hown7; have hown7' := hown7; rw [← hLg.out] at hown7'; have hB7 := hB2.out.keep hw7.out; have hfin := Lib.hid (hB7.renew (v' := .slice A L cap) (n := ⟨kd, a, b, lo, hi', gr, s⟩) (by rw [hLg.out]; exact hLL) (hW2.out.trans (hw7.out.mono hW2.out.size)) hW2.out.size hB2.out.base (by rw [hnl''.out]; exact hown7')); have hc7 := hB7.cv; have hf7 := hB7.thawed o; obtain ⟨A7, c7', rfl⟩ := own_slice hown7; clear hown7 hg7 hv7 hB7 hown7')
    | (refine step_append_at (by rfl) _ _ 24 (by rfl) w3.drew.heap.size 39 i0 _ 10 80 Tryz.underlying24 hi0 hq0 hq1 hI2.out rfl (by decide) (.slice A6 L c6') L (nodsL ns) (by rfl) hown6.out (some ⟨w3.drew.heap.size + 1, 0, none⟩) 1 1 [.int .i64 kd, .int .i64 a, .int .i64 b, .int .i64 lo, .int .i64 hi', .int .i64 gr, .int .u64 (s0 : Int), .int .u64 (s1 : Int), .int .u64 (s2 : Int), .int .u64 (s3 : Int)] (by rfl) rfl (fun j u hj => ⟨_, rfl, by rw [add_zero_off]; exact hlit6.out.at_ (by simpa using hj)⟩) (by simp [Value.oneCell']) (by unfold maxLen; omega) (by omega) hw6.out.size ?_; intro v7 w7 hown7 hg7 hv7; have hw7 := Lib.hid (hw6.out.grown hg7 hw6.out.size (fun k e => (hown6.out.lt k e).1)); rw [hnl'.out] at hown7; have hown7' := hown7; rw [← hLg.out] at hown7'; have hB7 := hB2.out.keep hw7.out; have hfin := Lib.hid (hB7.renew (v' := .slice A L cap) (n := ⟨kd, a, b, lo, hi', gr, s⟩) (by rw [hLg.out]; exact hLL) (hW2.out.trans (hw7.out.mono hW2.out.size)) hW2.out.size hB2.out.base (by rw [hnl''.out]; exact hown7')); have hc7 := hB7.cv; have hf7 := hB7.thawed o; obtain ⟨A7, c7', rfl⟩ := own_slice hown7; clear hown7 hg7 hv7 hB7 hown7')
    | (refine step_append_at (by rfl) _ _ 24 (by rfl) w3.drew.heap.size 39 i0 _ 10 80 Tryz.underlying24 hi0 hq0 hq1 hI2.out rfl (by decide) (.slice A6 L c6') L (nodsL ns) (by rfl) hown6.out (some ⟨w3.drew.heap.size, 0, none⟩) 1 1 [.int .i64 kd, .int .i64 a, .int .i64 b, .int .i64 lo, .int .i64 hi', .int .i64 gr, .int .u64 (s0 : Int), .int .u64 (s1 : Int), .int .u64 (s2 : Int), .int .u64 (s3 : Int)] (by rfl) rfl (fun j u hj => ⟨_, rfl, by rw [add_zero_off]; exact hlit6.out.at_ (by simpa using hj)⟩) (by simp [Value.oneCell']) (by unfold maxLen; omega) (by omega) hw6.out.size ?_; intro v7 w7 hown7 hg7 hv7; have hw7 := Lib.hid (hw6.out.grown hg7 hw6.out.size (fun k e => (hown6.out.lt k e).1)); rw [hnl'.out] at hown7; have hown7' := hown7; rw [← hLg.out] at hown7'; have hB7 := hB2.out.keep hw7.out; have hfin := Lib.hid (hB7.renew (v' := .slice A L cap) (n := ⟨kd, a, b, lo, hi', gr, s⟩) (by rw [hLg.out]; exact hLL) (hW2.out.trans (hw7.out.mono hW2.out.size)) hW2.out.size hB2.out.base (by rw [hnl''.out]; exact hown7')); have hc7 := hB7.cv; have hf7 := hB7.thawed o; obtain ⟨A7, c7', rfl⟩ := own_slice hown7; clear hown7 hg7 hv7 hB7 hown7'))
  all_goals
    go_wp2
    go_ret
    exact BldRet.mk rfl (by rw [← hnn'.out]; exact hfin.out.1) hfin.out.2
end Go.Proofs.YtnfbgpjadnlgbaaGreat

set_option linter.unusedVariables false
set_option maxRecDepth 100000
namespace Go.Proofs.YtnfbgpjadnlgbaaGreat
open Go.RowKit

set_option maxHeartbeats 4000000 in
theorem refBput_full (B T o : Nat) (v : Value) (ns : List Nod) (g : Nat) (n : Nod) (w : World) (h : Bldr w B T o v ns g) (hl : ¬ ns.length < 1000) :
    Calls Tryz.prog 38 #[.pointer (some ⟨T, o, none⟩), nodV n] w (BldRet w B T o v (-1) ns g) := by
  have hb0 : Below w.heap.size w (w.alloc (.cells (nodC n) 39)) := (Below.refl _ _).alloc (Nat.le_refl _) _
  have h0 := h.keep hb0
  have hcv := h0.cv
  have hTl := h.lt
  obtain ⟨A, cap, rfl, hk1, hk2, -⟩ := h.slice
  have hlen := h.len
  have hh := Lib.hid h
  have hh0 := Lib.hid h0
  clear h h0
  unfold maxLen at hk2
  have g1 : decide (1000 ≤ (ns.length : Int)) = true := decide_eq_true (by omega)
  have hlen : ns.length = 1000 := by omega
  rw [hlen] at hcv g1
  replace hlen := Lib.hid hlen
  rw [hlen.out] at hh hh0 ⊢
  clear hk1 hl
  have hb0' := Lib.hid hb0
  clear hb0
  show Calls Tryz.prog 38 #[.pointer (some ⟨T, o, none⟩), .agg (nodC n)] w _
  go_enter Tryz.func38, Tryz.ntmps38
  go_wp2
  go_quiet (fail)
  go_wp2
  go_ret
  exact BldRet.mk rfl ((hh0.out).keep (below_drewN (Below.refl _ _) _)) (Chg.of_below (below_drewN hb0'.out _))

/-- What a call leaves that puts one node, having read to j. -/
def RPut (w : World) (B T : Nat) (A : Option Addr) (n c : Nat) (l : List UInt8) (v : Value) (ns : List Nod) (g j : Nat) (cl : Nat → Bool) (nd : Nod) (e : Ending) (w' : World) : Prop :=
  (ns.length < 1000 ∧ ∃ v', e = .returned (.int .i64 (ns.length : Int)) ∧ Rdr w' B T A n c l v' (ns ++ [nd]) g j cl 0 ∧ ChP w w' T v v') ∨
  (¬ ns.length < 1000 ∧ ∃ v', e = .returned (.int .i64 (-1)) ∧ Rdr w' B T A n c l v' ns g j cl 8 ∧ ChP w w' T v v')
section
variable {w w' : World} {B T : Nat} {A : Option Addr} {n c : Nat} {l : List UInt8} {v v' : Value} {ns ns' : List Nod} {g g' i : Nat} {cl : Nat → Bool} {e : Nat}
theorem RPut.yes {j : Nat} {nd : Nod} (hl : ns.length < 1000) (h : Rdr w' B T A n c l v' (ns ++ [nd]) g j cl 0) (hc : ChP w w' T v v') : RPut w B T A n c l v ns g j cl nd (.returned (.int .i64 (ns.length : Int))) w' := .inl ⟨hl, _, rfl, h, hc⟩
theorem RPut.no {j : Nat} {nd : Nod} (hl : ¬ ns.length < 1000) (h : Rdr w' B T A n c l v' ns g j cl 8) (hc : ChP w w' T v v') : RPut w B T A n c l v ns g j cl nd (.returned (.int .i64 (-1))) w' := .inr ⟨hl, _, rfl, h, hc⟩
theorem RPut.from {w0 : World} {v0 : Value} {j : Nat} {nd : Nod} {x : Ending} (h : RPut w B T A n c l v ns g j cl nd x w') (h0 : ChP w0 w T v0 v) : RPut w0 B T A n c l v0 ns g j cl nd x w' := by
  rcases h with ⟨a, v', b, k, m⟩ | ⟨a, v', b, k, m⟩
  · exact .inl ⟨a, v', b, k, h0.trans m⟩
  · exact .inr ⟨a, v', b, k, h0.trans m⟩
theorem RPut.ret {j : Nat} {nd : Nod} {x : Ending} (h : RPut w B T A n c l v ns g j cl nd x w') : ∃ z, x = .returned (.int .i64 z) ∧ RPut w B T A n c l v ns g j cl nd (.returned (.int .i64 z)) w' := by
  rcases h with ⟨a, v', rfl, b⟩ | ⟨a, v', rfl, b⟩
  · exact ⟨_, rfl, .inl ⟨a, v', rfl, b⟩⟩
  · exact ⟨_, rfl, .inr ⟨a, v', rfl, b⟩⟩

set_option maxHeartbeats 8000000 in
theorem rput_any (h : Rdr w B T A n c l v ns g i cl 0) (nd : Nod) (hf : fitsN nd (ns.length : Int) (g : Int) = true) :
    Calls Tryz.prog 22 #[.pointer (some ⟨T, 0, none⟩), nodV nd] w (RPut w B T A n c l v ns g i cl nd) := by
  have hb0 : Below w.heap.size w (w.alloc (.cells (nodC nd) 39)) := (Below.refl _ _).alloc (Nat.le_refl _) _
  have hN0 := held_new w 39 (nodC nd)
  have h0 := h.keep hb0
  have c2 := h0.c2
  have hTl := h.lt
  have hne : T ≠ w.heap.size := by omega
  have hap := Lib.hid (show some w.heap.size ≠ v.ownBlock from fun e => absurd (h.own.lt _ e.symm).2 (Nat.lt_irrefl _))
  have hP := Lib.hid (fun (w1 : World) (h1 : Rdr w1 B T A n c l v ns g i cl 0) (hl : ns.length < 1000) => refBput_room B T 3 v ns g nd w1 h1.bldr hl hf)
  have hQ := Lib.hid (fun (w1 : World) (h1 : Rdr w1 B T A n c l v ns g i cl 0) (hl : ¬ ns.length < 1000) => refBput_full B T 3 v ns g nd w1 h1.bldr hl)
  have hk0 := Lib.hid (ChP.of_below (T := T) (v := v) hb0)
  have hh0 := Lib.hid h0
  clear h h0 hf
  obtain ⟨nd', hnd⟩ : ∃ x, x = nd := ⟨_, rfl⟩
  rw [← hnd]
  rw [← hnd] at hP hQ hh0 c2 hN0 hb0 hk0
  generalize hnn : ns ++ [nd'] = nn at hP
  replace hnn := Lib.hid hnn
  replace hnd := Lib.hid hnd
  obtain ⟨kd, a, b, lo, hi', gr, s⟩ := nd'
  rw [show nodC ⟨kd, a, b, lo, hi', gr, s⟩ = #[.int .i64 kd, .int .i64 a, .int .i64 b, .int .i64 lo, .int .i64 hi', .int .i64 gr, .int .u64 (wd s 0 : Nat), .int .u64 (wd s 1 : Nat), .int .u64 (wd s 2 : Nat), .int .u64 (wd s 3 : Nat)] from rfl] at hN0 hb0 hh0 c2 hk0
  simp only [nodV_lit] at hP hQ ⊢
  generalize wd s 0 = s0 at *
  generalize wd s 1 = s1 at *
  generalize wd s 2 = s2 at *
  generalize wd s 3 = s3 at *
  have hN1 := Lib.hid hN0.drew
  have hB1 := Lib.hid (hh0.out.keep (Below.refl _ _).drew)
  have hk1 := Lib.hid (hk0.out.trans (ChP.of_below (Below.refl _ _).drew))
  clear hN0 hh0 hb0 hk0
  by_cases hl : ns.length < 1000
  · have hl' := Lib.hid hl
    have hlz : ¬ (ns.length : Int) < 0 := by omega
    generalize hL : (ns.length : Int) = L at *
    replace hL := Lib.hid hL
    clear hl hQ
    go_enter Tryz.func22, Tryz.ntmps22
    go_wp2
    go_region_held3 (fun w' => w'.cell? ⟨w.heap.size, 0, none⟩ = some (.int .i64 kd) ∧ w'.cell? ⟨w.heap.size, 1, none⟩ = some (.int .i64 a) ∧ w'.cell? ⟨w.heap.size, 2, none⟩ = some (.int .i64 b) ∧ w'.cell? ⟨w.heap.size, 3, none⟩ = some (.int .i64 lo) ∧ w'.cell? ⟨w.heap.size, 4, none⟩ = some (.int .i64 hi') ∧ w'.cell? ⟨w.heap.size, 5, none⟩ = some (.int .i64 gr) ∧ w'.cell? ⟨w.heap.size, 6, none⟩ = some (.int .u64 (s0 : Int)) ∧ w'.cell? ⟨w.heap.size, 7, none⟩ = some (.int .u64 (s1 : Int)) ∧ w'.cell? ⟨w.heap.size, 8, none⟩ = some (.int .u64 (s2 : Int)) ∧ w'.cell? ⟨w.heap.size, 9, none⟩ = some (.int .u64 (s3 : Int)))
      (first | exact hN1.out.cells10 | go_keep)
      (first
      | (go_at_call 38; refine (hP.out _ hB1.out hl'.out).mono ?_; rintro x w2 ⟨v2, rfl, h2, k2⟩; have h3 := Lib.hid (hB1.out.built (Nat.le_refl _) h2 k2); replace k2 := k2.chp; replace hN1 := Lib.hid (hN1.out.chp k2 hne.symm hap.out); replace k2 := Lib.hid (hk1.out.trans k2); clear h2))
    all_goals
      go_wp2
      go_ret
      exact .inl ⟨hl'.out, v2, (by show Ending.returned (.int .i64 L) = _; rw [hL.out]), (by rw [hnn.out]; exact h3.out), k2.out⟩
  · have hl' := Lib.hid hl
    clear hl hP
    go_enter Tryz.func22, Tryz.ntmps22
    go_wp2
    go_region_held3 (fun w' => w'.cell? ⟨w.heap.size, 0, none⟩ = some (.int .i64 kd) ∧ w'.cell? ⟨w.heap.size, 1, none⟩ = some (.int .i64 a) ∧ w'.cell? ⟨w.heap.size, 2, none⟩ = some (.int .i64 b) ∧ w'.cell? ⟨w.heap.size, 3, none⟩ = some (.int .i64 lo) ∧ w'.cell? ⟨w.heap.size, 4, none⟩ = some (.int .i64 hi') ∧ w'.cell? ⟨w.heap.size, 5, none⟩ = some (.int .i64 gr) ∧ w'.cell? ⟨w.heap.size, 6, none⟩ = some (.int .u64 (s0 : Int)) ∧ w'.cell? ⟨w.heap.size, 7, none⟩ = some (.int .u64 (s1 : Int)) ∧ w'.cell? ⟨w.heap.size, 8, none⟩ = some (.int .u64 (s2 : Int)) ∧ w'.cell? ⟨w.heap.size, 9, none⟩ = some (.int .u64 (s3 : Int)))
      (first | exact hN1.out.cells10 | go_keep)
      (first
      | (go_at_call 38; refine (hQ.out _ hB1.out hl'.out).mono ?_; rintro x w2 ⟨v2, rfl, h2, k2⟩; have h3 := hB1.out.built (Nat.le_refl _) h2 k2; replace k2 := k2.chp; replace hN1 := Lib.hid (hN1.out.chp k2 hne.symm hap.out); have e2 := h3.c2; have t2 := h3.thawed 2; have h4 := Lib.hid (h3.erred 8 (z := 8) rfl); have k4 := Lib.hid ((hk1.out.trans k2).trans (ChP.store w2 T 2 (.int .i64 8) v2)); clear h2 h3 k2))
    all_goals
      go_wp2
      go_ret
      exact .inr ⟨hl'.out, v2, rfl, h4.out, k4.out⟩
theorem rput_off (h : Rdr w B T A n c l v ns g i cl e) (he : e ≠ 0) (nd : Nod) :
    Calls Tryz.prog 22 #[.pointer (some ⟨T, 0, none⟩), nodV nd] w fun x w' => x = .returned (.int .i64 0) ∧ Below w.heap.size w w' := by
  have hb0 : Below w.heap.size w (w.alloc (.cells (nodC nd) 39)) := (Below.refl _ _).alloc (Nat.le_refl _) _
  have c2 := (h.keep hb0).c2
  have heb : ((e : Int) != 0) = true := by rw [bne_iff_ne]; omega
  replace hb0 := Lib.hid hb0
  clear h he
  show Calls Tryz.prog 22 #[.pointer (some ⟨T, 0, none⟩), .agg (nodC nd)] w _
  go_enter Tryz.func22, Tryz.ntmps22
  go_wp2
  go_ret
  exact ⟨rfl, hb0.out⟩
end
end Go.Proofs.YtnfbgpjadnlgbaaGreat

set_option linter.unusedVariables false
set_option maxRecDepth 100000
namespace Go.Proofs.YtnfbgpjadnlgbaaGreat
open Go.RowKit

theorem inRow_al (c : UInt8) : inRow [65, 90, 97, 122, 48, 57] (c.toNat : Int) = isAl c := by
  unfold isAl cAlnum cAlpha cUpper cLower cDigit
  rw [Bool.eq_iff_iff]
  simp [inRow, isW]
  omega
theorem refAlnum_any (c : UInt8) (w : World) : Calls Tryz.prog 67 #[.int .i64 (c.toNat : Int)] w fun e w' => e = .returned (.bool (isAl c)) ∧ w = w' := by
  have h0 : (0 : Int) ≤ (c.toNat : Int) := by omega
  have h1 : (c.toNat : Int) < 256 := by have := UInt8.toNat_lt c; omega
  have hw : IntKind.u8.wrap (c.toNat : Int) = (c.toNat : Int) := IntWalk.u8_in _ (by omega)
  have hI := Lib.hid (in_any ⟨#[65, 90, 97, 122, 48, 57]⟩ (c.toNat : Int) w (by decide))
  rw [show inRow (ByteArray.mk #[65, 90, 97, 122, 48, 57]).data.toList (c.toNat : Int) = isAl c from inRow_al c] at hI
  generalize isAl c = r at *
  generalize (c.toNat : Int) = d at *
  go_enter Tryz.func67, Tryz.ntmps67
  go_wp2_with (go_at_call 87; refine (hI.out).mono ?_; rintro e w' ⟨rfl, rfl⟩)
  go_ret
  exact ⟨rfl, rfl⟩
theorem oneF_more (c : UInt8) : (fun x => noneF x || decide (x = c.toNat)) = oneF c := by
  funext x
  simp [noneF, oneF, oneF.ofB, eq_comm]
theorem or_zero_u64 (n : Nat) (hn : n < 18446744073709551616) : bits .or .u64 ((0 : Nat) : Int) (n : Int) = (n : Int) := by
  rw [bits_or_u64_nat 0 n (by decide) hn, Nat.zero_or]
theorem one_cells (c : UInt8) {K i : Nat} (he : c.toNat = 64 * K + i) (hi : i < 64) (hK : K = 0 ∨ K = 1 ∨ K = 2 ∨ K = 3) (w : World) : setC (oneF c) = (setC noneF).setIfInBounds K (.int .u64 ((bitN c.toNat : Nat) : Int)) := by
  have hz := set_new w noneF
  have hs := hz.more he hi hK
  rw [oneF_more, show wd noneF K = 0 from wd_none K, or_zero_u64 _ (bitN_lt _)] at hs
  have h2 := heap_setCell_same _ w.heap.size K _ _ (.int .u64 ((bitN c.toNat : Nat) : Int)) hz
  unfold SetAt at hs
  rw [hs] at h2
  injection h2 with h2
  injection h2
set_option maxHeartbeats 4000000 in
theorem refOne_any (c : UInt8) (w : World) : Calls Tryz.prog 52 #[.int .u8 (c.toNat : Int)] w fun e w' => e = .returned (.agg (setC (oneF c))) ∧ Below w.heap.size w w' := by
  have hc : c.toNat < 256 := UInt8.toNat_lt c
  obtain ⟨K, i, he, hi, hK⟩ := byte_parts c.toNat hc
  have h0 := tdiv_of he hi
  have h1 := ediv_of he hi
  have hset := one_cells c he hi hK w
  rw [hset, setC_noneF]
  have m1 : (0 : Int) ≤ (c.toNat : Int) % 64 := by omega
  have m2 : (c.toNat : Int) % 64 ≤ 64 := by omega
  have mt : ((c.toNat : Int) % 64).toNat = c.toNat % 64 := by omega
  have hpw : IntKind.u64.wrap ((2 : Int) ^ (c.toNat % 64)) = ((bitN c.toNat : Nat) : Int) := by
    rw [show (2 : Int) ^ (c.toNat % 64) = ((bitN c.toNat : Nat) : Int) by simp [bitN]]
    exact IntWalk.u64_in _ (by have := bitN_lt c.toNat; omega)
  clear he hi hc hset
  generalize c.toNat = x at *
  generalize bitN x = bt at *
  rcases hK with rfl | rfl | rfl | rfl
  all_goals
    go_enter Tryz.func52, Tryz.ntmps52
    go_wp2
  all_goals
    exact bodyPost_ret (results_cell_row Tryz.results52 _ _ w.heap.size 37 _ (0, 0) _ rfl ((held_new w 37 _).alloc _) Tryz.underlying37 rfl (by kernel_rfl)) rfl ⟨rfl, ((Below.refl w.heap.size w).alloc (Nat.le_refl _) _).alloc (by simp) _⟩
end Go.Proofs.YtnfbgpjadnlgbaaGreat
