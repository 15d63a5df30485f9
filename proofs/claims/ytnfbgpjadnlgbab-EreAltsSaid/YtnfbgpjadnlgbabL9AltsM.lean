/- The statement EreAlts: the law returns true for any two slices of bytes, and changes nothing that was there. No condition. -/
import Derived.Test.YtnfbgpjadnlgbabM01
import Derived.Test.YtnfbgpjadnlgbabM55
import Derived.Lib.AppendStr
set_option linter.unusedVariables false
set_option linter.unusedSimpArgs false
set_option maxRecDepth 100000
namespace Go.Proofs.Ytnfbgpjadnlgbab.EAlts
open Go.ChangeShapes Go.WideShapes Go.ChangeAt Go.RowKit

theorem u8_info : (Try.prog.info? 5).map (fun i => (i.zero, i.size, i.bytes)) = some (some (.int .u8 0), 1, 1) := by kernel_rfl
theorem own_none (w : World) : (w.alloc (.cells #[] 5)).ownsRow w.heap.size 5 1 (.slice (some ⟨w.heap.size, 0, none⟩) 0 0) 0 (bv []) :=
  World.ownsRow_made w #[] 0 (Nat.le_refl _) (by simp [maxLen]) rfl
/-- What ere.Parse answers, as a pure fact of the text. -/
structure Ans (l : List UInt8) (N : Nat) (g p q : Int) (ns : List Nod) : Prop where
  h : (∃ g' : Nat, g = (g' : Int) ∧ EndX l (.fin ns g') ∧ rightN ns g = true ∧ N = ns.length ∧ 1 ≤ N ∧ g' ≤ 9 ∧ p = 0 ∧ q = 0) ∨ (∃ p' q' : Nat, p = (p' : Int) ∧ q = (q' : Int) ∧ q' ≠ 0 ∧ EndX l (.bad p' q') ∧ N = 0 ∧ g = 0 ∧ ns = [])
def PR (w : World) (N : Nat) (g p q : Int) (ns : List Nod) (e : Ending) (w' : World) : Prop :=
  ∃ A k, e = .returned (.tuple #[.agg #[.slice A N k, .int .i64 g], .int .i64 p, .int .i64 q]) ∧ N ≤ k ∧ k ≤ maxLen ∧ Nods w' w'.heap.size A ns ∧ Below w.heap.size w w'
theorem PR.ex {w w' : World} {N : Nat} {g p q : Int} {ns : List Nod} {e : Ending} (h : PR w N g p q ns e w') : ∃ A k, e = .returned (.tuple #[.agg #[.slice A N k, .int .i64 g], .int .i64 p, .int .i64 q]) ∧ N ≤ k ∧ k ≤ maxLen ∧ Nods w' w'.heap.size A ns ∧ Below w.heap.size w w' := h
theorem right_pos {ns : List Nod} {g : Int} (h : rightN ns g = true) : 1 ≤ ns.length ∧ ns.length ≤ 1000 ∧ 0 ≤ g ∧ g ≤ 9 := by
  by_cases c : 1 ≤ ns.length ∧ ns.length ≤ 1000 ∧ 0 ≤ g ∧ g ≤ 9
  · exact c
  · rw [rightN_size c] at h; cases h
theorem ans {w : World} {A : Option Addr} {n c : Nat} {l : List UInt8} (h : Inp w A n c l) (hs : n ≤ 300) : ∃ N g p q ns, Ans l N g p q ns := by
  obtain ⟨e, w', fr, hr, -⟩ := eparse_any h hs []
  rcases hr with ⟨v, ns, g, e1, h1, h2, h3, h4⟩ | ⟨p, q, h0, e1, h1, h2⟩
  · obtain ⟨r1, r2, r3, r4⟩ := right_pos h2
    exact ⟨ns.length, (g : Int), 0, 0, ns, ⟨.inl ⟨g, rfl, h1, h2, rfl, r1, by omega, rfl, rfl⟩⟩⟩
  · exact ⟨0, 0, (p : Int), (q : Int), [], ⟨.inr ⟨p, q, rfl, rfl, h0, h1, rfl, rfl, rfl⟩⟩⟩
theorem Ans.call {w : World} {A : Option Addr} {n c : Nat} {l : List UInt8} {N : Nat} {g p q : Int} {ns : List Nod} (ha : Ans l N g p q ns) (h : Inp w A n c l) (hs : n ≤ 300) :
    Calls Try.prog 6 #[.slice A n c] w (PR w N g p q ns) := by
  rcases ha.h with ⟨g', rfl, h1, h2, rfl, h3, h4, rfl, rfl⟩ | ⟨p', q', rfl, rfl, h0, h1, rfl, rfl, rfl⟩
  · refine (eparse_any h hs).mono fun e w' hh => ?_
    obtain ⟨A', k, e1, e2, e3, e4, e5, e6⟩ := fin_outE h1 hh
    exact ⟨A', k, e1, e3, e4, e5, e6⟩
  · refine (eparse_any h hs).mono fun e w' hh => ?_
    obtain ⟨e1, e2⟩ := bad_outE h1 hh
    exact ⟨none, 0, e1, Nat.le_refl _, by simp [maxLen], Nods.none_ _ _ _, e2⟩
/-- The cells of the last node. -/
theorem Nods.last {w : World} {B : Nat} {A : Option Addr} {ns : List Nod} {M : Nat} (h : Nods w B A ns) (hM : ns.length = M + 1) {x : Nod} (hx : ns.getLast? = some x) :
    ∃ ad, A = some ad ∧ ad.block < B ∧ (∀ u, (nodL x)[0]? = some u → w.cell? (ad.add (M * 10)) = some u) ∧ ∀ j u, (nodL x)[j]? = some u → w.cell? ⟨(ad.add (M * 10)).block, (ad.add (M * 10)).off + j, none⟩ = some u := by
  have hk : M < ns.length := by omega
  obtain ⟨ad, h1, h2, h3⟩ := h M hk
  have hx' : x = ns[M] := by
    rw [List.getLast?_eq_getElem?, hM, Nat.add_sub_cancel, List.getElem?_eq_getElem hk] at hx
    exact (Option.some.inj hx).symm
  subst hx'
  refine ⟨ad, h1, h2, fun u hu => h3 0 u hu, fun j u hj => ?_⟩
  have h4 := h3 j u hj
  have h0 := spot_none (h3 0 _ rfl)
  rw [Nat.add_zero] at h0
  rw [← add_two] at h4
  generalize ad.add (M * 10) = q at *
  obtain ⟨b, o, s⟩ := q
  simp only at h0
  subst h0
  have e : (⟨b, o, none⟩ : Addr).add j = ⟨b, o + j, none⟩ := by
    unfold Addr.add
    split
    · rename_i hj0; subst hj0; rfl
    · rfl
  rw [e] at h4
  exact h4
theorem call_fin {w : World} {A : Option Addr} {n c : Nat} {l : List UInt8} {N g : Nat} {ns : List Nod} (he : EndX l (.fin ns g)) (hN : N = ns.length) (h : Inp w A n c l) (hs : n ≤ 300) :
    Calls Try.prog 6 #[.slice A n c] w (PR w N (g : Int) 0 0 ns) := by
  subst hN
  refine (eparse_any h hs).mono fun e w' hh => ?_
  obtain ⟨A', k, e1, e2, e3, e4, e5, e6⟩ := fin_outE he hh
  exact ⟨A', k, e1, e3, e4, e5, e6⟩
theorem add_none {w w3 : World} (hg : (w.alloc (.cells #[] 5)).grownBy w3 (Value.slice (some ⟨w.heap.size, 0, none⟩) 0 0).ownBlock) : Below w.heap.size w w3 :=
  below_append ((Below.refl _ w).alloc (Nat.le_refl _) _) (own_none w) (by simp) hg
/-- What stands behind the third call, as long as nothing old turns. -/
structure Third (W w : World) (q1 q2 q3 : Nat) (ad1 ad2 ad3 : Addr) (N1 k1 N2 k2 M k3 : Nat) (x : Nod) : Prop where
  x0 : w.cell? ⟨q1, 0, none⟩ = some (.slice (some ad1) N1 k1)
  x1 : w.cell? ⟨q1, 1, none⟩ = some (.int .i64 0)
  y0 : w.cell? ⟨q2, 0, none⟩ = some (.slice (some ad2) N2 k2)
  z0 : w.cell? ⟨q3, 0, none⟩ = some (.slice (some ad3) (M + 1) k3)
  first : w.cell? (ad3.add (M * 10)) = some (.int .i64 x.kind)
  cells : ∀ j u, (nodL x)[j]? = some u → w.cell? ⟨(ad3.add (M * 10)).block, (ad3.add (M * 10)).off + j, none⟩ = some u
  lt : q1 < w.heap.size ∧ q2 < w.heap.size ∧ q3 < w.heap.size ∧ ad3.block < w.heap.size
  old : Below W.heap.size W w
theorem Third.keep {W w w' : World} {q1 q2 q3 : Nat} {ad1 ad2 ad3 : Addr} {N1 k1 N2 k2 M k3 : Nat} {x : Nod} (h : Third W w q1 q2 q3 ad1 ad2 ad3 N1 k1 N2 k2 M k3 x) (hb : Below w.heap.size w w') : Third W w' q1 q2 q3 ad1 ad2 ad3 N1 k1 N2 k2 M k3 x :=
  ⟨(hb.cell (p := ⟨q1, 0, none⟩) h.lt.1).trans h.x0, (hb.cell (p := ⟨q1, 1, none⟩) h.lt.1).trans h.x1, (hb.cell (p := ⟨q2, 0, none⟩) h.lt.2.1).trans h.y0, (hb.cell (p := ⟨q3, 0, none⟩) h.lt.2.2.1).trans h.z0,
    (hb.cell (p := ad3.add (M * 10)) (by rw [block_add]; exact h.lt.2.2.2)).trans h.first, fun j u hj => (hb.cell (p := ⟨(ad3.add (M * 10)).block, (ad3.add (M * 10)).off + j, none⟩) (by simp only [block_add]; exact h.lt.2.2.2)).trans (h.cells j u hj),
    ⟨Nat.lt_of_lt_of_le h.lt.1 hb.size, Nat.lt_of_lt_of_le h.lt.2.1 hb.size, Nat.lt_of_lt_of_le h.lt.2.2.1 hb.size, Nat.lt_of_lt_of_le h.lt.2.2.2 hb.size⟩, h.old.trans (hb.mono h.old.size)⟩
/-- What may come of two texts. -/
theorem Ans.both {l l2 : List UInt8} {N1 N2 : Nat} {g1 p1 q1 g2 p2 q2 : Int} {nx ny : List Nod} (h1 : Ans l N1 g1 p1 q1 nx) (h2 : Ans l2 N2 g2 p2 q2 ny) :
    (((q1 == 0) = false ∧ (q2 == 0) = false) ∨ ((q1 == 0) = false ∧ q2 = 0 ∧ 1 ≤ N2) ∨ (q1 = 0 ∧ 1 ≤ N1 ∧ (q2 == 0) = false) ∨ (q1 = 0 ∧ q2 = 0 ∧ 1 ≤ N1 ∧ 1 ≤ N2 ∧ 0 < g1 + g2 ∧ g1 + g2 ≤ 100)) ∨
    (q1 = 0 ∧ q2 = 0 ∧ g1 = 0 ∧ g2 = 0 ∧ p1 = 0 ∧ p2 = 0 ∧ EndX l (.fin nx 0) ∧ EndX l2 (.fin ny 0) ∧ N1 = nx.length ∧ N2 = ny.length ∧ 1 ≤ N1 ∧ 1 ≤ N2 ∧ N1 ≤ 1000 ∧ N2 ≤ 1000) := by
  have hne : ∀ q : Nat, q ≠ 0 → (((q : Int)) == 0) = false := fun q hq => by rw [beq_eq_false_iff_ne]; omega
  rcases h1.h with ⟨a1, rfl, b1, c1, rfl, d1, e1, rfl, rfl⟩ | ⟨a1, b1, rfl, rfl, c1, d1, rfl, rfl, rfl⟩
  · rcases h2.h with ⟨a2, rfl, b2, c2, rfl, d2, e2, rfl, rfl⟩ | ⟨a2, b2, rfl, rfl, c2, d2, rfl, rfl, rfl⟩
    · by_cases hg : a1 + a2 = 0
      · obtain rfl : a1 = 0 := by omega
        obtain rfl : a2 = 0 := by omega
        exact .inr ⟨rfl, rfl, rfl, rfl, rfl, rfl, b1, b2, rfl, rfl, d1, d2, (right_pos c1).2.1, (right_pos c2).2.1⟩
      · exact .inl (.inr (.inr (.inr ⟨rfl, rfl, d1, d2, by omega, by omega⟩)))
    · exact .inl (.inr (.inr (.inl ⟨rfl, d1, hne _ c2⟩)))
  · rcases h2.h with ⟨a2, rfl, b2, c2, rfl, d2, e2, rfl, rfl⟩ | ⟨a2, b2, rfl, rfl, c2, d2, rfl, rfl, rfl⟩
    · exact .inl (.inr (.inl ⟨hne _ c1, rfl, d2⟩))
    · exact .inl (.inl ⟨hne _ c1, hne _ c2⟩)

set_option maxHeartbeats 64000000 in
theorem core (W : World) (A : Option Addr) (n c : Nat) (l : List UInt8) (hn : n = l.length) (hnc : n ≤ c) (hcm : c ≤ maxLen) (hb : Byt W W.heap.size A l) (B : Option Addr) (m d : Nat) (l2 : List UInt8) (hn2 : m = l2.length) (hnc2 : m ≤ d) (hcm2 : d ≤ maxLen) (hb2 : Byt W W.heap.size B l2) (hm : Mx W) :
    Calls Try.prog 3 #[.slice A n c, .slice B m d] W fun e w' => e = .returned (.bool true) ∧ Below W.heap.size W w' := by
  have hAw := Lib.hid (fun (w : World) (hm : Mx w) => awake_ere w hm)
  have hm' := Lib.hid hm
  by_cases hbig : 40 < n ∨ (¬ 40 < n ∧ 40 < m) ∨ (¬ 40 < n ∧ ¬ 40 < m ∧ n < 1) ∨ (¬ 40 < n ∧ ¬ 40 < m ∧ ¬ n < 1 ∧ m < 1)
  · clear hn hb hnc hcm hm hn2 hb2 hnc2 hcm2
    rcases hbig with h1 | ⟨h1, h2⟩ | ⟨h1, h2, h3⟩ | ⟨h1, h2, h3, h4⟩
    all_goals
      go_enter Try.func3, Try.ntmps3
      go_wp2_with (go_at_call 5; refine (hAw.out _ hm'.out).mono ?_; rintro e w1 ⟨rfl, hb1⟩)
      go_ret
      exact ⟨rfl, hb1⟩
  have hq1 : ¬ 40 < n := by omega
  have hq2 : ¬ 40 < m := by omega
  have hq3 : ¬ n < 1 := by omega
  have hq4 : ¬ m < 1 := by omega
  clear hbig
  have hI1 := Inp.of hm hn hnc hcm (by omega) hb
  have hI2 := Inp.of hm hn2 hnc2 hcm2 (by omega) hb2
  obtain ⟨N1, g1, p1, q1, nx, ha1⟩ := ans hI1 (by omega)
  obtain ⟨N2, g2, p2, q2, ny, ha2⟩ := ans hI2 (by omega)
  have hP1 := Lib.hid (ha1.call hI1 (by omega))
  have hP2 := Lib.hid (fun w1 (hb1 : Below W.heap.size W w1) => ha2.call (hI2.grow hb1) (by omega))
  clear hI1 hI2
  rcases ha1.both ha2 with hearly | ⟨rfl, rfl, rfl, rfl, rfl, rfl, hE1, hE2, hL1, hL2, hg1, hg2, hg3, hg4⟩
  · clear ha1 ha2 hn hb hnc hcm hm hn2 hb2 hnc2 hcm2
    have ne : ∀ q : Int, (q == 0) = false → (q != 0) = true := fun q h => by simp only [bne, h]; rfl
    rcases hearly with ⟨h1, h2⟩ | ⟨h1, rfl, h2⟩ | ⟨rfl, h1, h2⟩ | ⟨rfl, rfl, h1, h2, h3, h4⟩
    all_goals
      try have n1 : (q1 != 0) = true := ne _ (by assumption)
      try have n2 : (q2 != 0) = true := ne _ (by assumption)
      try have m1 : ((N1 : Int) == 0) = false := (by rw [beq_eq_false_iff_ne]; omega)
      try have m2 : ((N2 : Int) == 0) = false := (by rw [beq_eq_false_iff_ne]; omega)
      go_enter Try.func3, Try.ntmps3
      go_wp2_with (first
        | (go_at_call 6; with_reducible show Calls _ _ _ W _; refine (hP1.out).mono ?_; intro e w1 hy; obtain ⟨A1, k1, rfl, hk1, hm1, hN1, hb1⟩ := hy.ex; have hbA := hb1.alloc hb1.size (.cells #[.slice A1 N1 k1, .int .i64 g1] 26); have hR1 := Lib.hid (held_new w1 26 #[.slice A1 N1 k1, .int .i64 g1]); have hNa := Lib.hid ((hN1.below ((Below.refl _ _).alloc (Nat.le_refl _) (.cells #[.slice A1 N1 k1, .int .i64 g1] 26))).more (show w1.heap.size ≤ (w1.alloc (.cells #[.slice A1 N1 k1, .int .i64 g1] 26)).heap.size by simp)); replace hbA := Lib.hid hbA; clear hN1 hb1)
        | (go_at_call 6; with_reducible show Calls _ _ _ (World.alloc w1 _) _; refine (hP2.out _ hbA.out).mono ?_; intro e w2 hy; obtain ⟨A2, k2, rfl, hk2, hm2, hN2, hb2⟩ := hy.ex; have hR1b := hR1.out.keep hb2; have hNb := Lib.hid ((hNa.out.below hb2).more hb2.size); have hR1c := hR1b.alloc (.cells #[.slice A2 N2 k2, .int .i64 g2] 26); have hR2c := held_new w2 26 #[.slice A2 N2 k2, .int .i64 g2]; have z0 := hR1c.at_ (i := 0) rfl; have z1 := hR1c.at_ (i := 1) rfl; have y0 := hR2c.at_ (i := 0) rfl; have y1 := hR2c.at_ (i := 1) rfl; have hal := (Below.refl w2.heap.size w2).alloc (Nat.le_refl _) (.cells #[.slice A2 N2 k2, .int .i64 g2] 26); have hNc := Lib.hid (hNb.out.below hal); have hNd := Lib.hid (hN2.below hal); have hbC := Lib.hid ((hbA.out.trans (hb2.mono hbA.out.size)).trans (hal.mono (hbA.out.trans (hb2.mono hbA.out.size)).size)); have hsz := Lib.hid hal.size; clear hR1b hR1c hR2c hN2 hb2 hal)
        | (go_at_call 5; refine (hAw.out _ (hm'.out.grow hbC.out)).mono ?_; rintro e w6 ⟨rfl, hb6⟩; replace hb6 := Lib.hid (hbC.out.trans (hb6.mono hbC.out.size))))
      go_ret
      exact ⟨rfl, hb6.out⟩
  obtain ⟨M1, rfl⟩ : ∃ M, N1 = M + 1 := ⟨N1 - 1, by omega⟩
  obtain ⟨M2, rfl⟩ : ∃ M, N2 = M + 1 := ⟨N2 - 1, by omega⟩
  obtain ⟨x1, hx1⟩ : ∃ x, nx.getLast? = some x := ⟨_, List.getLast?_eq_some_getLast (by rintro rfl; simp at hL1)⟩
  obtain ⟨x2, hx2⟩ : ∃ x, ny.getLast? = some x := ⟨_, List.getLast?_eq_some_getLast (by rintro rfl; simp at hL2)⟩
  obtain ⟨K1, hK1⟩ : ∃ K, x1.kind = K := ⟨_, rfl⟩
  obtain ⟨K2, hK2⟩ : ∃ K, x2.kind = K := ⟨_, rfl⟩
  have hal := fun (k3 : K1 ≠ 3) (k4 : K2 ≠ 3) => Alts.alts_end (a := l) (b := l2) (by rintro rfl; simp at hn; omega) (by rintro rfl; simp at hn2; omega) hE1 hE2 (fun nd h => by rw [hx1] at h; injection h with h; subst h; rw [hK1]; exact k3) (fun nd h => by rw [hx2] at h; injection h with h; subst h; rw [hK2]; exact k4)
  replace hK1 : Hid ((nodL x1)[0]? = some (.int .i64 K1)) := Lib.hid (by rw [← hK1]; rfl)
  replace hK2 : Hid ((nodL x2)[0]? = some (.int .i64 K2)) := Lib.hid (by rw [← hK2]; rfl)
  have hM1 := Lib.hid hL1.symm
  have hM2 := Lib.hid hL2.symm
  replace hx1 := Lib.hid hx1
  replace hx2 := Lib.hid hx2
  by_cases hkind : K1 = 3 ∨ ((K1 == 3) = false ∧ K2 = 3)
  · clear ha1 ha2 hn hb hnc hcm hm hn2 hb2 hnc2 hcm2 hL1 hL2 hal hE1 hE2
    rcases hkind with rfl | ⟨hk3, rfl⟩
    all_goals
      have m1 : ((M1 : Int) + 1 == 0) = false := (by rw [beq_eq_false_iff_ne]; omega)
      have m2 : ((M2 : Int) + 1 == 0) = false := (by rw [beq_eq_false_iff_ne]; omega)
      go_enter Try.func3, Try.ntmps3
      go_wp2_with (first
        | (go_at_call 6; with_reducible show Calls _ _ _ W _; refine (hP1.out).mono ?_; intro e w1 hy; obtain ⟨A1, k1, rfl, hk1, hm1, hN1, hb1⟩ := hy.ex; have hbA := hb1.alloc hb1.size (.cells #[.slice A1 (M1 + 1) k1, .int .i64 0] 26); have hR1 := Lib.hid (held_new w1 26 #[.slice A1 (M1 + 1) k1, .int .i64 0]); have hNa := Lib.hid ((hN1.below ((Below.refl _ _).alloc (Nat.le_refl _) (.cells #[.slice A1 (M1 + 1) k1, .int .i64 0] 26))).more (show w1.heap.size ≤ (w1.alloc (.cells #[.slice A1 (M1 + 1) k1, .int .i64 0] 26)).heap.size by simp)); replace hbA := Lib.hid hbA; clear hN1 hb1)
        | (go_at_call 6; with_reducible show Calls _ _ _ (World.alloc w1 _) _; refine (hP2.out _ hbA.out).mono ?_; intro e w2 hy; obtain ⟨A2, k2, rfl, hk2, hm2, hN2, hb2⟩ := hy.ex; have hR1b := hR1.out.keep hb2; have hNb := Lib.hid ((hNa.out.below hb2).more hb2.size); have hR1c := hR1b.alloc (.cells #[.slice A2 (M2 + 1) k2, .int .i64 0] 26); have hR2c := held_new w2 26 #[.slice A2 (M2 + 1) k2, .int .i64 0]; have z0 := hR1c.at_ (i := 0) rfl; have z1 := hR1c.at_ (i := 1) rfl; have y0 := hR2c.at_ (i := 0) rfl; have y1 := hR2c.at_ (i := 1) rfl; have hal := (Below.refl w2.heap.size w2).alloc (Nat.le_refl _) (.cells #[.slice A2 (M2 + 1) k2, .int .i64 0] 26); have hNc := Lib.hid (hNb.out.below hal); have hNd := Lib.hid (hN2.below hal); have hbC := Lib.hid ((hbA.out.trans (hb2.mono hbA.out.size)).trans (hal.mono (hbA.out.trans (hb2.mono hbA.out.size)).size)); have hsz := Lib.hid hal.size; obtain ⟨ad1, rfl, -, hc1, -⟩ := Nods.last hNc.out hM1.out hx1.out; have kx0 := hc1 _ hK1.out; clear hc1; obtain ⟨ad2, rfl, -, hc2, -⟩ := Nods.last hNd.out hM2.out hx2.out; have ky0 := hc2 _ hK2.out; clear hc2; clear hR1b hR1c hR2c hN2 hb2 hal)
        | (go_at_call 5; refine (hAw.out _ (hm'.out.grow hbC.out)).mono ?_; rintro e w6 ⟨rfl, hb6⟩; replace hb6 := Lib.hid (hbC.out.trans (hb6.mono hbC.out.size))))
      go_ret
      exact ⟨rfl, hb6.out⟩
  have hk3 : K1 ≠ 3 := fun e => hkind (.inl e)
  have hk3b : (K1 == 3) = false := by rw [beq_eq_false_iff_ne]; exact hk3
  have hk4 : K2 ≠ 3 := fun e => hkind (.inr ⟨hk3b, e⟩)
  have hk4b : (K2 == 3) = false := by rw [beq_eq_false_iff_ne]; exact hk4
  obtain ⟨st, hE3, hst⟩ := hal hk3 hk4
  obtain ⟨nz, hz⟩ : ∃ nz, nz = nx ++ st ++ [twoN 3 ((nx.length : Int) - 1) ((nx.length : Int) + (ny.length : Int) - 1)] := ⟨_, rfl⟩
  have hzl := Lib.hid (show nz.length = M1 + M2 + 2 + 1 from by rw [hz]; simp [hst, ← hL1, ← hL2]; omega)
  have hzt := Lib.hid (show nz.take (M1 + 1) = nx from by rw [hz, List.append_assoc, List.take_append_of_le_length (by omega), List.take_of_length_le (by omega)])
  have hzx := Lib.hid (show nz.getLast? = some (twoN 3 (M1 : Int) ((M1 : Int) + M2 + 1)) from by
    rw [hz, List.getLast?_concat, ← hL1, ← hL2]
    congr 2 <;> omega)
  rw [← hz] at hE3
  have hP3 := Lib.hid (fun (w : World) (A' : Option Addr) (n' c' : Nat) (h : Inp w A' n' c' (l ++ 124 :: l2)) (hs : n' ≤ 300) => call_fin hE3 hzl.out.symm h hs)
  have m1 : ((M1 : Int) + 1 == 0) = false := (by rw [beq_eq_false_iff_ne]; omega)
  have m2 : ((M2 : Int) + 1 == 0) = false := (by rw [beq_eq_false_iff_ne]; omega)
  obtain ⟨i0, hi, hz0, hi1, hi2⟩ := info_parts u8_info
  have hJ1 := Lib.hid hi1
  have hJ2 := Lib.hid hi2
  have hSrc := Lib.hid (fun w2 (h : Below W.heap.size W w2) => (hb.below h).vals.src)
  have hSrc2 := Lib.hid (fun w2 (h : Below W.heap.size W w2) => (hb2.below h).vals.src)
  have hbl : Hid ((bv l).length = n) := Lib.hid (by rw [bv_length]; exact hn.symm)
  have hbl2 : Hid ((bv l2).length = m) := Lib.hid (by rw [bv_length]; exact hn2.symm)
  unfold maxLen at hcm hcm2
  clear ha1 ha2 hn hb hm hn2 hb2 hL1 hL2 hal hE1 hE2 hE3 hz hst hi1 hi2 hk3 hk4 hkind
  go_enter Try.func3, Try.ntmps3
  go_wp2_with (first
    | (go_at_call 6; with_reducible show Calls _ _ _ W _; refine (hP1.out).mono ?_; intro e w1 hy; obtain ⟨A1, k1, rfl, hk1, hm1, hN1, hb1⟩ := hy.ex; have hbA := hb1.alloc hb1.size (.cells #[.slice A1 (M1 + 1) k1, .int .i64 0] 26); have hR1 := Lib.hid (held_new w1 26 #[.slice A1 (M1 + 1) k1, .int .i64 0]); have hNa := Lib.hid ((hN1.below ((Below.refl _ _).alloc (Nat.le_refl _) (.cells #[.slice A1 (M1 + 1) k1, .int .i64 0] 26))).more (show w1.heap.size ≤ (w1.alloc (.cells #[.slice A1 (M1 + 1) k1, .int .i64 0] 26)).heap.size by simp)); replace hbA := Lib.hid hbA; clear hN1 hb1)
    | (go_at_call 6; with_reducible show Calls _ _ _ (World.alloc w1 _) _; refine (hP2.out _ hbA.out).mono ?_; intro e w2 hy; obtain ⟨A2, k2, rfl, hk2, hm2, hN2, hb2⟩ := hy.ex; have hR1b := hR1.out.keep hb2; have hNb := Lib.hid ((hNa.out.below hb2).more hb2.size); have hR1c := hR1b.alloc (.cells #[.slice A2 (M2 + 1) k2, .int .i64 0] 26); have hR2c := held_new w2 26 #[.slice A2 (M2 + 1) k2, .int .i64 0]; have z0 := hR1c.at_ (i := 0) rfl; have z1 := hR1c.at_ (i := 1) rfl; have y0 := hR2c.at_ (i := 0) rfl; have y1 := hR2c.at_ (i := 1) rfl; have hal := (Below.refl w2.heap.size w2).alloc (Nat.le_refl _) (.cells #[.slice A2 (M2 + 1) k2, .int .i64 0] 26); have hNc := Lib.hid (hNb.out.below hal); have hNd := Lib.hid (hN2.below hal); have hbC := Lib.hid ((hbA.out.trans (hb2.mono hbA.out.size)).trans (hal.mono (hbA.out.trans (hb2.mono hbA.out.size)).size)); have hsz := Lib.hid hal.size; obtain ⟨ad1, rfl, -, hc1, -⟩ := Nods.last hNc.out hM1.out hx1.out; have kx0 := hc1 _ hK1.out; clear hc1; obtain ⟨ad2, rfl, -, hc2, -⟩ := Nods.last hNd.out hM2.out hx2.out; have ky0 := hc2 _ hK2.out; clear hc2; have hRx := Lib.hid hR1c; have hRy := Lib.hid hR2c; have hbel := Lib.hid (hbC.out.alloc hbC.out.size (.cells #[] 5)); have hsA : True := trivial; clear hR1b hR1c hR2c hN2 hb2 hal)
    | (at_builtin; have _h := hsA; refine wpList_append_at rfl _ _ 22 rfl (w2.heap.size + 1) 5 i0 (.int .u8 0) 1 1 Try.underlying22 hi hz0 hJ1.out hJ2.out rfl (by decide) (.slice (some ⟨w2.heap.size + 1, 0, none⟩) 0 0) 0 (bv []) (by rfl) (by have := own_none (w2.alloc (.cells #[.slice (some ad2) (M2 + 1) k2, .int .i64 0] 26)); rw [sizeA'] at this; exact this) A n c (bv l) rfl (by rw [Nat.mul_one]; exact hbl.out) (hSrc.out _ hbel.out) (bv_one _) (by unfold maxLen; omega) (by omega) (by simp) ?_; intro v3 w3 hown hg _; have hBx := Lib.hid (show Below (w2.heap.size + 1) (w2.alloc (.cells #[.slice (some ad2) (M2 + 1) k2, .int .i64 0] 26)) w3 from by have := add_none (w := (w2.alloc (.cells #[.slice (some ad2) (M2 + 1) k2, .int .i64 0] 26))) (by rw [sizeA']; exact hg); rw [sizeA'] at this; exact this); have hOx := Lib.hid (show w3.ownsRow (w2.heap.size + 1) 5 1 v3 n (bv l) from by rw [Nat.zero_add] at hown; exact hown); clear hown hg hsA; have hsB : True := trivial)
    | (at_builtin; have _h := hsB; refine wpList_append_at rfl _ _ 22 rfl (w2.heap.size + 1) 5 i0 (.int .u8 0) 1 1 Try.underlying22 hi hz0 hJ1.out hJ2.out rfl (by decide) v3 n (bv l) rfl (hOx.out.alloc _) (some ⟨w3.heap.size, 0, none⟩) 1 1 [.int .u8 124] rfl rfl (src_new w3 [.int .u8 124] 5) (by simp [Value.oneCell']) (by unfold maxLen; omega) (by omega) (by have := hBx.out.size; simp at this ⊢; omega) ?_; intro v4 w4 hown hg _; have hBy := Lib.hid (below_append (hBx.out.alloc (by have := hBx.out.size; simp at this ⊢; omega) (.cells #[.int .u8 124] 5)) (hOx.out.alloc _) (by have := hBx.out.size; simp at this ⊢; omega) hg); have hOy := Lib.hid hown; have hB4 := Lib.hid (hbC.out.trans (hBy.out.mono (by have := hbC.out.size; simp at this ⊢; omega))); clear hown hg hsB; have hsC : True := trivial)
    | (at_builtin; have _h := hsC; refine wpList_append_at rfl _ _ 22 rfl (w2.heap.size + 1) 5 i0 (.int .u8 0) 1 1 Try.underlying22 hi hz0 hJ1.out hJ2.out rfl (by decide) v4 (n + 1) (bv l ++ [.int .u8 124]) rfl hOy.out B m d (bv l2) rfl (by rw [Nat.mul_one]; exact hbl2.out) (hSrc2.out _ hB4.out) (bv_one _) (by unfold maxLen; omega) (by omega) (by have := hBy.out.size; simp at this ⊢; omega) ?_; intro v5 w5 hown hg _; have hBz := Lib.hid (below_append hBy.out hOy.out (by have := hBy.out.size; simp at this ⊢; omega) hg); rw [show bv l ++ [Value.int .u8 124] ++ bv l2 = bv (l ++ 124 :: l2) from by rw [bv_append, List.append_assoc]; rfl] at hown; obtain ⟨A5, c5, rfl, e6, e7, e8, e9⟩ := own_byt hown; have hB5 := Lib.hid (hbC.out.trans (hBz.out.mono (by have := hbC.out.size; simp at this ⊢; omega))); have hI5 := Lib.hid (Inp.of (hm'.out.grow hB5.out) e6 e7 e8 (by omega) e9); have hn5 := Lib.hid (show n + 1 + m ≤ 300 from by omega); have hRx5 := Lib.hid (hRx.out.below hBz.out (by have := hRx.out.lt; simp at this ⊢; omega)); have hRy5 := Lib.hid (hRy.out.below hBz.out (by simp)); have hNx5 := Lib.hid ((hNc.out.below (hBz.out.mono (by simp))).more (show w2.heap.size ≤ w5.heap.size from by have := hBz.out.size; simp at this ⊢; omega)); clear hown hg e6 e7 e8 e9 hsC)
    | (go_at_call 6; with_reducible show Calls _ _ _ w5 _; refine (hP3.out _ _ _ _ hI5.out hn5.out).mono ?_; intro e w7 hy; obtain ⟨A3, k3, rfl, hkk3, hm3, hN3, hb7⟩ := hy.ex; obtain ⟨ad3, rfl, -, -, -⟩ := Nods.last hN3 hzl.out hzx.out; have hal7 := (Below.refl w7.heap.size w7).alloc (Nat.le_refl _) (.cells #[.slice (some ad3) (M1 + M2 + 2 + 1) k3, .int .i64 0] 26); have hRx8 := (hRx5.out.keep hb7).alloc (.cells #[.slice (some ad3) (M1 + M2 + 2 + 1) k3, .int .i64 0] 26); have hRy8 := (hRy5.out.keep hb7).alloc (.cells #[.slice (some ad3) (M1 + M2 + 2 + 1) k3, .int .i64 0] 26); have hRz8 := held_new w7 26 #[.slice (some ad3) (M1 + M2 + 2 + 1) k3, .int .i64 0]; have z0 := hRx8.at_ (i := 0) (v := .slice (some ad1) (M1 + 1) k1) rfl; have z1 := hRx8.at_ (i := 1) (v := .int .i64 0) rfl; have y0 := hRy8.at_ (i := 0) (v := .slice (some ad2) (M2 + 1) k2) rfl; have u0 := hRz8.at_ (i := 0) (v := .slice (some ad3) (M1 + M2 + 2 + 1) k3) rfl; have hNz8 := hN3.below hal7; have hNx8 := ((hNx5.out.below hb7).more hb7.size).below hal7; have hb8 := hB5.out.trans ((hb7.trans (hal7.mono hb7.size)).mono hB5.out.size); have hal8 : Below w7.heap.size (w7.alloc (.cells #[.slice (some ad3) (M1 + M2 + 2 + 1) k3, .int .i64 0] 26)) (w7.alloc (.cells #[.slice (some ad3) (M1 + M2 + 2 + 1) k3, .int .i64 0] 26)) := Below.refl _ _; have hS8 := Lib.hid (show (w7.alloc (.cells #[.slice (some ad3) (M1 + M2 + 2 + 1) k3, .int .i64 0] 26)).cell? ⟨w1.heap.size, 0, none⟩ = some (.slice (some ad1) (M1 + 1) k1) ∧ (w7.alloc (.cells #[.slice (some ad3) (M1 + M2 + 2 + 1) k3, .int .i64 0] 26)).cell? ⟨w1.heap.size, 1, none⟩ = some (.int .i64 0) ∧ (w7.alloc (.cells #[.slice (some ad3) (M1 + M2 + 2 + 1) k3, .int .i64 0] 26)).cell? ⟨w2.heap.size, 0, none⟩ = some (.slice (some ad2) (M2 + 1) k2) ∧ (w7.alloc (.cells #[.slice (some ad3) (M1 + M2 + 2 + 1) k3, .int .i64 0] 26)).cell? ⟨w7.heap.size, 0, none⟩ = some (.slice (some ad3) (M1 + M2 + 2 + 1) k3) from ⟨z0, z1, y0, u0⟩); have hSm := Lib.hid (fun w' (h : Below w7.heap.size (w7.alloc (.cells #[.slice (some ad3) (M1 + M2 + 2 + 1) k3, .int .i64 0] 26)) w') => (refSame_any (some ad3) (some ad1) (M1 + 1) k3 (M1 + 1) k1 0 0 nx nx w7.heap.size w' hM1.out.symm hM1.out.symm (by omega) hk1 hm3 (Nat.le_trans hal7.size h.size) (by have := (hNz8.below h).take (M1 + 1); rw [hzt.out] at this; exact this) (hNx8.below h)).mono fun e w9 hh => (by rw [sameNs_self, decide_eq_true rfl, Bool.and_true] at hh; exact hh : e = .returned (.bool true) ∧ Below w'.heap.size w' w9)); obtain ⟨ad3', ead, had3, hc8, hc9⟩ := Nods.last hNz8 hzl.out hzx.out; injection ead with ead; subst ead; have hT := Lib.hid (show Third W (w7.alloc (.cells #[.slice (some ad3) (M1 + M2 + 2 + 1) k3, .int .i64 0] 26)) w1.heap.size w2.heap.size w7.heap.size ad1 ad2 ad3 (M1 + 1) k1 (M2 + 1) k2 (M1 + M2 + 2) k3 (twoN 3 (M1 : Int) ((M1 : Int) + M2 + 1)) from ⟨z0, z1, y0, u0, hc8 _ rfl, hc9, ⟨hRx8.lt, hRy8.lt, hRz8.lt, Nat.lt_of_lt_of_le had3 hal7.size⟩, hb8⟩); replace hal8 := Lib.hid hal8; clear hc8 hc9 had3 hNz8 hNx8 hb8 hRz8 hRx8 hRy8 hN3 hb7 hal7))
  have f1 : IntKind.i64.wrap ((M1 : Int) + 1 + ((M2 : Int) + 1)) = (M1 : Int) + 1 + ((M2 : Int) + 1) := IntWalk.i64_in _ (by omega)
  have f2 : IntKind.i64.wrap ((M1 : Int) + 1 + ((M2 : Int) + 1) + 1) = (M1 : Int) + 1 + ((M2 : Int) + 1) + 1 := IntWalk.i64_in _ (by omega)
  have f3 : ((M1 : Int) + (M2 : Int) + 2 + 1 != (M1 : Int) + 1 + ((M2 : Int) + 1) + 1) = false := by rw [bne_eq_false_iff_eq]; omega
  have f4 : (0 : Int) ≤ (M1 : Int) + 1 := by omega
  have f5 : (M1 : Int) + 1 ≤ (k3 : Int) := by omega
  have f6 : M1 + 1 ≤ k3 := by omega
  go_region_held3 (fun w' => w'.cell? ⟨w1.heap.size, 0, none⟩ = some (.slice (some ad1) (M1 + 1) k1) ∧ w'.cell? ⟨w1.heap.size, 1, none⟩ = some (.int .i64 0) ∧ w'.cell? ⟨w2.heap.size, 0, none⟩ = some (.slice (some ad2) (M2 + 1) k2) ∧ w'.cell? ⟨w7.heap.size, 0, none⟩ = some (.slice (some ad3) (M1 + M2 + 2 + 1) k3))
    (first | with_reducible exact hS8.out | with_reducible exact hS9.out | go_keep)
    (first
    | (go_at_call 7; refine (hSm.out _ hal8.out.drew).mono ?_; rintro e w9 ⟨rfl, hb9⟩; replace hT := hT.out.keep ((Below.refl _ _).drew.trans hb9); have hS9 := Lib.hid (And.intro hT.x0 (And.intro hT.x1 (And.intro hT.y0 hT.z0))); replace hT := Lib.hid hT; clear hb9))
  have u0 := hT.out.z0
  have cc : w9.cell? (ad3.add ((M1 + M2 + 2) * 10)) = some (.int .i64 3) := hT.out.first
  have c0 := hT.out.cells 0 (.int .i64 3) rfl
  have c1 := hT.out.cells 1 (.int .i64 (M1 : Int)) rfl
  have c2 := hT.out.cells 2 (.int .i64 ((M1 : Int) + M2 + 1)) rfl
  have c3 := hT.out.cells 3 (.int .i64 0) rfl
  have c4 := hT.out.cells 4 (.int .i64 0) rfl
  have c5 := hT.out.cells 5 (.int .i64 0) rfl
  have c6 := hT.out.cells 6 (.int .u64 0) (by show some (Value.int .u64 ((wd zset 0 : Nat) : Int)) = _; rw [zset_wd]; rfl)
  have c7 := hT.out.cells 7 (.int .u64 0) (by show some (Value.int .u64 ((wd zset 1 : Nat) : Int)) = _; rw [zset_wd]; rfl)
  have c8 := hT.out.cells 8 (.int .u64 0) (by show some (Value.int .u64 ((wd zset 2 : Nat) : Int)) = _; rw [zset_wd]; rfl)
  have c9 := hT.out.cells 9 (.int .u64 0) (by show some (Value.int .u64 ((wd zset 3 : Nat) : Int)) = _; rw [zset_wd]; rfl)
  have u1 := (hT.out.keep ((Below.refl _ _).alloc (Nat.le_refl _) (.cells #[.int .i64 3, .int .i64 (M1 : Int), .int .i64 ((M1 : Int) + M2 + 1), .int .i64 0, .int .i64 0, .int .i64 0, .int .u64 0, .int .u64 0, .int .u64 0, .int .u64 0] 34))).z0
  have hbE := Lib.hid (hT.out.old.alloc hT.out.old.size (.cells #[.int .i64 3, .int .i64 (M1 : Int), .int .i64 ((M1 : Int) + M2 + 1), .int .i64 0, .int .i64 0, .int .i64 0, .int .u64 0, .int .u64 0, .int .u64 0, .int .u64 0] 34))
  have e1 : ((M1 : Int) + (M2 : Int) + 1 == (M1 : Int) + (M2 : Int) + 2 + 1 - 2) = true := by rw [beq_iff_eq]; omega
  clear f1 f2 f3 f4 f5
  go_wp2_with (go_at_call 5; refine (hAw.out _ (hm'.out.grow hbE.out)).mono ?_; rintro e w12 ⟨rfl, hb12⟩; replace hb12 := Lib.hid (hbE.out.trans (hb12.mono hbE.out.size)))
  go_ret
  exact ⟨rfl, hb12.out⟩
theorem contract (H : Type) (enc : TypeId × Value → H) (W : World) (base : Nat) (args : Array Value) (ds gs : List (DataW H)) (before : List MemPlace)
    (hval : ∀ (j : Nat) t v, Try.f3.params[j]? = some t → args[j]? = some v → Value.okWide Try.prog W .any base t v)
    (hW : DataW.Whole enc Try.prog Try.f3.params.toList Rows.ereAltsSpec.vars false W args.toList ds gs before) (hsh : W.ShapedOpen Try.prog) :
    Calls Try.prog 3 args W fun e W' => ∃ v, e = .returned v ∧ Rows.ereAltsSpec.post enc Try.prog Try.f3 false true false false W args v W' := by
  have hW' := hW
  obtain ⟨p, q, hA, hV, rfl, hfz, hnd⟩ := hW
  rw [Try.params3] at hA hval
  obtain ⟨v0, vs0, d0, ds0, p0, q0, hargs, rfl, rfl, h0, r0⟩ := trodAll_cons hA
  obtain ⟨v1, vs1, d1, ds1, p1, q1, rfl, rfl, rfl, h1, r1⟩ := trodAll_cons r0
  obtain ⟨rfl, rfl, rfl⟩ := trodAll_nil r1
  obtain rfl : args = #[v0, v1] := by cases args; simp_all
  obtain ⟨rfl, rfl⟩ := trodVars_none hV
  obtain ⟨A0, n0, c0, l0, rfl, e0, k0, m0, x0⟩ := open_byt Try.underlying22 Try.underlying5 (by kernel_rfl) (hval 0 22 v0 rfl rfl) h0
  obtain ⟨A1, n1, c1, l1, rfl, e1, k1, m1, x1⟩ := open_byt Try.underlying22 Try.underlying5 (by kernel_rfl) (hval 1 22 v1 rfl rfl) h1
  have hmx := max_of hsh
  exact (core W A0 n0 c0 l0 e0 k0 m0 x0 A1 n1 c1 l1 e1 k1 m1 x1 hmx).mono fun e W' ⟨he, hb⟩ => ⟨_, he, law_post hW' rfl (by kernel_rfl) (by kernel_rfl) rfl hb⟩

theorem laid_met (os : Os) : laidMetH Try.prog Rows.ereAltsRow.laid ((World.doorLaid Try.prog 4000 os).forCall (fun _ _ => 0) ⟨#[], #[.slice none 0 0, .slice none 0 0], []⟩).memory :=
  laidMetH_of_parts3 (fuel := 8) (laidMet_of_run' 8 (by kernel_rfl) (by kernel_rfl)) (by kernel_rfl) (by kernel_rfl)
theorem reads (os : Os) {H : Type} (enc : TypeId × Value → H) : ∃ places, DataW.whole enc Try.prog ((World.doorLaid Try.prog 4000 os).forCall (fun _ _ => 0) ⟨#[], #[.slice none 0 0, .slice none 0 0], []⟩).memory Try.f3.params.toList Rows.ereAltsSpec.vars false #[Value.slice none 0 0, .slice none 0 0].toList 8 = some ([.nil, .nil], [], places) :=
  ⟨[], by kernel_rfl⟩

set_option maxRecDepth 100000 in
theorem lifted (os : Os) (started : os.Started) (H : Type) (enc : TypeId × Value → H) (F : Stop.Interp) :
    ReturnsInHanded {} Try.checked os 3 .any ((OpenSpec.ofChange Rows.ereAltsSpec).preRow enc Try.prog Try.f3 Rows.ereAltsRow.domain false Rows.ereAltsRow.laid) (((OpenSpec.ofChange Rows.ereAltsSpec).at F).post enc Try.prog Try.f3 false true false false) := by
  obtain ⟨places, hx⟩ := reads os enc
  refine returnsInHanded_of_row (C := Try.checked) (s := (OpenSpec.ofChange Rows.ereAltsSpec)) own started (by kernel_rfl) Try.func3
    (witness_row_at (enc := enc) (C := Try.checked) false (World.doorLaid Try.prog 4000 os) #[.slice none 0 0, .slice none 0 0] rfl (by kernel_rfl) (by kernel_rfl) (by kernel_rfl)
      (OpenSpec.preRow_of_cond 8 hx (by kernel_rfl) (fun k hk => by cases hk) (by kernel_rfl) (laid_met os))) ?_
  intro W base args ds gs before hval hW _ _ _ _ hsh _
  exact contract H enc W base args ds gs before hval hW hsh

theorem said : Rows.EreAltsSaid :=
  OpenClaim.holds_of_cond 3 Try.f3 rfl rfl rfl rfl rfl rfl rfl ⟨rfl, rfl, rfl, rfl, rfl⟩ rfl rfl rfl rfl rfl (by kernel_rfl) Try.func3 (by kernel_rfl)
    (of_decide_eq_true (by kernel_rfl)) (by unfold Func.isWrapper; first | (rw [if_pos (by decide +kernel)]; kernel_rfl) | (rw [if_neg (by decide +kernel)]; exact ⟨rfl, rfl⟩))
    (fun os started H enc _ F => by rw [OpenClaim.pre_eq_preRow]; exact lifted os started H enc F)

end Go.Proofs.Ytnfbgpjadnlgbab.EAlts
