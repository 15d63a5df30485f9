/- Files, pieces, what is done: as arguments. -/
import Derived.Test.YtkdhfjnfdcopdaaProg
import Derived.Test.YtkdhfjnfdcopdaaFilW
import Derived.Test.YtkdhfjnfdcopdaaFilU
import Derived.Deep.Slices
import Derived.Deep.Fields
import Derived.ChangeSame
namespace Go.Proofs.Ytkdhfjnfdcopdaa
open Go.ChangeShapes Go.WideShapes Go.Deep Go.RowKit

theorem rows_of {α : Type} [Inhabited α] {R : Nat → α → Prop} {n : Nat} (key : ∀ i, i < n → ∃ x, R i x) : ∃ l : List α, n = l.length ∧ ∀ k (h : k < l.length), R k (l[k]'h) := by
  obtain ⟨f, hf⟩ : ∃ f : Nat → α, ∀ i, i < n → R i (f i) :=
    ⟨fun i => if h : i < n then Classical.choose (key i h) else default, fun i h => by simp only [dif_pos h]; exact Classical.choose_spec (key i h)⟩
  refine ⟨(List.range n).map f, by simp, fun k h => ?_⟩
  have hk : k < n := by simpa using h
  have e : ((List.range n).map f)[k]'h = f k := by simp
  rw [e]; exact hf k hk
section
variable {H : Type} {enc : TypeId × Value → H} {W : World} {held : Bool}
theorem bytq_trod {P : Program} {t e : TypeId} {fuel : Nat} {cs : List Value} {x : DataW H × List MemPlace} (ht : P.underlying t = some (.slice e)) (he : P.underlying e = some (.int .u8)) (hc : P.cellsOf e = 1)
    (h : DataW.trod enc P W 0 (fun _ => true) held fuel t cs = some x) : ∃ v l, cs = [v] ∧ FilB W (· < W.heap.size) v l := by
  rcases open_ints ht he hc h with ⟨hcs, _⟩ | ⟨a, len, cap, zs, hcs, _, hl, hm, hz, _, hcell, hw⟩
  · exact ⟨_, [], hcs, none, 0, 0, rfl, rfl, Nat.le_refl _, by simp [maxLen], fun _ h => absurd h (by simp)⟩
  · simp only [if_true] at hz
    refine ⟨_, (zs.take len).map fun z => UInt8.ofNat z.toNat, hcs, some a, len, cap, rfl, by rw [List.length_map, List.length_take]; omega, hl, hm, ?_⟩
    intro j hj
    rw [List.length_map, List.length_take] at hj
    have hjz : j < zs.length := by omega
    have h1 := hcell j hjz
    refine ⟨a, rfl, ?_, ?_⟩
    · have := World.block_lt_of_cell? _ _ h1
      rwa [block_add] at this
    · have hb := bounds_u8 (hw _ (List.getElem_mem hjz))
      have e1 : zs.getD j 0 = zs[j]'hjz := by simp [List.getD, hjz]
      have e2 : (zs.take len)[j]'(by rw [List.length_take]; omega) = zs[j]'hjz := List.getElem_take
      rw [h1, e1, List.getElem_map, e2]
      generalize zs[j]'hjz = z at hb
      obtain ⟨y, rfl⟩ := Int.eq_ofNat_of_zero_le hb.1
      simp only [Int.toNat_natCast, UInt8.toNat_ofNat', Option.some.injEq, Value.int.injEq, true_and]
      omega
theorem bss_trod {P : Program} {t e u : TypeId} {fuel : Nat} {cs : List Value} {x : DataW H × List MemPlace} (ht : P.underlying t = some (.slice e)) (hC : P.cellsOf e = 1) (he : P.underlying e = some (.slice u)) (hu : P.underlying u = some (.int .u8)) (hc : P.cellsOf u = 1)
    (h : DataW.trod enc P W 0 (fun _ => true) true fuel t cs = some x) : ∃ v ls, cs = [v] ∧ BssV W (· < W.heap.size) v ls := by
  rcases open_slice ht h with ⟨hcs, _⟩ | ⟨a, len', cap', m, n, D, Pl, hcs, hb, hl, hm, hmm, hx, hi⟩
  · exact ⟨_, [], hcs, none, 0, 0, rfl, rfl, Nat.le_refl _, by simp [maxLen], fun _ h => absurd h (by simp)⟩
  · simp only [if_true] at hmm
    rw [hC] at hi
    obtain ⟨ls, hl1, hl2⟩ := rows_of (α := List UInt8) (R := fun i l => ∃ v, W.cell? (a.add i) = some v ∧ FilB W (· < W.heap.size) v l) (n := len') (fun i hil => by
      obtain ⟨cs', hc', ht'⟩ := hi i (by omega)
      obtain ⟨_, hcl, hat⟩ := World.cells?_some hc'
      obtain ⟨v, l, e1, e2⟩ := bytq_trod he hu hc ht'
      subst e1
      have k0 := hat 0 (by omega)
      rw [add_two, Nat.mul_one, Nat.add_zero] at k0
      exact ⟨l, v, k0, e2⟩)
    refine ⟨_, ls, hcs, some a, len', cap', rfl, hl1, hl, hm, fun k hk => ?_⟩
    obtain ⟨v, g1, g2⟩ := hl2 k hk
    exact ⟨a, v, rfl, by have := World.block_lt_of_cell? _ _ g1; rwa [block_add] at this, g1, g2⟩
end

section
variable {H : Type} {enc : TypeId × Value → H} {W : World} {v : Value} {d : DataW H} {ps : List MemPlace} {r : Reach} {base : Nat}
theorem open_bss (hv : Value.okWide Try.prog W r base 32 v) (h : DataW.Trod enc Try.prog W 0 (fun _ => true) true 32 v d ps) :
    ∃ (A : Option Addr) (n cap : Nat) (ls : List (List UInt8)), v = .slice A n cap ∧ n = ls.length ∧ n ≤ cap ∧ cap ≤ maxLen ∧ Bss W (· < W.heap.size) A ls := by
  obtain ⟨a0, len, cap, rfl⟩ := okWide_slice Try.underlying32 hv
  obtain ⟨fuel, hf⟩ := h
  obtain ⟨v, ls, hcs, A, n, c, rfl, h1, h2, h3, h4⟩ := bss_trod Try.underlying32 (by kernel_rfl) Try.underlying35 Try.underlying5 (by kernel_rfl) hf
  have e1 : Value.slice a0 len cap = .slice A n c := by simpa [Value.cells] using hcs
  exact ⟨A, n, c, ls, e1, h1, h2, h3, h4⟩

theorem open_files (hv : Value.okWide Try.prog W r base 22 v) (h : DataW.Trod enc Try.prog W 0 (fun _ => true) true 22 v d ps) :
    ∃ (A : Option Addr) (n cap : Nat) (fs : List Fil), v = .slice A n cap ∧ n = fs.length ∧ n ≤ cap ∧ cap ≤ maxLen ∧ (∀ f ∈ fs, f.1.size ≤ maxLen) ∧ Fils W (· < W.heap.size) A fs := by
  obtain ⟨a0, len, cap, rfl⟩ := okWide_slice Try.underlying22 hv
  obtain ⟨fuel, hf⟩ := h
  have hC : Try.prog.cellsOf 52 = 2 := by kernel_rfl
  have hC1 : Try.prog.cellsOf 35 = 1 := by kernel_rfl
  have hC2 : Try.prog.cellsOf 9 = 1 := by kernel_rfl
  rcases open_slice Try.underlying22 hf with ⟨hcs, _⟩ | ⟨a, len', cap', m, n, D, Pl, hcs, hb, hl, hm, hmm, hx, hi⟩
  · have e1 : Value.slice a0 len cap = .slice none 0 0 := by simpa [Value.cells] using hcs
    rw [e1]
    exact ⟨none, 0, 0, [], rfl, rfl, Nat.le_refl _, by simp [maxLen], fun _ h => (by cases h), Fils.none_ _ _ _⟩
  · have e1 : Value.slice a0 len cap = .slice (some a) len' cap' := by simpa [Value.cells] using hcs
    rw [e1]
    simp only [if_true] at hmm
    rw [hC] at hi
    obtain ⟨fs, hl1, hl2⟩ := rows_of (α := Fil) (R := fun i x => (∃ v, W.cell? (a.add (i * 2)) = some (.string x.1) ∧ W.cell? (a.add (i * 2 + 1)) = some v ∧ FilB W (· < W.heap.size) v x.2) ∧ x.1.size ≤ maxLen) (n := len') (fun i hil => by
      obtain ⟨cs', hc, ht⟩ := hi i (by omega)
      obtain ⟨_, hcl, hat⟩ := World.cells?_some hc
      obtain ⟨xs, n', _, _, _, hxl, hfl⟩ := DataW.trod_struct Try.underlying52 ht
      match cs', hcl with
      | [c0, c1], _ =>
        have k0 := hat 0 (by omega)
        have k1 := hat 1 (by omega)
        rw [add_two] at k0 k1
        match xs, hxl with
        | [y0, y1], _ =>
          have f0 := hfl 0 _ rfl
          have f1 := hfl 1 _ rfl
          obtain ⟨s, h6, _, h7⟩ := DataW.trod_string Try.underlying9 f0
          obtain ⟨v, l, h1, h5⟩ := bytq_trod Try.underlying35 Try.underlying5 (by kernel_rfl) f1
          have h6 : List.take (Try.prog.cellsOf 9) [c0, c1] = [Value.string s] := h6
          have h1 : List.take (Try.prog.cellsOf 35) [c1] = [v] := h1
          rw [hC2] at h6
          rw [hC1] at h1
          have g0 : c0 = .string s := by simpa using h6
          have g1 : c1 = v := by simpa using h1
          refine ⟨(s, l), ⟨c1, by rw [← g0]; exact k0, k1, by rw [g1]; exact h5⟩, h7⟩)
    refine ⟨some a, len', cap', fs, rfl, hl1, hl, hm, fun f hf => ?_, fun k hk => ?_⟩
    · obtain ⟨j, hj, rfl⟩ := List.mem_iff_getElem.1 hf
      exact (hl2 j hj).2
    · obtain ⟨⟨v, g1, g2, g3⟩, _⟩ := hl2 k hk
      exact ⟨a, v, rfl, by have := World.block_lt_of_cell? _ _ g1; rwa [block_add] at this, g1, g2, g3⟩
theorem open_acts (hv : Value.okWide Try.prog W r base 23 v) (h : DataW.Trod enc Try.prog W 0 (fun _ => true) true 23 v d ps) :
    ∃ (A : Option Addr) (n cap : Nat) (l : List ActT), v = .slice A n cap ∧ n = l.length ∧ n ≤ cap ∧ cap ≤ maxLen ∧ (∀ a ∈ l, a.2.2.1.size ≤ maxLen) ∧ Acts W (· < W.heap.size) A l := by
  obtain ⟨a0, len, cap, rfl⟩ := okWide_slice Try.underlying23 hv
  obtain ⟨fuel, hf⟩ := h
  have hC : Try.prog.cellsOf 34 = 4 := by kernel_rfl
  have hC0 : Try.prog.cellsOf 3 = 1 := by kernel_rfl
  have hC1 : Try.prog.cellsOf 32 = 1 := by kernel_rfl
  have hC2 : Try.prog.cellsOf 9 = 1 := by kernel_rfl
  rcases open_slice Try.underlying23 hf with ⟨hcs, _⟩ | ⟨a, len', cap', m, n, D, Pl, hcs, hb, hl, hm, hmm, hx, hi⟩
  · have e1 : Value.slice a0 len cap = .slice none 0 0 := by simpa [Value.cells] using hcs
    rw [e1]
    exact ⟨none, 0, 0, [], rfl, rfl, Nat.le_refl _, by simp [maxLen], fun _ h => (by cases h), fun _ h => absurd h (by simp)⟩
  · have e1 : Value.slice a0 len cap = .slice (some a) len' cap' := by simpa [Value.cells] using hcs
    rw [e1]
    simp only [if_true] at hmm
    rw [hC] at hi
    obtain ⟨fs, hl1, hl2⟩ := rows_of (α := ActT) (R := fun i x => (∃ v, W.cell? (a.add (i * 4)) = some (.int .i64 x.1) ∧ W.cell? (a.add (i * 4 + 1)) = some (.int .i64 x.2.1) ∧ W.cell? (a.add (i * 4 + 2)) = some (.string x.2.2.1) ∧ W.cell? (a.add (i * 4 + 3)) = some v ∧ BssV W (· < W.heap.size) v x.2.2.2) ∧ x.2.2.1.size ≤ maxLen) (n := len') (fun i hil => by
      obtain ⟨cs', hc, ht⟩ := hi i (by omega)
      obtain ⟨_, hcl, hat⟩ := World.cells?_some hc
      obtain ⟨xs, n', _, _, _, hxl, hfl⟩ := DataW.trod_struct Try.underlying34 ht
      match cs', hcl with
      | [c0, c1, c2, c3], _ =>
        have k0 := hat 0 (by omega)
        have k1 := hat 1 (by omega)
        have k2 := hat 2 (by omega)
        have k3 := hat 3 (by omega)
        rw [add_two] at k0 k1 k2 k3
        match xs, hxl with
        | [y0, y1, y2, y3], _ =>
          have f0 := hfl 0 _ rfl
          have f1 := hfl 1 _ rfl
          have f2 := hfl 2 _ rfl
          have f3 := hfl 3 _ rfl
          obtain ⟨z0, h0, _, _⟩ := DataW.trod_int Try.underlying3 f0
          obtain ⟨z1, h1, _, _⟩ := DataW.trod_int Try.underlying3 f1
          obtain ⟨s, h2, _, h7⟩ := DataW.trod_string Try.underlying9 f2
          obtain ⟨v, l, h3, h5⟩ := bss_trod Try.underlying32 (by kernel_rfl) Try.underlying35 Try.underlying5 (by kernel_rfl) f3
          have h0 : List.take (Try.prog.cellsOf 3) [c0, c1, c2, c3] = [Value.int .i64 z0] := h0
          have h1 : List.take (Try.prog.cellsOf 3) [c1, c2, c3] = [Value.int .i64 z1] := h1
          have h2 : List.take (Try.prog.cellsOf 9) [c2, c3] = [Value.string s] := h2
          have h3 : List.take (Try.prog.cellsOf 32) [c3] = [v] := h3
          rw [hC0] at h0 h1
          rw [hC2] at h2
          rw [hC1] at h3
          have g0 : c0 = .int .i64 z0 := by simpa using h0
          have g1 : c1 = .int .i64 z1 := by simpa using h1
          have g2 : c2 = .string s := by simpa using h2
          have g3 : c3 = v := by simpa using h3
          refine ⟨(z0, z1, s, l), ⟨c3, by rw [← g0]; exact k0, by rw [← g1]; exact k1, by rw [← g2]; exact k2, k3, by rw [g3]; exact h5⟩, h7⟩)
    refine ⟨some a, len', cap', fs, rfl, hl1, hl, hm, fun f hf => ?_, fun k hk => ?_⟩
    · obtain ⟨j, hj, rfl⟩ := List.mem_iff_getElem.1 hf
      exact (hl2 j hj).2
    · obtain ⟨⟨v, g0, g1, g2, g3, g4⟩, _⟩ := hl2 k hk
      exact ⟨a, v, rfl, by have := World.block_lt_of_cell? _ _ g0; rwa [block_add] at this, g0, g1, g2, g3, g4⟩
end
end Go.Proofs.Ytkdhfjnfdcopdaa
