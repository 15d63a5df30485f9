/- A slice of lines that comes in as an argument. -/
import Derived.Test.YtdmbjhgfiofbhaaProg
import Derived.Test.YtdmbjhgfiofbhaaLinW
import Derived.Deep.Slices
import Derived.Deep.Fields
import Derived.ChangeSame
namespace Go.Proofs.Ytdmbjhgfiofbhaa
open Go.ChangeShapes Go.WideShapes Go.Deep Go.RowKit

section
variable {H : Type} {enc : TypeId × Value → H} {P : Program} {W : World} {held : Bool}
theorem byt_trod {t e : TypeId} {fuel : Nat} {cs : List Value} {x : DataW H × List MemPlace} (ht : P.underlying t = some (.slice e)) (he : P.underlying e = some (.int .u8)) (hc : P.cellsOf e = 1)
    (h : DataW.trod enc P W 0 (fun _ => true) held fuel t cs = some x) :
    ∃ (A : Option Addr) (n cap : Nat) (l : List UInt8), cs = [.slice A n cap] ∧ n = l.length ∧ n ≤ cap ∧ cap ≤ maxLen ∧ Byt W W.heap.size A l := by
  rcases open_ints ht he hc h with ⟨hcs, _⟩ | ⟨a, len, cap, zs, hcs, _, hl, hm, hz, _, hcell, hw⟩
  · exact ⟨none, 0, 0, [], hcs, rfl, Nat.le_refl _, by simp [maxLen], Byt.none_ _ _ _⟩
  · simp only [if_true] at hz
    refine ⟨some a, len, cap, (zs.take len).map fun z => UInt8.ofNat z.toNat, hcs, by rw [List.length_map, List.length_take]; omega, hl, hm, ?_⟩
    intro j hj
    rw [List.length_map, List.length_take] at hj
    have hjz : j < zs.length := by omega
    have h1 := hcell j hjz
    refine ⟨a, rfl, ?_, ?_⟩
    · have := World.block_lt_of_cell? _ _ h1
      rwa [block_add] at this
    · have hb := bounds_u8 (hw _ (List.getElem_mem hjz))
      have e1 : zs.getD j 0 = zs[j]'hjz := by simp [List.getD, hjz]
      have e2 : (zs.take len)[j]'(by rw [List.length_take]; omega) = zs[j]'hjz := List.getElem_take
      rw [h1, e1, List.getElem_map, e2]
      generalize zs[j]'hjz = z at hb
      obtain ⟨y, rfl⟩ := Int.eq_ofNat_of_zero_le hb.1
      simp only [Int.toNat_natCast, UInt8.toNat_ofNat', Option.some.injEq, Value.int.injEq, true_and]
      omega
end

theorem open_lines {H : Type} {enc : TypeId × Value → H} {W : World} {v : Value} {d : DataW H} {ps : List MemPlace} {r : Reach} {base : Nat}
    (hv : Value.okWide Try.prog W r base 24 v) (h : DataW.Trod enc Try.prog W 0 (fun _ => true) true 24 v d ps) :
    ∃ (A : Option Addr) (n cap : Nat) (ls : List Lin), v = .slice A n cap ∧ n = ls.length ∧ n ≤ cap ∧ cap ≤ maxLen ∧ Lins W W.heap.size A ls := by
  obtain ⟨a0, len, cap, rfl⟩ := okWide_slice Try.underlying24 hv
  obtain ⟨fuel, hf⟩ := h
  have hC : Try.prog.cellsOf 27 = 2 := by kernel_rfl
  have hC1 : Try.prog.cellsOf 22 = 1 := by kernel_rfl
  have hC2 : Try.prog.cellsOf 4 = 1 := by kernel_rfl
  rcases open_slice Try.underlying24 hf with ⟨hcs, _⟩ | ⟨a, len', cap', m, n, D, Pl, hcs, hb, hl, hm, hmm, hx, hi⟩
  · have e1 : Value.slice a0 len cap = .slice none 0 0 := by simpa [Value.cells] using hcs
    rw [e1]
    exact ⟨none, 0, 0, [], rfl, rfl, Nat.le_refl _, by simp [maxLen], Lins.none_ _ _ _⟩
  · have e1 : Value.slice a0 len cap = .slice (some a) len' cap' := by simpa [Value.cells] using hcs
    rw [e1]
    simp only [if_true] at hmm
    rw [hC] at hi
    have key : ∀ i, i < len' → ∃ x : Lin, ∃ v, W.cell? (a.add (i * 2)) = some v ∧ W.cell? (a.add (i * 2 + 1)) = some (.bool x.2) ∧ LinB W W.heap.size v x.1 := by
      intro i hil
      obtain ⟨cs', hc, ht⟩ := hi i (by omega)
      obtain ⟨_, hcl, hat⟩ := World.cells?_some hc
      obtain ⟨xs, n', _, _, _, hxl, hfl⟩ := DataW.trod_struct Try.underlying27 ht
      match cs', hcl with
      | [c0, c1], _ =>
        have k0 := hat 0 (by omega)
        have k1 := hat 1 (by omega)
        rw [add_two] at k0 k1
        match xs, hxl with
        | [y0, y1], _ =>
          have f0 := hfl 0 _ rfl
          have f1 := hfl 1 _ rfl
          obtain ⟨A, n1, c, l, h1, h2, h3, h4, h5⟩ := byt_trod Try.underlying22 Try.underlying5 (by kernel_rfl) f0
          obtain ⟨b, h6, _⟩ := DataW.trod_bool Try.underlying4 f1
          have h1 : List.take (Try.prog.cellsOf 22) [c0, c1] = [Value.slice A n1 c] := h1
          have h6 : List.take (Try.prog.cellsOf 4) [c1] = [Value.bool b] := h6
          rw [hC1] at h1
          rw [hC2] at h6
          have g0 : c0 = .slice A n1 c := by simpa using h1
          have g1 : c1 = .bool b := by simpa using h6
          refine ⟨(l, b), c0, k0, by rw [k1, g1]; rfl, A, n1, c, g0, h2, h3, h4, h5⟩
    have hex : ∃ f : Nat → Lin, ∀ i, i < len' → ∃ v, W.cell? (a.add (i * 2)) = some v ∧ W.cell? (a.add (i * 2 + 1)) = some (.bool (f i).2) ∧ LinB W W.heap.size v (f i).1 :=
      ⟨fun i => if hil : i < len' then Classical.choose (key i hil) else ([], false), fun i hil => by simp only [dif_pos hil]; exact Classical.choose_spec (key i hil)⟩
    obtain ⟨f, hf2⟩ := hex
    refine ⟨some a, len', cap', (List.range len').map f, rfl, by simp, hl, hm, ?_⟩
    intro k hk
    rw [List.length_map, List.length_range] at hk
    obtain ⟨v, g1, g2, g3⟩ := hf2 k hk
    have e2 : ((List.range len').map f)[k]'(by simpa using hk) = f k := by simp
    rw [e2]
    exact ⟨a, v, rfl, by have := World.block_lt_of_cell? _ _ g1; rwa [block_add] at this, g1, g2, g3⟩
end Go.Proofs.Ytdmbjhgfiofbhaa
