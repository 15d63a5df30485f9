/- A set, and a slice of sets, that come in as arguments. -/
import Derived.Test.YtlbfdnejigojhaaProg
import Derived.Test.YtlbfdnejigojhaaClsG
import Derived.Deep.Slices
import Derived.Deep.Fields
import Derived.ChangeSame
import Derived.Laws.IdiomArrays
namespace Go.Proofs.Ytlbfdnejigojhaa
open Go.ChangeShapes Go.WideShapes Go.Deep Go.RowKit

theorem list4 {α : Type} (l : List α) (h : l.length = 4) : ∃ a b c d, l = [a, b, c, d] := by
  match l, h with
  | [a, b, c, d], _ => exact ⟨a, b, c, d, rfl⟩
theorem cells_set : Try.prog.cellsOf 24 = 4 := by kernel_rfl
theorem cells_u64 : Try.prog.cellsOf 22 = 1 := by kernel_rfl
theorem nat_u64 {x : Int} (h : (Lit.int .u64 x).wf = true) : ∃ y : Nat, x = (y : Int) ∧ y < 18446744073709551616 := by
  have hb := bounds_u64 h
  obtain ⟨y, rfl⟩ := Int.eq_ofNat_of_zero_le hb.1
  exact ⟨y, rfl, by omega⟩

theorem SetAt.cells4 {w : World} {g : Nat} {f : Nat → Bool} (h : SetAt w g f) : w.cell? ⟨g, 0, none⟩ = some (.int .u64 ((wd f 0 : Nat) : Int)) ∧ w.cell? ⟨g, 1, none⟩ = some (.int .u64 ((wd f 1 : Nat) : Int)) ∧
    w.cell? ⟨g, 2, none⟩ = some (.int .u64 ((wd f 2 : Nat) : Int)) ∧ w.cell? ⟨g, 3, none⟩ = some (.int .u64 ((wd f 3 : Nat) : Int)) := ⟨h.cell 0 (by decide), h.cell 1 (by decide), h.cell 2 (by decide), h.cell 3 (by decide)⟩
section
variable {H : Type} {enc : TypeId × Value → H} {W : World} {held : Bool}
theorem set_trod {fuel : Nat} {c0 c1 c2 c3 : Value} {x : DataW H × List MemPlace} (h : DataW.trod enc Try.prog W 0 (fun _ => true) held fuel 24 [c0, c1, c2, c3] = some x) :
    ∃ f : Nat → Bool, c0 = .int .u64 ((wd f 0 : Nat) : Int) ∧ c1 = .int .u64 ((wd f 1 : Nat) : Int) ∧ c2 = .int .u64 ((wd f 2 : Nat) : Int) ∧ c3 = .int .u64 ((wd f 3 : Nat) : Int) := by
  obtain ⟨y0, y1, y2, y3, m, -, h0, h1, h2, h3⟩ := trod_array4 Try.underlying24 cells_u64 h
  obtain ⟨x0, e0, -, w0⟩ := DataW.trod_int Try.underlying22 h0
  obtain ⟨x1, e1, -, w1⟩ := DataW.trod_int Try.underlying22 h1
  obtain ⟨x2, e2, -, w2⟩ := DataW.trod_int Try.underlying22 h2
  obtain ⟨x3, e3, -, w3⟩ := DataW.trod_int Try.underlying22 h3
  obtain ⟨n0, rfl, b0⟩ := nat_u64 w0
  obtain ⟨n1, rfl, b1⟩ := nat_u64 w1
  obtain ⟨n2, rfl, b2⟩ := nat_u64 w2
  obtain ⟨n3, rfl, b3⟩ := nat_u64 w3
  obtain ⟨f, g0, g1, g2, g3⟩ := set_of n0 n1 n2 n3 b0 b1 b2 b3
  simp only [List.cons.injEq, and_true] at e0 e1 e2 e3
  exact ⟨f, by rw [g0]; exact e0, by rw [g1]; exact e1, by rw [g2]; exact e2, by rw [g3]; exact e3⟩
theorem open_set {v : Value} {d : DataW H} {ps : List MemPlace} {r : Reach} {base : Nat}
    (hv : Value.okWide Try.prog W r base 24 v) (h : DataW.Trod enc Try.prog W 0 (fun _ => true) true 24 v d ps) : ∃ f : Nat → Bool, v = setV f := by
  obtain ⟨cs, rfl, hsz, _⟩ : ∃ cs, v = .agg cs ∧ cs.size = Try.prog.cellsOf 24 ∧ Row.okWide Try.prog W r base 24 cs := by
    simpa [Value.okWide, Try.underlying24] using hv
  rw [cells_set] at hsz
  obtain ⟨l⟩ := cs
  obtain ⟨c0, c1, c2, c3, rfl⟩ := list4 l hsz
  obtain ⟨fuel, hf⟩ := h
  obtain ⟨f, rfl, rfl, rfl, rfl⟩ := set_trod hf
  exact ⟨f, rfl⟩
theorem open_sets {v : Value} {d : DataW H} {ps : List MemPlace} {r : Reach} {base : Nat}
    (hv : Value.okWide Try.prog W r base 41 v) (h : DataW.Trod enc Try.prog W 0 (fun _ => true) true 41 v d ps) :
    ∃ (A : Option Addr) (n cap : Nat) (ss : List (Nat → Bool)), v = .slice A n cap ∧ n = ss.length ∧ n ≤ cap ∧ cap ≤ maxLen ∧ Sets W W.heap.size A ss := by
  obtain ⟨a0, len, cap, rfl⟩ := okWide_slice Try.underlying41 hv
  obtain ⟨fuel, hf⟩ := h
  rcases open_slice Try.underlying41 hf with ⟨hcs, _⟩ | ⟨a, len', cap', m, n, D, Pl, hcs, hb, hl, hm, hmm, hx, hi⟩
  · have e1 : Value.slice a0 len cap = .slice none 0 0 := by simpa [Value.cells] using hcs
    rw [e1]
    exact ⟨none, 0, 0, [], rfl, rfl, Nat.le_refl _, by simp [maxLen], Sets.none_ _ _ _⟩
  · have e1 : Value.slice a0 len cap = .slice (some a) len' cap' := by simpa [Value.cells] using hcs
    rw [e1]
    simp only [if_true] at hmm
    rw [cells_set] at hi
    have key : ∀ i, i < len' → ∃ f : Nat → Bool, ∀ j, j < 4 → W.cell? (a.add (i * 4 + j)) = some (.int .u64 ((wd f j : Nat) : Int)) := by
      intro i hil
      obtain ⟨cs', hc, ht⟩ := hi i (by omega)
      obtain ⟨_, hcl, hat⟩ := World.cells?_some hc
      obtain ⟨c0, c1, c2, c3, rfl⟩ := list4 cs' hcl
      have k0 := hat 0 (by omega)
      have k1 := hat 1 (by omega)
      have k2 := hat 2 (by omega)
      have k3 := hat 3 (by omega)
      rw [add_two] at k0 k1 k2 k3
      obtain ⟨f, rfl, rfl, rfl, rfl⟩ := set_trod ht
      refine ⟨f, fun j hj => ?_⟩
      have : j = 0 ∨ j = 1 ∨ j = 2 ∨ j = 3 := by omega
      rcases this with rfl | rfl | rfl | rfl
      · exact k0
      · exact k1
      · exact k2
      · exact k3
    have hex : ∃ F : Nat → (Nat → Bool), ∀ i, i < len' → ∀ j, j < 4 → W.cell? (a.add (i * 4 + j)) = some (.int .u64 ((wd (F i) j : Nat) : Int)) :=
      ⟨fun i => if hil : i < len' then Classical.choose (key i hil) else fun _ => false, fun i hil => by simp only [dif_pos hil]; exact Classical.choose_spec (key i hil)⟩
    obtain ⟨F, hF⟩ := hex
    refine ⟨some a, len', cap', (List.range len').map F, rfl, by simp, hl, hm, ?_⟩
    intro k hk
    rw [List.length_map, List.length_range] at hk
    have e2 : ((List.range len').map F)[k]'(by simpa using hk) = F k := by simp
    rw [e2]
    refine ⟨a, rfl, ?_, hF k hk⟩
    have := World.block_lt_of_cell? _ _ (hF k hk 0 (by decide))
    rwa [block_add] at this
end
end Go.Proofs.Ytlbfdnejigojhaa
