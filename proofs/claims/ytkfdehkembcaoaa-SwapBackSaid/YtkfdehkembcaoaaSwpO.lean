/- Parts, a hit, hits: as arguments. -/
import Derived.Test.YtkfdehkembcaoaaSwpS
import Derived.Deep.Slices
import Derived.Deep.Fields
import Derived.ChangeSame
set_option linter.unusedVariables false
set_option maxRecDepth 100000
namespace Go.Proofs.Ytkfdehkembcaoaa
open Go.ChangeShapes Go.WideShapes Go.Deep Go.RowKit

theorem sw_rows {α : Type} [Inhabited α] {R : Nat → α → Prop} {n : Nat} (key : ∀ i, i < n → ∃ x, R i x) : ∃ l : List α, n = l.length ∧ ∀ k (h : k < l.length), R k (l[k]'h) := by
  obtain ⟨f, hf⟩ : ∃ f : Nat → α, ∀ i, i < n → R i (f i) :=
    ⟨fun i => if h : i < n then Classical.choose (key i h) else default, fun i h => by simp only [dif_pos h]; exact Classical.choose_spec (key i h)⟩
  refine ⟨(List.range n).map f, by simp, fun k h => ?_⟩
  have hk : k < n := by simpa using h
  have e : ((List.range n).map f)[k]'h = f k := by simp
  rw [e]; exact hf k hk
theorem sw_cells_int : Try.prog.cellsOf 3 = 1 := by kernel_rfl
theorem sw_cells_prt : Try.prog.cellsOf 45 = 3 := by kernel_rfl
theorem sw_cells_bytes : Try.prog.cellsOf 26 = 1 := by kernel_rfl
theorem sw_cells_span : Try.prog.cellsOf 35 = 2 := by kernel_rfl
theorem sw_cells_ten : Try.prog.cellsOf 36 = 20 := by kernel_rfl
theorem sw_cells_hit : Try.prog.cellsOf 38 = 20 := by kernel_rfl
section
variable {H : Type} {enc : TypeId × Value → H} {W : World} {held : Bool}
theorem sw_bytes {fuel : Nat} {cs : List Value} {x : DataW H × List MemPlace} (h : DataW.trod enc Try.prog W 0 (fun _ => true) held fuel 26 cs = some x) : ∃ v l, cs = [v] ∧ BytV W W.heap.size v l := by
  rcases open_ints Try.underlying26 Try.underlying5 (by kernel_rfl) h with ⟨hcs, _⟩ | ⟨a, len, cap, zs, hcs, _, hl, hm, hz, _, hcell, hw⟩
  · exact ⟨_, [], hcs, BytV.nil _ _⟩
  · simp only [if_true] at hz
    refine ⟨_, (zs.take len).map fun z => UInt8.ofNat z.toNat, hcs, some a, len, cap, rfl, by rw [List.length_map, List.length_take]; omega, hl, hm, ?_⟩
    intro j hj
    rw [List.length_map, List.length_take] at hj
    have hjz : j < zs.length := by omega
    have h1 := hcell j hjz
    refine ⟨a, rfl, ?_, ?_⟩
    · have := World.block_lt_of_cell? _ _ h1
      rwa [block_add] at this
    · have hb := bounds_u8 (hw _ (List.getElem_mem hjz))
      have e1 : zs.getD j 0 = zs[j]'hjz := by simp [List.getD, hjz]
      have e2 : (zs.take len)[j]'(by rw [List.length_take]; omega) = zs[j]'hjz := List.getElem_take
      rw [h1, e1, List.getElem_map, e2]
      generalize zs[j]'hjz = z at hb
      obtain ⟨y, rfl⟩ := Int.eq_ofNat_of_zero_le hb.1
      simp only [Int.toNat_natCast, UInt8.toNat_ofNat', Option.some.injEq, Value.int.injEq, true_and]
      omega
theorem prt_trod {fuel : Nat} {cs : List Value} {x : DataW H × List MemPlace} (h : DataW.trod enc Try.prog W 0 (fun _ => true) held fuel 45 cs = some x) : ∃ k g v b, cs = [.int .i64 k, .int .i64 g, v] ∧ BytV W W.heap.size v b := by
  obtain ⟨xs, n', -, -, hlen, hxl, hfl⟩ := DataW.trod_struct Try.underlying45 h
  rw [sw_cells_prt] at hlen
  match cs, hlen with
  | [c0, c1, c2], _ =>
    match xs, hxl with
    | [y0, y1, y2], _ =>
      have f0 := hfl 0 _ rfl
      have f1 := hfl 1 _ rfl
      have f2 := hfl 2 _ rfl
      obtain ⟨z0, h0, -⟩ := DataW.trod_int Try.underlying3 f0
      obtain ⟨z1, h1, -⟩ := DataW.trod_int Try.underlying3 f1
      obtain ⟨v, l, h2, h5⟩ := sw_bytes f2
      have h0 : List.take (Try.prog.cellsOf 3) [c0, c1, c2] = [Value.int .i64 z0] := h0
      have h1 : List.take (Try.prog.cellsOf 3) [c1, c2] = [Value.int .i64 z1] := h1
      have h2 : List.take (Try.prog.cellsOf 26) [c2] = [v] := h2
      rw [sw_cells_int] at h0 h1
      rw [sw_cells_bytes] at h2
      simp only [List.take_succ_cons, List.take_zero, List.cons.injEq, and_true] at h0 h1 h2
      exact ⟨z0, z1, v, l, by rw [h0, h1, h2], h5⟩
theorem hit_trod {fuel : Nat} {cs : List Value} {x : DataW H × List MemPlace} (h : DataW.trod enc Try.prog W 0 (fun _ => true) held fuel 38 cs = some x) : ∃ s : Spn, cs = hitL s := by
  obtain ⟨xs, n', -, -, hlen, hxl, hfl⟩ := DataW.trod_struct Try.underlying38 h
  rw [sw_cells_hit] at hlen
  match xs, hxl with
  | [y0], _ =>
    have f0 := hfl 0 _ rfl
    have f0 : DataW.trod enc Try.prog W 0 (fun _ => true) held n' 36 (List.take (Try.prog.cellsOf 36) cs) = some y0 := f0
    rw [sw_cells_ten, List.take_of_length_le (by omega)] at f0
    obtain ⟨ys, m, -, -, -, hyl, hya⟩ := DataW.trod_array Try.underlying36 f0
    have key : ∀ i, i < 10 → ∃ q : Int × Int, (cs.drop (i * 2)).take 2 = [.int .i64 q.1, .int .i64 q.2] := fun i hi => by
      have h1 := hya i hi
      rw [sw_cells_span, List.getElem?_eq_getElem (by omega)] at h1
      obtain ⟨zs, m', -, -, hzl, hzl2, hz⟩ := DataW.trod_struct Try.underlying35 h1
      rw [sw_cells_span] at hzl
      generalize (cs.drop (i * 2)).take 2 = ds at *
      match ds, hzl with
      | [d0, d1], _ =>
        match zs, hzl2 with
        | [e0, e1], _ =>
          have g0 := hz 0 _ rfl
          have g1 := hz 1 _ rfl
          obtain ⟨z0, k0, -⟩ := DataW.trod_int Try.underlying3 g0
          obtain ⟨z1, k1, -⟩ := DataW.trod_int Try.underlying3 g1
          have k0 : List.take (Try.prog.cellsOf 3) [d0, d1] = [Value.int .i64 z0] := k0
          have k1 : List.take (Try.prog.cellsOf 3) [d1] = [Value.int .i64 z1] := k1
          rw [sw_cells_int] at k0 k1
          simp only [List.take_succ_cons, List.take_zero, List.cons.injEq, and_true] at k0 k1
          exact ⟨(z0, z1), by rw [k0, k1]⟩
    obtain ⟨f, hf⟩ : ∃ f : Nat → Int × Int, ∀ i, i < 10 → (cs.drop (i * 2)).take 2 = [.int .i64 (f i).1, .int .i64 (f i).2] :=
      ⟨fun i => if h : i < 10 then Classical.choose (key i h) else (0, 0), fun i h => by simp only [dif_pos h]; exact Classical.choose_spec (key i h)⟩
    refine ⟨f, List.ext_getElem? fun j => ?_⟩
    by_cases hj : j < 20
    · have hi : j / 2 < 10 := by omega
      have h2 := hf (j / 2) hi
      have h3 : cs[j]? = ((cs.drop (j / 2 * 2)).take 2)[j % 2]? := by
        rw [List.getElem?_take_of_lt (by omega), List.getElem?_drop, show j / 2 * 2 + j % 2 = j by omega]
      rw [h3, h2]
      rcases Nat.mod_two_eq_zero_or_one j with h0 | h0
      · rw [h0, show j = 2 * (j / 2) by omega, hitL_from f (by omega)]
        have : 2 * (j / 2) / 2 = j / 2 := by omega
        rw [this]; rfl
      · rw [h0, show j = 2 * (j / 2) + 1 by omega, hitL_to f (by omega)]
        have : (2 * (j / 2) + 1) / 2 = j / 2 := by omega
        rw [this]; rfl
    · rw [List.getElem?_eq_none (by omega), List.getElem?_eq_none (by rw [hitL_len]; omega)]
variable {v : Value} {d : DataW H} {ps : List MemPlace} {r : Reach} {base : Nat}
theorem open_parts (hv : Value.okWide Try.prog W r base 22 v) (h : DataW.Trod enc Try.prog W 0 (fun _ => true) true 22 v d ps) :
    ∃ (A : Option Addr) (n cap : Nat) (l : List Prt), v = .slice A n cap ∧ n = l.length ∧ n ≤ cap ∧ cap ≤ maxLen ∧ Prts W W.heap.size A l := by
  obtain ⟨a0, len, cap, rfl⟩ := okWide_slice Try.underlying22 hv
  obtain ⟨fuel, hf⟩ := h
  rcases open_slice Try.underlying22 hf with ⟨hcs, _⟩ | ⟨a, len', cap', m, n, D, Pl, hcs, hb, hl, hm, hmm, hx, hi⟩
  · have e1 : Value.slice a0 len cap = .slice none 0 0 := by simpa [Value.cells] using hcs
    rw [e1]
    exact ⟨none, 0, 0, [], rfl, rfl, Nat.le_refl _, by simp [maxLen], Prts.none_ _ _ _⟩
  · have e1 : Value.slice a0 len cap = .slice (some a) len' cap' := by simpa [Value.cells] using hcs
    rw [e1]
    simp only [if_true] at hmm
    rw [sw_cells_prt] at hi
    obtain ⟨l, hl1, hl2⟩ := sw_rows (α := Prt) (R := fun i x => ∃ v, W.cell? (a.add (i * 3)) = some (.int .i64 x.kind) ∧ W.cell? ⟨(a.add (i * 3)).block, (a.add (i * 3)).off + 1, none⟩ = some (.int .i64 x.grp) ∧ W.cell? ⟨(a.add (i * 3)).block, (a.add (i * 3)).off + 2, none⟩ = some v ∧ BytV W W.heap.size v x.b) (n := len') (fun i hil => by
      obtain ⟨cs', hc, ht⟩ := hi i (by omega)
      obtain ⟨_, hcl, hat⟩ := World.cells?_some hc
      obtain ⟨k, g, v, b, rfl, hb⟩ := prt_trod ht
      have k0 := hat 0 (by omega)
      have k1 := hat 1 (by omega)
      have k2 := hat 2 (by omega)
      refine ⟨⟨k, g, b⟩, v, ?_, ?_, ?_, hb⟩
      · rw [add_zero_] at k0; exact k0
      · rw [add_one_] at k1; exact k1
      · unfold Addr.add at k2 ⊢; exact k2)
    refine ⟨some a, len', cap', l, rfl, hl1, hl, hm, fun k hk => ?_⟩
    obtain ⟨v, g0, g1, g2, g3⟩ := hl2 k hk
    exact ⟨a, v, rfl, by have := World.block_lt_of_cell? _ _ g0; rwa [block_add] at this, g0, g1, g2, g3⟩
theorem open_hits (hv : Value.okWide Try.prog W r base 42 v) (h : DataW.Trod enc Try.prog W 0 (fun _ => true) true 42 v d ps) :
    ∃ (A : Option Addr) (n cap : Nat) (l : List Spn), v = .slice A n cap ∧ n = l.length ∧ n ≤ cap ∧ cap ≤ maxLen ∧ Hts W W.heap.size A l := by
  obtain ⟨a0, len, cap, rfl⟩ := okWide_slice Try.underlying42 hv
  obtain ⟨fuel, hf⟩ := h
  rcases open_slice Try.underlying42 hf with ⟨hcs, _⟩ | ⟨a, len', cap', m, n, D, Pl, hcs, hb, hl, hm, hmm, hx, hi⟩
  · have e1 : Value.slice a0 len cap = .slice none 0 0 := by simpa [Value.cells] using hcs
    rw [e1]
    exact ⟨none, 0, 0, [], rfl, rfl, Nat.le_refl _, by simp [maxLen], Hts.none_ _ _ _⟩
  · have e1 : Value.slice a0 len cap = .slice (some a) len' cap' := by simpa [Value.cells] using hcs
    rw [e1]
    simp only [if_true] at hmm
    rw [sw_cells_hit] at hi
    letI : Inhabited Spn := ⟨sp00⟩
    obtain ⟨l, hl1, hl2⟩ := sw_rows (α := Spn) (R := fun i x => ∃ bb oo, a.add (i * 20) = ⟨bb, oo, none⟩ ∧ bb < W.heap.size ∧ W.rangeAt bb oo (hitL x)) (n := len') (fun i hil => by
      obtain ⟨cs', hc, ht⟩ := hi i (by omega)
      obtain ⟨_, hcl, hat⟩ := World.cells?_some hc
      obtain ⟨s, rfl⟩ := hit_trod ht
      have k0 := hat 0 (by omega)
      rw [add_zero_, show (hitL s)[0]? = some (.int .i64 (s 0).1) from rfl] at k0
      have hsp : (a.add (i * 20)).spot = none := by
        have k := k0
        unfold World.cell? at k
        split at k
        · split at k
          · cases k
          · simpa using ‹¬ (a.add (i * 20)).spot.isSome = true›
        · cases k
      have e : a.add (i * 20) = ⟨(a.add (i * 20)).block, (a.add (i * 20)).off, none⟩ := by rw [← hsp]
      refine ⟨s, _, _, e, World.block_lt_of_cell? _ _ k0, fun j u hj => ?_⟩
      have hj20 : j < 20 := by have := (List.getElem?_eq_some_iff.1 hj).1; rwa [hitL_len] at this
      have := hat j hj20
      rw [hj, e, Addr.add_mid] at this
      exact this)
    refine ⟨some a, len', cap', l, rfl, hl1, hl, hm, fun k hk => ?_⟩
    obtain ⟨bb, oo, g0, g1, g2⟩ := hl2 k hk
    exact ⟨a, bb, oo, rfl, g0, g1, g2⟩
theorem open_hit (hv : Value.okWide Try.prog W r base 38 v) (h : DataW.Trod enc Try.prog W 0 (fun _ => true) true 38 v d ps) : ∃ s : Spn, v = .agg (hitC s) := by
  obtain ⟨cs, rfl, hsz⟩ := okWide_struct Try.underlying38 hv
  obtain ⟨fuel, hf⟩ := h
  obtain ⟨s, e⟩ := hit_trod hf
  obtain ⟨l⟩ := cs
  have e' : l = hitL s := e
  subst e'
  exact ⟨s, rfl⟩
end
end Go.Proofs.Ytkfdehkembcaoaa
