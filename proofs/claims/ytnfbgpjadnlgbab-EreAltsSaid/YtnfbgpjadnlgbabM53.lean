/- A regular expression that comes in as an argument. What comes out of ere.Parse, where the end is known. -/
import Derived.Test.YtnfbgpjadnlgbabM52
import Derived.Test.YtnfbgpjadnlgbabM05
set_option maxRecDepth 100000
namespace Go.Proofs.Ytnfbgpjadnlgbab
open Go.ChangeShapes Go.WideShapes Go.Deep Go.RowKit

theorem list10 {α : Type} (l : List α) (h : l.length = 10) : ∃ a b c d e f g i j k, l = [a, b, c, d, e, f, g, i, j, k] := by
  match l, h with
  | [a, b, c, d, e, f, g, i, j, k], _ => exact ⟨a, b, c, d, e, f, g, i, j, k, rfl⟩
theorem cells_int1 : Try.prog.cellsOf 3 = 1 := by kernel_rfl
theorem cells_nod : Try.prog.cellsOf 34 = 10 := by kernel_rfl
theorem cells_re : Try.prog.cellsOf 26 = 2 := by kernel_rfl
theorem cells_nods : Try.prog.cellsOf 24 = 1 := by kernel_rfl
section
variable {H : Type} {enc : TypeId × Value → H} {W : World} {held : Bool}
theorem fld_at {fs : Array Field} {f : Field} {t : TypeId} {o k : Nat} {cs : List Value} {xs : List (DataW H × List MemPlace)} {n c : Nat} (hf : ∀ (i : Nat) (f : Field), fs[i]? = some f → DataW.trod enc Try.prog W 0 (fun _ => true) held n f.type ((cs.drop f.offset).take (Try.prog.cellsOf f.type)) = xs[i]?)
    (hl : xs.length = fs.size) (hk : fs[k]? = some f) (h : fldK f = (true, t, o)) (hc : Try.prog.cellsOf t = c) : ∃ y, DataW.trod enc Try.prog W 0 (fun _ => true) held n t ((cs.drop o).take c) = some y := by
  simp only [fldK, Prod.mk.injEq] at h
  obtain ⟨-, rfl, rfl⟩ := h
  have := hf k f hk
  rw [hc] at this
  have hlt : k < xs.length := by rw [hl]; exact (Array.getElem?_eq_some_iff.1 hk).1
  rw [List.getElem?_eq_getElem hlt] at this
  exact ⟨_, this⟩
theorem nod_trod {fuel : Nat} {cs : List Value} {x : DataW H × List MemPlace} (h : DataW.trod enc Try.prog W 0 (fun _ => true) held fuel 34 cs = some x) : ∃ n : Nod, cs = nodL n := by
  obtain ⟨xs, m, -, -, hlen, hxl, hf⟩ := DataW.trod_struct under_nod h
  rw [cells_nod] at hlen
  obtain ⟨c0, c1, c2, c3, c4, c5, c6, c7, c8, c9, rfl⟩ := list10 cs hlen
  have hfl := flds_nod
  have hsz : (Try.prog.fieldsOf 34).toList.length = (Try.prog.fieldsOf 34).size := by simp
  have hat : ∀ (j : Nat), (Try.prog.fieldsOf 34)[j]? = (Try.prog.fieldsOf 34).toList[j]? := fun j => by simp
  generalize (Try.prog.fieldsOf 34) = F at *
  generalize hL : F.toList = L at *
  match L, (show L.length = 7 by have := congrArg List.length hfl; simpa using this), hfl with
  | [f0, f1, f2, f3, f4, f5, f6], _, hfl =>
    simp only [List.map_cons, List.map_nil, List.cons.injEq, and_true] at hfl
    obtain ⟨h0, h1, h2, h3, h4, h5, h6⟩ := hfl
    obtain ⟨y0, q0⟩ := fld_at hf hxl (by rw [hat 0]; rfl) h0 cells_int1
    obtain ⟨y1, q1⟩ := fld_at hf hxl (by rw [hat 1]; rfl) h1 cells_int1
    obtain ⟨y2, q2⟩ := fld_at hf hxl (by rw [hat 2]; rfl) h2 cells_int1
    obtain ⟨y3, q3⟩ := fld_at hf hxl (by rw [hat 3]; rfl) h3 cells_int1
    obtain ⟨y4, q4⟩ := fld_at hf hxl (by rw [hat 4]; rfl) h4 cells_int1
    obtain ⟨y5, q5⟩ := fld_at hf hxl (by rw [hat 5]; rfl) h5 cells_int1
    obtain ⟨y6, q6⟩ := fld_at hf hxl (by rw [hat 6]; rfl) h6 cells_set
    obtain ⟨k, e0, -⟩ := DataW.trod_int Try.underlying3 q0
    obtain ⟨a, e1, -⟩ := DataW.trod_int Try.underlying3 q1
    obtain ⟨b, e2, -⟩ := DataW.trod_int Try.underlying3 q2
    obtain ⟨lo, e3, -⟩ := DataW.trod_int Try.underlying3 q3
    obtain ⟨hi, e4, -⟩ := DataW.trod_int Try.underlying3 q4
    obtain ⟨gr, e5, -⟩ := DataW.trod_int Try.underlying3 q5
    obtain ⟨s, e6, e7, e8, e9⟩ := set_trod (c0 := c6) (c1 := c7) (c2 := c8) (c3 := c9) q6
    simp only [List.drop_zero, List.drop_succ_cons, List.take_succ_cons, List.take_zero, List.cons.injEq, and_true] at e0 e1 e2 e3 e4 e5
    exact ⟨⟨k, a, b, lo, hi, gr, s⟩, by rw [e0, e1, e2, e3, e4, e5, e6, e7, e8, e9]; rfl⟩
theorem nods_trod {fuel : Nat} {cs : List Value} {x : DataW H × List MemPlace} (h : DataW.trod enc Try.prog W 0 (fun _ => true) true fuel 24 cs = some x) :
    ∃ (A : Option Addr) (n cap : Nat) (ns : List Nod), cs = [.slice A n cap] ∧ n = ns.length ∧ n ≤ cap ∧ cap ≤ maxLen ∧ Nods W W.heap.size A ns := by
  rcases open_slice Try.underlying24 h with ⟨hcs, _⟩ | ⟨a, len', cap', m, n, D, Pl, hcs, hb, hl, hm, hmm, hx, hi⟩
  · exact ⟨none, 0, 0, [], hcs, rfl, Nat.le_refl _, by simp [maxLen], Nods.none_ _ _ _⟩
  · simp only [if_true] at hmm
    rw [cells_nod] at hi
    have key : ∀ i, i < len' → ∃ nd : Nod, ∀ j u, (nodL nd)[j]? = some u → W.cell? (a.add (i * 10 + j)) = some u := by
      intro i hil
      obtain ⟨cs', hc, ht⟩ := hi i (by omega)
      obtain ⟨_, hcl, hat⟩ := World.cells?_some hc
      obtain ⟨nd, rfl⟩ := nod_trod ht
      refine ⟨nd, fun j u hj => ?_⟩
      have hj10 : j < 10 := by have := (List.getElem?_eq_some_iff.1 hj).1; rwa [nodL_len] at this
      have := hat j hj10
      rw [add_two, hj] at this
      exact this
    have hex : ∃ F : Nat → Nod, ∀ i, i < len' → ∀ j u, (nodL (F i))[j]? = some u → W.cell? (a.add (i * 10 + j)) = some u :=
      ⟨fun i => if hil : i < len' then Classical.choose (key i hil) else ⟨0, 0, 0, 0, 0, 0, zset⟩, fun i hil => by simp only [dif_pos hil]; exact Classical.choose_spec (key i hil)⟩
    obtain ⟨F, hF⟩ := hex
    refine ⟨some a, len', cap', (List.range len').map F, hcs, by simp, hl, hm, ?_⟩
    intro k hk
    rw [List.length_map, List.length_range] at hk
    have e2 : ((List.range len').map F)[k]'(by simpa using hk) = F k := by simp
    rw [e2]
    refine ⟨a, rfl, ?_, hF k hk⟩
    have := World.block_lt_of_cell? _ _ (hF k hk 0 _ rfl)
    rwa [block_add] at this
theorem under_re : Try.prog.underlying 26 = some (.struct (Try.prog.fieldsOf 26)) := by kernel_rfl
theorem flds_re : (Try.prog.fieldsOf 26).toList.map fldK = [(true, 24, 0), (true, 3, 1)] := by kernel_rfl
theorem re_trod {fuel : Nat} {cs : List Value} {x : DataW H × List MemPlace} (h : DataW.trod enc Try.prog W 0 (fun _ => true) true fuel 26 cs = some x) :
    ∃ (A : Option Addr) (n cap : Nat) (ns : List Nod) (g : Int), cs = [.slice A n cap, .int .i64 g] ∧ n = ns.length ∧ n ≤ cap ∧ cap ≤ maxLen ∧ Nods W W.heap.size A ns := by
  obtain ⟨xs, m, -, -, hlen, hxl, hf⟩ := DataW.trod_struct under_re h
  rw [cells_re] at hlen
  obtain ⟨c0, c1, rfl⟩ : ∃ c0 c1, cs = [c0, c1] := by
    match cs, hlen with
    | [c0, c1], _ => exact ⟨c0, c1, rfl⟩
  have hfl := flds_re
  have hat : ∀ (j : Nat), (Try.prog.fieldsOf 26)[j]? = (Try.prog.fieldsOf 26).toList[j]? := fun j => by simp
  generalize (Try.prog.fieldsOf 26) = F at *
  generalize hL : F.toList = L at *
  match L, (show L.length = 2 by have := congrArg List.length hfl; simpa using this), hfl with
  | [f0, f1], _, hfl =>
    simp only [List.map_cons, List.map_nil, List.cons.injEq, and_true] at hfl
    obtain ⟨h0, h1⟩ := hfl
    obtain ⟨y0, q0⟩ := fld_at hf hxl (by rw [hat 0]; rfl) h0 cells_nods
    obtain ⟨y1, q1⟩ := fld_at hf hxl (by rw [hat 1]; rfl) h1 cells_int1
    obtain ⟨A, n, cap, ns, e0, r1, r2, r3, r4⟩ := nods_trod q0
    obtain ⟨g, e1, -⟩ := DataW.trod_int Try.underlying3 q1
    simp only [List.drop_zero, List.drop_succ_cons, List.take_succ_cons, List.take_zero, List.cons.injEq, and_true] at e0 e1
    exact ⟨A, n, cap, ns, g, by rw [e0, e1], r1, r2, r3, r4⟩
theorem open_re {v : Value} {d : DataW H} {ps : List MemPlace} {r : Reach} {base : Nat}
    (hv : Value.okWide Try.prog W r base 26 v) (h : DataW.Trod enc Try.prog W 0 (fun _ => true) true 26 v d ps) :
    ∃ (A : Option Addr) (n cap : Nat) (ns : List Nod) (g : Int), v = .agg #[.slice A n cap, .int .i64 g] ∧ n = ns.length ∧ n ≤ cap ∧ cap ≤ maxLen ∧ Nods W W.heap.size A ns := by
  obtain ⟨cs, rfl, hsz⟩ := okWide_struct under_re hv
  obtain ⟨fuel, hf⟩ := h
  obtain ⟨A, n, cap, ns, g, e, r1, r2, r3, r4⟩ := re_trod hf
  obtain ⟨l⟩ := cs
  have e' : l = [.slice A n cap, .int .i64 g] := e
  subst e'
  exact ⟨A, n, cap, ns, g, rfl, r1, r2, r3, r4⟩
end
end Go.Proofs.Ytnfbgpjadnlgbab

set_option linter.unusedVariables false
set_option maxRecDepth 100000
namespace Go.Proofs.Ytnfbgpjadnlgbab
open Go.RowKit

theorem fin_outE {w w' : World} {l : List UInt8} {ns : List Nod} {g : Nat} {e : Ending} (he : EndX l (.fin ns g)) (h : PResE w l e w') :
    ∃ A cap, e = .returned (.tuple #[.agg #[.slice A ns.length cap, .int .i64 (g : Int)], .int .i64 0, .int .i64 0]) ∧ rightN ns (g : Int) = true ∧ ns.length ≤ cap ∧ cap ≤ maxLen ∧ Nods w' w'.heap.size A ns ∧ Below w.heap.size w w' := by
  rcases h with ⟨v, ns', g', e1, h1, h2, h3, h4⟩ | ⟨p, q, _, _, h1, _⟩
  · have := h1.det he
    injection this with e2 e3
    subst e2
    subst e3
    obtain ⟨A, cap, rfl, _, h5, h6, h7⟩ := own_nods h3
    exact ⟨A, cap, e1, h2, h5, h6, h7, h4⟩
  · cases h1.det he
theorem bad_outE {w w' : World} {l : List UInt8} {p q : Nat} {e : Ending} (he : EndX l (.bad p q)) (h : PResE w l e w') :
    e = .returned (.tuple #[.agg #[.slice none 0 0, .int .i64 0], .int .i64 (p : Int), .int .i64 (q : Int)]) ∧ Below w.heap.size w w' := by
  rcases h with ⟨v, ns', g', e1, h1, h2, h3, h4⟩ | ⟨p', q', _, e1, h1, h2⟩
  · cases h1.det he
  · have := h1.det he
    injection this with e2 e3
    subst e2
    subst e3
    exact ⟨e1, h2⟩
theorem prese_ends {w w' : World} {l : List UInt8} {e : Ending} (h : PResE w l e w') : (∃ ns g, EndX l (.fin ns g)) ∨ (∃ p q : Nat, q ≠ 0 ∧ EndX l (.bad p q)) := by
  rcases h with ⟨v, ns', g', e1, h1, _⟩ | ⟨p', q', h0, e1, h1, h2⟩
  · exact .inl ⟨ns', g', h1⟩
  · exact .inr ⟨p', q', h0, h1⟩
end Go.Proofs.Ytnfbgpjadnlgbab
