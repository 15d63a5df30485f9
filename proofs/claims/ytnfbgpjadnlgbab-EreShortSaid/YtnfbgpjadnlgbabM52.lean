/- The contract of the law's awake. A set that comes in as an argument. -/
import Derived.Test.YtnfbgpjadnlgbabM51
import Derived.Test.YtnfbgpjadnlgbabProg
import Derived.Test.YtnfbgpjadnlgbabM04
import Derived.Deep.Slices
import Derived.Deep.Fields
import Derived.ChangeSame
import Derived.Laws.IdiomArrays
set_option linter.unusedVariables false
set_option maxRecDepth 100000
namespace Go.Proofs.Ytnfbgpjadnlgbab
open Go.RowKit

/-- The third node of a|b stays an alternative. -/
structure OwnK (w : World) (q k : Nat) (v : Value) : Prop where
  lt : q < w.heap.size
  cell : w.cell? ⟨q, k, none⟩ = some v
theorem OwnK.keep {w w' : World} {q k : Nat} {v : Value} (h : OwnK w q k v) (hb : Below w.heap.size w w') : OwnK w' q k v := ⟨Nat.lt_of_lt_of_le h.lt hb.size, (hb.cell (p := ⟨q, k, none⟩) h.lt).trans h.cell⟩
theorem OwnK.alloc {w : World} {q k : Nat} {v : Value} (h : OwnK w q k v) (o : Obj) : OwnK (w.alloc o) q k v := h.keep ((Below.refl _ _).alloc (Nat.le_refl _) o)
theorem OwnK.mk' {w : World} {B q n cap k : Nat} {v : Value} {ns : List Nod} (h : w.ownsRow B 34 10 (.slice (some ⟨q, 0, none⟩) n cap) n (nodsL ns)) (hk : k < n * 10) (hv : (nodsL ns)[k]? = some v) : OwnK w q k v :=
  ⟨(h.lt q rfl).2, by rw [h.cellAt k hk, hv]⟩
theorem ew1 : EndX [97, 124, 98] (.fin [setN (ofL [97]), setN (ofL [98]), twoN 3 0 1] 0) := endX_fin (k := 12) (by simp) (by rfl)
theorem ew2 : EndX [97, 43] (.fin [setN (ofL [97]), repN 0 1 (-1)] 0) := endX_fin (k := 10) (by simp) (by rfl)
theorem ew3 : EndX [97, 124] (.bad 2 15) := endX_bad (k := 10) (by simp) (by rfl)
set_option maxHeartbeats 8000000 in
theorem awake_ere (w : World) (hm : Mx w) : Calls Try.prog 5 #[] w fun e w' => e = .returned (.bool true) ∧ Below w.heap.size w w' := by
  have hP1 := Lib.hid (show ∀ w, Mx w → Calls Try.prog 6 #[.slice (some ⟨w.heap.size, 0, none⟩) 3 3] (w.alloc (.cells #[.int .u8 97, .int .u8 124, .int .u8 98] 5 (3, 4))) (FinR _ _ 0 3) from fun w hm => eparse_fin (const_inp hm [97, 124, 98] 3 rfl (by decide) (3, 4)) (by decide) ew1 rfl)
  have hP2 := Lib.hid (show ∀ w, Mx w → Calls Try.prog 6 #[.slice (some ⟨w.heap.size, 0, none⟩) 2 2] (w.alloc (.cells #[.int .u8 97, .int .u8 43] 5 (2, 3))) (FinR _ _ 0 2) from fun w hm => eparse_fin (const_inp hm [97, 43] 2 rfl (by decide) (2, 3)) (by decide) ew2 rfl)
  have hP3 := Lib.hid (show ∀ w, Mx w → Calls Try.prog 6 #[.slice (some ⟨w.heap.size, 0, none⟩) 2 2] (w.alloc (.cells #[.int .u8 97, .int .u8 124] 5 (2, 3))) (fun e w' => e = .returned (.tuple #[.agg #[.slice none 0 0, .int .i64 0], .int .i64 2, .int .i64 15]) ∧ Below (w.heap.size + 1) (w.alloc (.cells #[.int .u8 97, .int .u8 124] 5 (2, 3))) w') from fun w hm => by
    have := eparse_bad (const_inp hm [97, 124] 2 rfl (by decide) (2, 3)) (by decide) ew3
    rw [sizeA'] at this
    exact this)
  have hm' := Lib.hid hm
  have kc := fun (w : World) (C : Array Value) (n c : Nat) => Lib.run_convert_bytes_const (P := Try.prog) w 22 5 C n c Try.underlying22 Try.underlying5
  have kc2 := fun (w : World) (o : Obj) (C : Array Value) (n c : Nat) => (by have := kc (w.alloc o) C n c; rw [sizeA'] at this; exact this : (convert 22 22 (.slice (some ⟨w.heap.size + 1, 0, none⟩) n c)).run Try.prog ((w.alloc o).alloc (.cells C 5)) = .ok (.slice (some ⟨w.heap.size + 1, 0, none⟩) n c) ((w.alloc o).alloc (.cells C 5 (C.size, C.size + 1))))
  replace hP2 := Lib.hid (fun (w : World) (o : Obj) (hm : Mx (w.alloc o)) => (by have := hP2.out (w.alloc o) hm; rw [sizeA'] at this; exact this : Calls Try.prog 6 #[.slice (some ⟨w.heap.size + 1, 0, none⟩) 2 2] ((w.alloc o).alloc (.cells #[.int .u8 97, .int .u8 43] 5 (2, 3))) (FinR ((w.alloc o).alloc (.cells #[.int .u8 97, .int .u8 43] 5 (2, 3))) [setN (ofL [97]), repN 0 1 (-1)] 0 2)))
  replace hP3 := Lib.hid (fun (w : World) (o : Obj) (hm : Mx (w.alloc o)) => (by have := hP3.out (w.alloc o) hm; rw [sizeA'] at this; exact this.mono fun e w' h => ⟨h.1, by rw [sizeA', sizeA']; exact h.2⟩ : Calls Try.prog 6 #[.slice (some ⟨w.heap.size + 1, 0, none⟩) 2 2] ((w.alloc o).alloc (.cells #[.int .u8 97, .int .u8 124] 5 (2, 3))) (fun e w' => e = .returned (.tuple #[.agg #[.slice none 0 0, .int .i64 0], .int .i64 2, .int .i64 15]) ∧ Below ((w.alloc o).alloc (.cells #[.int .u8 97, .int .u8 124] 5 (2, 3))).heap.size ((w.alloc o).alloc (.cells #[.int .u8 97, .int .u8 124] 5 (2, 3))) w')))
  clear hm
  go_enter Try.func5, Try.ntmps5
  go_wp2_with (first
    | (go_at_call 6; with_reducible show Calls _ _ _ (World.alloc w _) _; refine (hP1.out _ hm'.out).mono ?_; intro e w1 hy; obtain ⟨q1, c1, rfl, ho1, hb1, hc1, -⟩ := hy.ex; have hL1 := (((Below.refl w.heap.size w).alloc (Nat.le_refl _) _).trans (hb1.mono (le_alloc _ _))); have hR1 := Lib.hid (held_new w1 26 #[(.slice (some ⟨q1, 0, none⟩) 3 c1), .int .i64 0]); have hO1 := Lib.hid ((OwnK.mk' (k := 20) (v := .int .i64 3) ho1 (by decide) rfl).alloc (.cells #[(.slice (some ⟨q1, 0, none⟩) 3 c1), .int .i64 0] 26)); replace hL1 := Lib.hid (hL1.alloc hL1.size (.cells #[(.slice (some ⟨q1, 0, none⟩) 3 c1), .int .i64 0] 26)))
    | (go_at_call 6; with_reducible show Calls _ _ _ (World.alloc (World.alloc w1 _) _) _; refine (hP2.out _ _ (hm'.out.grow hL1.out)).mono ?_; intro e w2 hy; obtain ⟨q2, c2, rfl, ho2, hb2, hc2, -⟩ := hy.ex; have hL2 := hL1.out.trans ((((Below.refl (w1.alloc (.cells #[(.slice (some ⟨q1, 0, none⟩) 3 c1), .int .i64 0] 26)).heap.size (w1.alloc (.cells #[(.slice (some ⟨q1, 0, none⟩) 3 c1), .int .i64 0] 26))).alloc (Nat.le_refl _) _).trans (hb2.mono (le_alloc _ _))).mono hL1.out.size); replace hR1 := Lib.hid (((hR1.out.alloc _).keep hb2).alloc (.cells #[(.slice (some ⟨q2, 0, none⟩) 2 c2), .int .i64 0] 26)); have hR2 := Lib.hid (held_new w2 26 #[(.slice (some ⟨q2, 0, none⟩) 2 c2), .int .i64 0]); replace hO1 := Lib.hid (((hO1.out.alloc _).keep hb2).alloc (.cells #[(.slice (some ⟨q2, 0, none⟩) 2 c2), .int .i64 0] 26)); have hO2 := Lib.hid ((OwnK.mk' (k := 13) (v := .int .i64 1) ho2 (by decide) rfl).alloc (.cells #[(.slice (some ⟨q2, 0, none⟩) 2 c2), .int .i64 0] 26)); replace hL2 := Lib.hid (hL2.alloc hL2.size (.cells #[(.slice (some ⟨q2, 0, none⟩) 2 c2), .int .i64 0] 26)))
    | (go_at_call 6; with_reducible show Calls _ _ _ (World.alloc (World.alloc w2 _) _) _; refine (hP3.out _ _ (hm'.out.grow hL2.out)).mono ?_; intro e w3 hy; obtain ⟨rfl, hb3⟩ := hy; have hL3 := (hL2.out.trans ((((Below.refl (w2.alloc (.cells #[(.slice (some ⟨q2, 0, none⟩) 2 c2), .int .i64 0] 26)).heap.size (w2.alloc (.cells #[(.slice (some ⟨q2, 0, none⟩) 2 c2), .int .i64 0] 26))).alloc (Nat.le_refl _) _).trans (hb3.mono (le_alloc _ _))).mono hL2.out.size)); replace hR1 := Lib.hid (((hR1.out.alloc _).keep hb3).alloc (.cells #[(.slice none 0 0), .int .i64 0] 26)); replace hR2 := Lib.hid (((hR2.out.alloc _).keep hb3).alloc (.cells #[(.slice none 0 0), .int .i64 0] 26)); replace hO1 := Lib.hid (((hO1.out.alloc _).keep hb3).alloc (.cells #[(.slice none 0 0), .int .i64 0] 26)); replace hO2 := Lib.hid (((hO2.out.alloc _).keep hb3).alloc (.cells #[(.slice none 0 0), .int .i64 0] 26)); replace hL3 := Lib.hid (hL3.alloc hL3.size (.cells #[(.slice none 0 0), .int .i64 0] 26)); have z1 := hR1.out.at_ (i := 0) rfl; have z2 := hR2.out.at_ (i := 0) rfl; have z3 := hO1.out.cell; have z4 := hO2.out.cell))
  go_ret
  exact ⟨rfl, hL3.out⟩
end Go.Proofs.Ytnfbgpjadnlgbab

set_option maxRecDepth 100000
namespace Go.Proofs.Ytnfbgpjadnlgbab
open Go.ChangeShapes Go.WideShapes Go.Deep Go.RowKit

theorem list4 {α : Type} (l : List α) (h : l.length = 4) : ∃ a b c d, l = [a, b, c, d] := by
  match l, h with
  | [a, b, c, d], _ => exact ⟨a, b, c, d, rfl⟩
theorem cells_set : Try.prog.cellsOf 32 = 4 := by kernel_rfl
theorem cells_u64 : Try.prog.cellsOf 30 = 1 := by kernel_rfl
theorem nat_u64 {x : Int} (h : (Lit.int .u64 x).wf = true) : ∃ y : Nat, x = (y : Int) ∧ y < 18446744073709551616 := by
  have hb := bounds_u64 h
  obtain ⟨y, rfl⟩ := Int.eq_ofNat_of_zero_le hb.1
  exact ⟨y, rfl, by omega⟩

theorem SetAt.cells4 {w : World} {g : Nat} {f : Nat → Bool} (h : SetAt w g f) : w.cell? ⟨g, 0, none⟩ = some (.int .u64 ((wd f 0 : Nat) : Int)) ∧ w.cell? ⟨g, 1, none⟩ = some (.int .u64 ((wd f 1 : Nat) : Int)) ∧
    w.cell? ⟨g, 2, none⟩ = some (.int .u64 ((wd f 2 : Nat) : Int)) ∧ w.cell? ⟨g, 3, none⟩ = some (.int .u64 ((wd f 3 : Nat) : Int)) := ⟨h.cell 0 (by decide), h.cell 1 (by decide), h.cell 2 (by decide), h.cell 3 (by decide)⟩
section
variable {H : Type} {enc : TypeId × Value → H} {W : World} {held : Bool}
theorem set_trod {fuel : Nat} {c0 c1 c2 c3 : Value} {x : DataW H × List MemPlace} (h : DataW.trod enc Try.prog W 0 (fun _ => true) held fuel 32 [c0, c1, c2, c3] = some x) :
    ∃ f : Nat → Bool, c0 = .int .u64 ((wd f 0 : Nat) : Int) ∧ c1 = .int .u64 ((wd f 1 : Nat) : Int) ∧ c2 = .int .u64 ((wd f 2 : Nat) : Int) ∧ c3 = .int .u64 ((wd f 3 : Nat) : Int) := by
  obtain ⟨y0, y1, y2, y3, m, -, h0, h1, h2, h3⟩ := trod_array4 Try.underlying32 cells_u64 h
  obtain ⟨x0, e0, -, w0⟩ := DataW.trod_int Try.underlying30 h0
  obtain ⟨x1, e1, -, w1⟩ := DataW.trod_int Try.underlying30 h1
  obtain ⟨x2, e2, -, w2⟩ := DataW.trod_int Try.underlying30 h2
  obtain ⟨x3, e3, -, w3⟩ := DataW.trod_int Try.underlying30 h3
  obtain ⟨n0, rfl, b0⟩ := nat_u64 w0
  obtain ⟨n1, rfl, b1⟩ := nat_u64 w1
  obtain ⟨n2, rfl, b2⟩ := nat_u64 w2
  obtain ⟨n3, rfl, b3⟩ := nat_u64 w3
  obtain ⟨f, g0, g1, g2, g3⟩ := set_of n0 n1 n2 n3 b0 b1 b2 b3
  simp only [List.cons.injEq, and_true] at e0 e1 e2 e3
  exact ⟨f, by rw [g0]; exact e0, by rw [g1]; exact e1, by rw [g2]; exact e2, by rw [g3]; exact e3⟩
theorem open_set {v : Value} {d : DataW H} {ps : List MemPlace} {r : Reach} {base : Nat}
    (hv : Value.okWide Try.prog W r base 32 v) (h : DataW.Trod enc Try.prog W 0 (fun _ => true) true 32 v d ps) : ∃ f : Nat → Bool, v = setV f := by
  obtain ⟨cs, rfl, hsz, _⟩ : ∃ cs, v = .agg cs ∧ cs.size = Try.prog.cellsOf 32 ∧ Row.okWide Try.prog W r base 32 cs := by
    simpa [Value.okWide, Try.underlying32] using hv
  rw [cells_set] at hsz
  obtain ⟨l⟩ := cs
  obtain ⟨c0, c1, c2, c3, rfl⟩ := list4 l hsz
  obtain ⟨fuel, hf⟩ := h
  obtain ⟨f, rfl, rfl, rfl, rfl⟩ := set_trod hf
  exact ⟨f, rfl⟩
end
end Go.Proofs.Ytnfbgpjadnlgbab
