/- Contract of package match's all. -/
import Derived.Test.YtbgalmnhhjiagaaM48
import Derived.Test.YtbgalmnhhjiagaaM37
import Derived.Test.YtbgalmnhhjiagaaM40
set_option linter.unusedVariables false
set_option linter.unusedSimpArgs false
set_option maxRecDepth 100000
namespace Go.Proofs.Ytbgalmnhhjiagaa
open Go.RowKit
/-- What a call of all turns: the search's block, new blocks. -/
structure AllP (w : World) (S : Nat) (An : Option Addr) (nn cn : Nat) (At : Option Addr) (nt ct : Nat) (ns : List Nod) (t : List UInt8) (a M : Nat) (e : Ending) (w' : World) : Prop where
  gr : Below S w w'
  told : (e = .returned (.bool false) ∧ Told11 ns t ((ns.length : Int) - 1) a M none) ∨ (∃ (b : Option Spn) (left : Nat) (v : Value), e = .returned (.bool true) ∧ Held w' S 52 (srchC An nn cn At nt ct a left v b) ∧ Told11 ns t ((ns.length : Int) - 1) a M (some (b, (left : Int))))
def wtM (S : Nat) (w : World) : Nat := match w.cell? ⟨S, 3, none⟩, w.cell? ⟨S, 4, none⟩ with | some (.int _ z), some (.slice _ n _) => 2 * z.toNat + n | _, _ => 0
/-- While ways wait. -/
structure RelA (w : World) (B S : Nat) (An : Option Addr) (nn cn : Nat) (At : Option Addr) (nt ct : Nat) (ns : List Nod) (t : List UInt8) (g : Int) (a M : Nat) (v : Value) (xs : List Wt) (left c : Nat) (hs : List Pt) (wr : World) : Prop where
  s : Srch wr B S An nn cn At nt ct ns t g a left v xs (bestF none (hs.map (hitS a)))
  gr : Below B w wr
  eq : Eqv ns t [([.node ((ns.length : Int) - 1)], pt0 a)] (xs.map wyW) c hs
  le : left + c = M
  oks : ∀ y ∈ xs, WOK ns t g a (wyW y)
  few : xs.length + left ≤ 1000000
theorem build_way0 (a : Int) (w : World) : (Instr.build 75 #[(0, .int .i64 a), (1, .agg (hitC spNo))]).run Try.prog w = .ok (.agg #[.int .i64 a, .int .i64 (-1), .int .i64 (-1), .int .i64 (-1), .int .i64 (-1), .int .i64 (-1), .int .i64 (-1), .int .i64 (-1), .int .i64 (-1), .int .i64 (-1), .int .i64 (-1), .int .i64 (-1), .int .i64 (-1), .int .i64 (-1), .int .i64 (-1), .int .i64 (-1), .int .i64 (-1), .int .i64 (-1), .int .i64 (-1), .int .i64 (-1), .int .i64 (-1), .pointer none]) w := run_build w _ _ _ (by kernel_rfl)
theorem yields_way0 {ops : Array Oper} {S : World → Prop} {o : Oper} {ac : Act} (a : Nat) (x y : Operand) (hgd : o.guard = none) (ho : o.op = .build 75 #[(0, x), (1, y)]) (hx : ac.eval x = .int .i64 (a : Int)) (hy : ac.eval y = .agg (hitC spNo)) : YieldsIf Try.prog ops S o (.agg (wayC (pt0 a) (.pointer none))) ac :=
  Or.inl ⟨by simp [Region.wanted, hgd], fun w _ => by
    unfold execOp
    simp only [ho, Sem.run_bind, List.map_toArray, List.map_cons, List.map_nil, hx, hy, build_way0, Result.andThen_ok]
    rfl⟩
theorem step_store_way {ops : Array Oper} {o : Oper} {a : Act} {w : World} {K : Act → World → Prop} {Q : Exit → Act → World → Prop} {E : Prop} (x y : Operand) (hgd : o.guard = none) (ho : o.op = .store 75 x y) (O : Nat) (hx : a.eval x = .pointer (some ⟨O, 0, none⟩)) (C : Array Value) (hy : a.eval y = .agg C) (old : Array Value) (hh : Held w O 75 old) (hs : C.size = 22) (ho2 : old.size = 22) (h1 : C.all (·.oneCell') = true)
    (h : K (a.put o.dst undef) (w.setRow O C)) : if Region.wanted o (yielded ops a.tmps) = true then Oper.wp Try.prog o a w K Q else E := by
  have hw : Region.wanted o (yielded ops a.tmps) = true := by simp [Region.wanted, hgd]
  rw [if_pos hw]
  exact wp_store_row 75 x y ho O C hx hy 75 old hh (by rw [hs]; exact way_size22) (by rw [hs, ho2]) h1 h
/-- While the first way is made. -/
def SA1 (S : Nat) (a : Nat) (w w' : World) : Prop := Below w.heap.size w w' ∧ w'.cell? ⟨S, 2, none⟩ = some (.int .i64 (a : Int))
theorem SA1.below {S a : Nat} {w w1 w2 : World} (h : SA1 S a w w1) (hS : S < w.heap.size) (hb : Below w.heap.size w1 w2) : SA1 S a w w2 := ⟨h.1.trans hb, (hb.cell (p := ⟨S, 2, none⟩) hS).trans h.2⟩
section
variable {w w1 w' : World} {B S W : Nat} {An : Option Addr} {nn cn : Nat} {At : Option Addr} {nt ct : Nat} {ns : List Nod} {t : List UInt8} {g : Int} {a M left c : Nat} {v v' : Value} {xs : List Wt} {hs : List Pt} {wr : World} {b : Option Spn} {pv : Value} {p : Pt} {l : List Tsk}
theorem own_slice {w : World} {B n : Nat} {v : Value} {xs : List Value} (h : w.ownsRow B 75 22 v n xs) : ∃ A cap, v = .slice A n cap ∧ n ≤ cap ∧ cap ≤ maxLen ∧ ∀ j u, xs[j]? = some u → ∃ ad, A = some ad ∧ w.cell? (ad.add j) = some u := by
  have hl := h.1
  obtain ⟨-, ⟨rfl, rfl⟩ | ⟨gg, cap, cur, rfl, _, hh, hnc, hcm, hsz, htake⟩⟩ := id h
  · have : xs = [] := by cases xs with | nil => rfl | cons _ _ => simp at hl
    subst this
    exact ⟨none, 0, rfl, Nat.le_refl _, by simp [maxLen], fun j u hj => by simp at hj⟩
  · refine ⟨some ⟨gg, 0, none⟩, cap, rfl, hnc, hcm, fun j u hj => ⟨_, rfl, ?_⟩⟩
    rw [add_zero_off, h.cellAt j (by rw [← hl]; exact (List.getElem?_eq_some_iff.1 hj).1), hj]
theorem wtM_at (h : Srch w B S An nn cn At nt ct ns t g a left v xs b) : wtM S w = 2 * left + xs.length := by
  obtain ⟨A, cap, rfl, -⟩ := own_slice h.own
  unfold wtM
  rw [h.held.at_ (i := 3) (v := .int .i64 (left : Int)) rfl, h.held.at_ (i := 4) (v := .slice A xs.length cap) rfl]
  rfl
end
end Go.Proofs.Ytbgalmnhhjiagaa
