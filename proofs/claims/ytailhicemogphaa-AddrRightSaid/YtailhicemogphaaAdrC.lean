/- What is asked (asked of palinodelaw15): find, look. -/
import Derived.Test.YtailhicemogphaaAdrB
import Derived.Test.YtailhicemogphaaGrwA
import Derived.BigQuiet
import Derived.Laws.EntriesVeiled
import Derived.Deep.CutRange
set_option linter.unusedVariables false
set_option linter.unusedSimpArgs false
set_option maxRecDepth 100000
namespace Go.Proofs.Ytailhicemogphaa
open Go.RowKit

def askC (line : Int) (last : Bool) (A : Option Addr) (n c : Nat) (k m : Int) : Array Value := #[.int .i64 line, .bool last, .slice A n c, .int .i64 k, .int .i64 m]
/-- What is found. -/
def findS (bs : List Bool) (r : Int) : Bool × Int := if r < 0 ∨ (bs.length : Int) ≤ r then (true, 27) else (bs.getD r.toNat false, 0)
set_option maxHeartbeats 4000000 in
theorem find_any {w : World} {K B : Nat} {line : Int} {last : Bool} {A : Option Addr} {n c : Nat} {bs : List Bool} {k : Nat} {m : Int} (re : Int) (h : Held w K 31 (askC line last A n c k m)) (hn : n = bs.length) (hc : n ≤ c) (hm : c ≤ maxLen) (hb : Vals w B A (bs.map Value.bool)) (hB : B ≤ K) (hk : k < 1000) :
    Calls Try.prog 16 #[.pointer (some ⟨K, 0, none⟩), .int .i64 re] w fun e w' => e = .returned (.tuple #[.bool (findS bs re).1, .int .i64 (findS bs re).2]) ∧ Held w' K 31 (askC line last A n c (k + 1 : Nat) re) ∧ w.grownBy w' (some K) := by
  have hfin := Lib.hid (show Held ((w.setCell ⟨K, 3, none⟩ (.int .i64 ((k : Int) + 1))).setCell ⟨K, 4, none⟩ (.int .i64 re)) K 31 (askC line last A n c (k + 1 : Nat) re) ∧ w.grownBy ((w.setCell ⟨K, 3, none⟩ (.int .i64 ((k : Int) + 1))).setCell ⟨K, 4, none⟩ (.int .i64 re)) (some K) from
    ⟨(h.put 3 (.int .i64 ((k : Int) + 1))).put 4 (.int .i64 re), grown_two (cur_grown w K 3 _) (cur_grown _ K 4 _)⟩)
  have hw2 := (h.put 3 (.int .i64 ((k : Int) + 1))).put 4 (.int .i64 re)
  have c3 := h.at_ (i := 3) (v := .int .i64 (k : Int)) rfl
  have c4 := h.at_ (i := 4) (v := .int .i64 m) rfl
  have f3 := h.thawed 3
  have f4 := (h.put 3 (.int .i64 ((k : Int) + 1))).thawed 4
  have c2 := hw2.at_ (i := 2) (v := .slice A n c) rfl
  have hb2 := hb.below ((grown_below hfin.out.2 h.lt).mono hB)
  generalize hw' : (w.setCell ⟨K, 3, none⟩ (.int .i64 ((k : Int) + 1))).setCell ⟨K, 4, none⟩ (.int .i64 re) = w' at *
  have hw'h := Lib.hid hw'
  clear hw' hw2 hb h
  generalize hR : findS bs re = R
  unfold findS at hR
  obtain ⟨R1, R2⟩ := R
  have hRh := Lib.hid hR
  clear hR
  subst hn
  by_cases hr : re < 0 ∨ (bs.length : Int) ≤ re
  · rw [if_pos hr] at hRh
    clear hb2
    go_enter Try.func16, Try.ntmps16
    go_upto_region 3 with fail
    rw [hw'h.out]
    go_wp2
    all_goals (go_ret2; exact ⟨ret_be hRh.out, hfin.out⟩)
  · rw [if_neg hr] at hRh
    obtain ⟨i, rfl⟩ := Int.eq_ofNat_of_zero_le (show 0 ≤ re by omega)
    have hi : i < bs.length := by omega
    obtain ⟨ad, rfl, hlt, hcell⟩ := hb2.bool hi
    clear hb2
    rw [show ((i : Int).toNat) = i from rfl] at hRh
    generalize bs.getD i false = b at *
    go_enter Try.func16, Try.ntmps16
    go_upto_region 3 with fail
    rw [hw'h.out]
    go_wp2
    all_goals (go_ret2; exact ⟨ret_be hRh.out, hfin.out⟩)
def lookV (line : Int) (last : Bool) (K : Nat) : Value := .agg #[.int .i64 line, .bool last, .func (.func 16) #[.pointer (some ⟨K, 0, none⟩)] #[]]
theorem eql_fn_nil (f : Fn) (a c : Array Value) (w : World) : (binOp .eql 35 (.func f a c) .nilFunc).run Try.prog w = .ok (.bool false) w := by rfl
theorem neq_fn_nil (f : Fn) (a c : Array Value) (w : World) : (binOp .neq 35 (.func f a c) .nilFunc).run Try.prog w = .ok (.bool true) w := by rfl
theorem eql_nil_nil (w : World) : (binOp .eql 35 .nilFunc .nilFunc).run Try.prog w = .ok (.bool true) w := by rfl
theorem neq_nil_nil (w : World) : (binOp .neq 35 .nilFunc .nilFunc).run Try.prog w = .ok (.bool false) w := by rfl
set_option maxHeartbeats 4000000 in
theorem look_any {w : World} {K : Nat} {line : Int} {last : Bool} {A : Option Addr} {n c : Nat} {k m : Int} (h : Held w K 31 (askC line last A n c k m)) :
    Calls Try.prog 12 #[.pointer (some ⟨K, 0, none⟩)] w fun e w' => e = .returned (lookV line last K) ∧ Below w.heap.size w w' := by
  have hmf : ∀ (fn : Fn) (first cap : Array Value) (w : World), (Instr.makeFunc fn first cap).run Try.prog w = .ok (.func fn first cap) w := fun _ _ _ _ => rfl
  have h1 := h.alloc (.cells #[.int .i64 0, .bool false, .nilFunc] 37)
  have hN := held_new w 37 #[.int .i64 0, .bool false, .nilFunc]
  have hb := Lib.hid ((Below.refl w.heap.size w).alloc (Nat.le_refl _) (.cells #[.int .i64 0, .bool false, .nilFunc] 37))
  unfold lookV
  go_enter Try.func12, Try.ntmps12
  go_upto_region 1 with fail
  generalize w.alloc (.cells #[.int .i64 0, .bool false, .nilFunc] 37) = w1 at *
  have c0 := h1.at_ (i := 0) (v := .int .i64 line) rfl
  have c1 := h1.at_ (i := 1) (v := .bool last) rfl
  have d0 := hN.at_ (i := 0) (v := .int .i64 0) rfl
  have d1 := hN.at_ (i := 1) (v := .bool false) rfl
  have d2 := hN.at_ (i := 2) (v := .nilFunc) rfl
  have g0 := hN.thawed 0
  have g1 := hN.thawed 1
  have g2 := hN.thawed 2
  go_region
  all_goals (try go_wp2)
  all_goals exact bodyPost_ret (v := .agg #[.int .i64 line, .bool last, .func (.func 16) #[.pointer (some ⟨K, 0, none⟩)] #[]]) (results_cell_row Try.results12 _ _ w.heap.size 37 #[.int .i64 line, .bool last, .func (.func 16) #[.pointer (some ⟨K, 0, none⟩)] #[]] (0, 0) _ rfl (((hN.put 0 _).put 1 _).put 2 _) Try.underlying37 rfl (by kernel_rfl)) rfl ⟨rfl, (((hb.out.setCell (Nat.le_refl _) _).setCell (Nat.le_refl _) _).setCell (Nat.le_refl _) _).drew⟩
end Go.Proofs.Ytailhicemogphaa
