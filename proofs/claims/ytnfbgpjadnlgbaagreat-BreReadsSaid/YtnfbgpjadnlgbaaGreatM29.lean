/- The reference's reader of regular expressions in memory; contract: Next. Contract of the reference's may, where a node fits. -/
import Derived.Test.YtnfbgpjadnlgbaaGreatM28
import Derived.Test.YtnfbgpjadnlgbaaGreatM09
set_option linter.unusedVariables false
set_option maxRecDepth 100000
namespace Go.Proofs.YtnfbgpjadnlgbaaGreat
open Go.RowKit

def rdrC (v : Value) (g : Nat) (A : Option Addr) (n c i : Nat) (cl : Nat → Bool) (e : Nat) : Array Value :=
  #[.slice A n c, .int .i64 (i : Int), .int .i64 (e : Int), v, .int .i64 (g : Int), .bool (cl 0), .bool (cl 1), .bool (cl 2), .bool (cl 3), .bool (cl 4), .bool (cl 5), .bool (cl 6), .bool (cl 7), .bool (cl 8), .bool (cl 9)]
structure Rdr (w : World) (B T : Nat) (A : Option Addr) (n c : Nat) (l : List UInt8) (v : Value) (ns : List Nod) (g i : Nat) (cl : Nat → Bool) (e : Nat) : Prop where
  held : Held w T 54 (rdrC v g A n c i cl e)
  own : w.ownsRow B 39 10 v ns.length (nodsL ns)
  len : ns.length ≤ 1000
  grp : g ≤ 9
  base : B ≤ T
  le : i ≤ n
  clg : ∀ q, cl q = true → 1 ≤ q ∧ q ≤ g
  txt : Txt w B A n c l
section
variable {w w' : World} {B T : Nat} {A : Option Addr} {n c : Nat} {l : List UInt8} {v v' : Value} {ns ns' : List Nod} {g g' i : Nat} {cl : Nat → Bool} {e : Nat} (h : Rdr w B T A n c l v ns g i cl e)
include h
theorem Rdr.lt : T < w.heap.size := h.held.lt
theorem Rdr.row : ∀ k, v.ownBlock = some k → B ≤ k := fun k e => (h.own.lt k e).1
theorem Rdr.bhs : B ≤ w.heap.size := h.txt.2.2.2.2.1
theorem Rdr.below (k : ChP w w' T v v') : Below B w w' := k.below h.bhs h.base h.row
theorem Rdr.keep (hb : Below w.heap.size w w') : Rdr w' B T A n c l v ns g i cl e :=
  ⟨h.held.keep hb, own_below h.own hb, h.len, h.grp, h.base, h.le, h.clg, h.txt.below (hb.mono h.bhs)⟩
theorem Rdr.inp : Inp w A n c l := h.txt.inp
theorem Rdr.hn : n = l.length := h.txt.1
theorem Rdr.c0 : w.cell? ⟨T, 0, none⟩ = some (.slice A n c) := h.held.at_ rfl
theorem Rdr.c1 : w.cell? ⟨T, 1, none⟩ = some (.int .i64 (i : Int)) := h.held.at_ rfl
theorem Rdr.c2 : w.cell? ⟨T, 2, none⟩ = some (.int .i64 (e : Int)) := h.held.at_ rfl
theorem Rdr.c3 : w.cell? ⟨T, 3, none⟩ = some v := h.held.at_ rfl
theorem Rdr.c4 : w.cell? ⟨T, 4, none⟩ = some (.int .i64 (g : Int)) := h.held.at_ rfl
theorem Rdr.thawed (p : Nat) : w.frozen? ⟨T, p, none⟩ = false := h.held.thawed p
theorem Rdr.apart : v.ownBlock ≠ some T := h.held.not_own h.own (by decide)
theorem Rdr.bldr : Bldr w B T 3 v ns g := ⟨⟨_, _, h.held, by decide, rfl, rfl⟩, h.own, h.len, h.grp, h.bhs⟩
/-- Behind a call of the builder's. -/
theorem Rdr.built (hg : g ≤ g') (hb : Bldr w' B T 3 v' ns' g') (hc : Chg w w' T 3 v v') : Rdr w' B T A n c l v' ns' g' i cl e := by
  obtain ⟨cs', h1, s1, n1⟩ := hc.near _ _ h.held
  obtain ⟨t, cs, h2, hne, a0, a1⟩ := hb.obj
  have e0 : t = 54 ∧ cs = cs' := by
    unfold Held at h1 h2
    rw [h1] at h2
    injection h2 with h2
    injection h2 with q1 q2
    exact ⟨q2.symm, q1.symm⟩
  obtain ⟨rfl, rfl⟩ := e0
  have hcs : cs = rdrC v' g' A n c i cl e := by
    apply Array.ext_getElem?
    intro j
    by_cases h3 : j = 3
    · subst h3; exact a0
    by_cases h4 : j = 4
    · subst h4; exact a1
    rw [n1 j h3 h4]
    match j, h3, h4 with
    | 0, _, _ => rfl
    | 1, _, _ => rfl
    | 2, _, _ => rfl
    | 3, h3, _ => exact absurd rfl h3
    | 4, _, h4 => exact absurd rfl h4
    | j + 5, _, _ => simp [rdrC]
  subst hcs
  exact ⟨h1, hb.own, hb.len, hb.grp, h.base, h.le, fun q hq => ⟨(h.clg q hq).1, Nat.le_trans (h.clg q hq).2 hg⟩, h.txt.below (h.below hc.chp)⟩
theorem Rdr.own_cell (p : Nat) (u : Value) : (w.setCell ⟨T, p, none⟩ u).ownsRow B 39 10 v ns.length (nodsL ns) := by
  have hb : Below 0 w (w.setCell ⟨T, p, none⟩ u) := (Below.refl 0 w).setCell (Nat.zero_le _) u
  exact h.own.kept (v := v) ⟨hb.os, hb.tape, hb.output, hb.size, fun k _ hk => Below.heap_setCell w _ u k (fun e => hk (by rw [e]))⟩ (.inr h.apart)
theorem Rdr.txt_cell (p : Nat) (u : Value) : Txt (w.setCell ⟨T, p, none⟩ u) B A n c l := h.txt.below (h.below (ChP.store w T p u v))
/-- The place is another. -/
theorem Rdr.goto {j : Nat} (hj : j ≤ n) {z : Int} (hz : z = (j : Int)) : Rdr (w.setCell ⟨T, 1, none⟩ (.int .i64 z)) B T A n c l v ns g j cl e := by
  subst hz
  exact ⟨h.held.put 1 _, h.own_cell _ _, h.len, h.grp, h.base, hj, h.clg, h.txt_cell _ _⟩
theorem Rdr.erred (q : Nat) {z : Int} (hz : z = (q : Int)) : Rdr (w.setCell ⟨T, 2, none⟩ (.int .i64 z)) B T A n c l v ns g i cl q := by
  subst hz
  exact ⟨h.held.put 2 _, h.own_cell _ _, h.len, h.grp, h.base, h.le, h.clg, h.txt_cell _ _⟩
/-- A group more is open. -/
theorem Rdr.opened (hg : g < 9) {z : Int} (hz : z = (g : Int) + 1) : Rdr (w.setCell ⟨T, 4, none⟩ (.int .i64 z)) B T A n c l v ns (g + 1) i cl e := by
  subst hz
  exact ⟨h.held.put 4 _, h.own_cell _ _, h.len, by omega, h.base, h.le, fun q hq => ⟨(h.clg q hq).1, by have := (h.clg q hq).2; omega⟩, h.txt_cell _ _⟩
/-- A group has ended. -/
theorem Rdr.ended {q : Nat} (h1 : 1 ≤ q) (h9 : q ≤ g) : Rdr (w.setCell ⟨T, 5 + q, none⟩ (.bool true)) B T A n c l v ns g i (setQ cl q) e := by
  refine ⟨?_, h.own_cell _ _, h.len, h.grp, h.base, h.le, fun x hx => ?_, h.txt_cell _ _⟩
  · have := h.held.put (5 + q) (.bool true)
    have hg := h.grp
    rwa [show (rdrC v g A n c i cl e).setIfInBounds (5 + q) (.bool true) = rdrC v g A n c i (setQ cl q) e from by
      obtain rfl | rfl | rfl | rfl | rfl | rfl | rfl | rfl | rfl : q = 1 ∨ q = 2 ∨ q = 3 ∨ q = 4 ∨ q = 5 ∨ q = 6 ∨ q = 7 ∨ q = 8 ∨ q = 9 := by omega
      all_goals rfl] at this
  · unfold setQ at hx
    split at hx
    · omega
    · exact h.clg x hx
theorem Rdr.cQ (q : Nat) (h9 : q ≤ 9) : w.cell? ⟨T, 5 + q, none⟩ = some (.bool (cl q)) := by
  refine h.held.at_ ?_
  obtain rfl | rfl | rfl | rfl | rfl | rfl | rfl | rfl | rfl | rfl : q = 0 ∨ q = 1 ∨ q = 2 ∨ q = 3 ∨ q = 4 ∨ q = 5 ∨ q = 6 ∨ q = 7 ∨ q = 8 ∨ q = 9 := by omega
  all_goals rfl
theorem Rdr.byte {k : Nat} {x : UInt8} (hk : l[k]? = some x) : ∃ ad, A = some ad ∧ w.cell? (ad.add k) = some (.int .u8 (x.toNat : Int)) := by
  obtain ⟨hlt, hx⟩ := List.getElem?_eq_some_iff.1 hk
  obtain ⟨ad, h1, h2, h3⟩ := h.txt.2.2.2.2.2.1.at_ hlt
  rw [hx] at h3
  exact ⟨ad, h1, h3⟩
end

section
variable {w : World} {B T : Nat} {A : Option Addr} {n c : Nat} {l : List UInt8} {v : Value} {ns : List Nod} {g i : Nat} {cl : Nat → Bool} {e : Nat} (h : Rdr w B T A n c l v ns g i cl e)
include h
set_option maxHeartbeats 4000000 in
theorem next_at (k : Nat) (kk : Int) (hk : kk = (k : Int)) (hk2 : k ≤ 2) : Calls Tryz.prog 32 #[.pointer (some ⟨T, 0, none⟩), .int .i64 kk] w fun e w' => e = .returned (.int .i64 (nx l (i + k))) ∧ Below w.heap.size w w' := by
  have c0 := h.c0
  have c1 := h.c1
  have hle := h.le
  have hns : n ≤ 100000 := h.txt.2.2.2.1
  have hnc : n ≤ c := h.inp.2.1
  have hb0 := Lib.hid (Below.refl w.heap.size w)
  obtain ⟨p, hp⟩ : ∃ p, p = i + k := ⟨_, rfl⟩
  have hw : IntKind.i64.wrap ((i : Int) + kk) = (p : Int) := by rw [IntWalk.i64_in _ (by omega)]; omega
  have hp0 : (0 : Int) ≤ (p : Int) := by omega
  rw [← hp]
  by_cases hlt : p < n
  · obtain ⟨x, hx⟩ : ∃ x, l[p]? = some x := ⟨_, List.getElem?_eq_getElem (by have := h.hn; omega)⟩
    obtain ⟨ad, rfl, hcell⟩ := h.byte hx
    rw [nx_some hx]
    have hx1 : x.toNat < 256 := UInt8.toNat_lt x
    have hz : IntKind.i64.wrap (x.toNat : Int) = (x.toNat : Int) := IntWalk.i64_in _ (by omega)
    clear hx
    generalize (x.toNat : Int) = z at *
    have hp1 : (p : Int) < (n : Int) := by omega
    clear h hk hp hle
    go_enter Tryz.func32, Tryz.ntmps32
    go_wp2
    go_quiet (fail)
    go_wp2
    go_quiet (fail)
    go_wp2
    go_ret
    exact ⟨rfl, by first | exact below_drewN hb0.out _ | exact below_drewN (below_drewN hb0.out _) _⟩
  · rw [nx_none (by have := h.hn; omega)]
    clear h hk hp
    go_enter Tryz.func32, Tryz.ntmps32
    go_wp2
    go_quiet (fail)
    go_wp2
    go_ret
    exact ⟨rfl, by first | exact below_drewN hb0.out _ | exact below_drewN (below_drewN hb0.out _) _⟩
end
end Go.Proofs.YtnfbgpjadnlgbaaGreat

set_option linter.unusedVariables false
set_option maxRecDepth 100000
namespace Go.Proofs.YtnfbgpjadnlgbaaGreat
open Go.RowKit

theorem fits_all {nd : Nod} {t g : Int} (h : fitsN nd t g = true) : (∀ p ∈ partsN nd, 0 ≤ p ∧ p < t) ∧ (nd.kind = 4 → timesN nd.lo nd.hi = true) ∧ ((nd.kind = 5 ∨ nd.kind = 6) → 1 ≤ nd.grp ∧ nd.grp ≤ g) ∧ 0 ≤ nd.kind ∧ nd.kind ≤ 8 ∧ nodL nd = nodL (wantedN nd) := by
  have hp := fun p (hp : p ∈ partsN nd) => fits_part h hp
  unfold fitsN at h
  simp only [Bool.and_eq_true, Bool.or_eq_true, decide_eq_true_eq] at h
  obtain ⟨-, h2, h3, h4, h5, h6⟩ := h
  exact ⟨hp, fun e => h2.resolve_left (fun k => k e), fun e => h3.resolve_left (fun k => e.elim k.1 k.2), h4, h5, (sameN_iff _ _).1 h6⟩
theorem nodV_of {n m : Nod} (h : nodL n = nodL m) : nodV n = nodV m := by unfold nodV nodC; rw [h]
theorem set_neq (f : Nat → Bool) (w : World) : (binOp .neq 37 (.agg #[.int .u64 (wd f 0 : Nat), .int .u64 (wd f 1 : Nat), .int .u64 (wd f 2 : Nat), .int .u64 (wd f 3 : Nat)]) (.agg #[.int .u64 (wd f 0 : Nat), .int .u64 (wd f 1 : Nat), .int .u64 (wd f 2 : Nat), .int .u64 (wd f 3 : Nat)])).run Tryz.prog w = .ok (.bool false) w :=
  (run_neq_struct w _ _ _).trans (by rw [run_equalIn_lit, sameS_of (fun _ _ => rfl)]; rfl)
theorem zset_neq (w : World) : (binOp .neq 37 (.agg #[.int .u64 0, .int .u64 0, .int .u64 0, .int .u64 0]) (.agg #[.int .u64 0, .int .u64 0, .int .u64 0, .int .u64 0])).run Tryz.prog w = .ok (.bool false) w := by
  have := set_neq zset w
  simp only [zset_wd] at this
  exact this
theorem zset_guard (p q : Operand) (w : World) : (eqGuard .neq 37 p q (.agg #[.int .u64 0, .int .u64 0, .int .u64 0, .int .u64 0]) (.agg #[.int .u64 0, .int .u64 0, .int .u64 0, .int .u64 0])).run Tryz.prog w = .ok () w := run_eqGuard_agg w .neq _ p q _ _ guard_set
/-- A node that may stand there. -/
inductive Fit (t g : Int) : Nod → Prop
  | plain (k : Int) (h : k = 0 ∨ k = 7 ∨ k = 8) : Fit t g ⟨k, 0, 0, 0, 0, 0, zset⟩
  | set (s : Nat → Bool) : Fit t g ⟨1, 0, 0, 0, 0, 0, s⟩
  | two (k a b : Int) (h : k = 2 ∨ k = 3) (a0 : 0 ≤ a) (a1 : a < t) (b0 : 0 ≤ b) (b1 : b < t) : Fit t g ⟨k, a, b, 0, 0, 0, zset⟩
  | rep (a lo hi : Int) (a0 : 0 ≤ a) (a1 : a < t) (h : timesN lo hi = true) : Fit t g ⟨4, a, 0, lo, hi, 0, zset⟩
  | grp (a q : Int) (a0 : 0 ≤ a) (a1 : a < t) (q0 : 1 ≤ q) (q1 : q ≤ g) : Fit t g ⟨5, a, 0, 0, 0, q, zset⟩
  | bak (q : Int) (q0 : 1 ≤ q) (q1 : q ≤ g) : Fit t g ⟨6, 0, 0, 0, 0, q, zset⟩
theorem fit_of {nd : Nod} {t g : Int} (h : fitsN nd t g = true) : ∃ m, nodV nd = nodV m ∧ Fit t g m := by
  obtain ⟨h1, h2, h3, h4, h5, h6⟩ := fits_all h
  refine ⟨wantedN nd, nodV_of h6, ?_⟩
  obtain ⟨k, a, b, lo, hi, q, s⟩ := nd
  simp only at h2 h3 h4 h5
  obtain rfl | rfl | rfl | rfl | rfl | rfl | rfl | rfl | rfl : k = 0 ∨ k = 1 ∨ k = 2 ∨ k = 3 ∨ k = 4 ∨ k = 5 ∨ k = 6 ∨ k = 7 ∨ k = 8 := by omega
  · exact .plain 0 (.inl rfl)
  · exact .set s
  · have ha := h1 a (by simp [partsN]); have hb := h1 b (by simp [partsN]); exact .two 2 a b (.inl rfl) ha.1 ha.2 hb.1 hb.2
  · have ha := h1 a (by simp [partsN]); have hb := h1 b (by simp [partsN]); exact .two 3 a b (.inr rfl) ha.1 ha.2 hb.1 hb.2
  · have ha := h1 a (by simp [partsN]); exact .rep a lo hi ha.1 ha.2 (h2 rfl)
  · have ha := h1 a (by simp [partsN]); have hq := h3 (.inl rfl); exact .grp a q ha.1 ha.2 hq.1 hq.2
  · have hq := h3 (.inr rfl); exact .bak q hq.1 hq.2
  · exact .plain 7 (.inr (.inl rfl))
  · exact .plain 8 (.inr (.inr rfl))
theorem times_all {lo hi : Int} (h : timesN lo hi = true) : 0 ≤ lo ∧ lo ≤ 255 ∧ (hi = -1 ∨ (hi ≠ -1 ∧ lo ≤ hi ∧ hi ≤ 255)) := by
  unfold timesN at h
  simp only [Bool.and_eq_true, Bool.or_eq_true, decide_eq_true_eq] at h
  refine ⟨h.1, h.2.1, ?_⟩
  rcases h.2.2 with h1 | h1
  · exact .inl h1
  · exact .inr ⟨by omega, h1⟩

set_option maxHeartbeats 16000000 in
theorem may_fits {nd : Nod} {t g : Int} (hf : fitsN nd t g = true) (w : World) : Calls Tryz.prog 18 #[nodV nd, .int .i64 t, .int .i64 g] w fun e w' => e = .returned (.bool true) ∧ Below w.heap.size w w' := by
  obtain ⟨m, e, hm⟩ := fit_of hf
  rw [e]
  have hb := Lib.hid (fun o : Obj => (Below.refl w.heap.size w).alloc (Nat.le_refl _) o)
  have hE := fun w => zset_neq w
  have hG := fun p q w => zset_guard p q w
  clear e hf
  cases hm with
  | plain k h =>
    rw [nodV_z]
    rcases h with rfl | rfl | rfl
    all_goals
      go_enter Tryz.func18, Tryz.ntmps18
      go_wp2
      go_ret
      exact ⟨rfl, hb.out _⟩
  | set s =>
    rw [nodV_lit]
    generalize wd s 0 = s0
    generalize wd s 1 = s1
    generalize wd s 2 = s2
    generalize wd s 3 = s3
    go_enter Tryz.func18, Tryz.ntmps18
    go_wp2
    go_ret
    exact ⟨rfl, hb.out _⟩
  | two k a b h a0 a1 b0 b1 =>
    rw [nodV_z]
    have x1 : ¬ a < 0 := by omega
    have x2 : ¬ t ≤ a := by omega
    have x3 : ¬ b < 0 := by omega
    have x4 : ¬ t ≤ b := by omega
    rcases h with rfl | rfl
    all_goals
      go_enter Tryz.func18, Tryz.ntmps18
      go_wp2
      go_ret
      exact ⟨rfl, hb.out _⟩
  | rep a lo hi a0 a1 h =>
    rw [nodV_z]
    have x1 : ¬ a < 0 := by omega
    have x2 : ¬ t ≤ a := by omega
    obtain ⟨y1, y2, y3⟩ := times_all h
    clear h
    rcases y3 with rfl | ⟨y4, y5, y6⟩
    · go_enter Tryz.func18, Tryz.ntmps18
      go_wp2
      go_ret
      exact ⟨rfl, hb.out _⟩
    · have y7 : (hi == -1) = false := beq_no y4
      go_enter Tryz.func18, Tryz.ntmps18
      go_wp2
      go_ret
      exact ⟨rfl, hb.out _⟩
  | grp a q a0 a1 q0 q1 =>
    rw [nodV_z]
    have x1 : ¬ a < 0 := by omega
    have x2 : ¬ t ≤ a := by omega
    have x3 : ¬ q < 1 := by omega
    have x4 : ¬ g < q := by omega
    go_enter Tryz.func18, Tryz.ntmps18
    go_wp2
    go_ret
    exact ⟨rfl, hb.out _⟩
  | bak q q0 q1 =>
    rw [nodV_z]
    have x3 : ¬ q < 1 := by omega
    have x4 : ¬ g < q := by omega
    go_enter Tryz.func18, Tryz.ntmps18
    go_wp2
    go_ret
    exact ⟨rfl, hb.out _⟩
end Go.Proofs.YtnfbgpjadnlgbaaGreat
