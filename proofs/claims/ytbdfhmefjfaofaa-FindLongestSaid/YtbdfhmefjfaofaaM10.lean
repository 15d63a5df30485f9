/- Contracts and plain facts: M10. -/
import Derived.Test.YtbdfhmefjfaofaaM07
set_option linter.unusedVariables false
set_option linter.unusedSimpArgs false
set_option maxRecDepth 100000
set_option maxHeartbeats 32000000
namespace Go.Proofs.Ytbdfhmefjfaofaa
open Go.RowKit
theorem fits_all {nd : Nod} {t g : Int} (h : fitsN nd t g = true) : (∀ p ∈ partsN nd,0 ≤ p ∧ p < t) ∧ (nd.kind = 4 → timesN nd.lo nd.hi = true) ∧ ((nd.kind = 5 ∨ nd.kind = 6) → 1 ≤ nd.grp ∧ nd.grp ≤ g) ∧ 0 ≤ nd.kind ∧ nd.kind ≤ 8 ∧ nodL nd = nodL (wantedN nd):=by
 have hp:=fun p (hp : p ∈ partsN nd) => fits_part h hp
 unfold fitsN at h
 simp only [Bool.and_eq_true,Bool.or_eq_true,decide_eq_true_eq] at h
 obtain ⟨-,h2,h3,h4,h5,h6⟩:=h
 exact ⟨hp,fun e => h2.resolve_left (fun k => k e),fun e => h3.resolve_left (fun k => e.elim k.1 k.2),h4,h5,(sameN_iff _ _).1 h6⟩
theorem nodV_of {n m : Nod} (h : nodL n = nodL m) : nodV n = nodV m:=by unfold nodV nodC;rw [h]
theorem set_neq (f : Nat → Bool) (w : World) : (binOp .neq 51 (.agg #[.int .u64 (wd f 0 : Nat),.int .u64 (wd f 1 : Nat),.int .u64 (wd f 2 : Nat),.int .u64 (wd f 3 : Nat)]) (.agg #[.int .u64 (wd f 0 : Nat),.int .u64 (wd f 1 : Nat),.int .u64 (wd f 2 : Nat),.int .u64 (wd f 3 : Nat)])).run Try.prog w = .ok (.bool false) w :=
 (run_neq_struct w _ _ _).trans (by rw [run_equalIn_lit,sameS_of (fun _ _ => rfl)];rfl)
theorem zset_neq (w : World) : (binOp .neq 51 (.agg #[.int .u64 0,.int .u64 0,.int .u64 0,.int .u64 0]) (.agg #[.int .u64 0,.int .u64 0,.int .u64 0,.int .u64 0])).run Try.prog w = .ok (.bool false) w:=by
 have:=set_neq zset w
 simp only [zset_wd] at this
 exact this
theorem zset_guard (p q : Operand) (w : World) : (eqGuard .neq 51 p q (.agg #[.int .u64 0,.int .u64 0,.int .u64 0,.int .u64 0]) (.agg #[.int .u64 0,.int .u64 0,.int .u64 0,.int .u64 0])).run Try.prog w = .ok () w:=run_eqGuard_agg w .neq _ p q _ _ guard_set
inductive Fit (t g : Int) : Nod → Prop
 | plain (k : Int) (h : k = 0 ∨ k = 7 ∨ k = 8) : Fit t g ⟨k,0,0,0,0,0,zset⟩
 | set (s : Nat → Bool) : Fit t g ⟨1,0,0,0,0,0,s⟩
 | two (k a b : Int) (h : k = 2 ∨ k = 3) (a0 : 0 ≤ a) (a1 : a < t) (b0 : 0 ≤ b) (b1 : b < t) : Fit t g ⟨k,a,b,0,0,0,zset⟩
 | rep (a lo hi : Int) (a0 : 0 ≤ a) (a1 : a < t) (h : timesN lo hi = true) : Fit t g ⟨4,a,0,lo,hi,0,zset⟩
 | grp (a q : Int) (a0 : 0 ≤ a) (a1 : a < t) (q0 : 1 ≤ q) (q1 : q ≤ g) : Fit t g ⟨5,a,0,0,0,q,zset⟩
 | bak (q : Int) (q0 : 1 ≤ q) (q1 : q ≤ g) : Fit t g ⟨6,0,0,0,0,q,zset⟩
theorem fit_of {nd : Nod} {t g : Int} (h : fitsN nd t g = true) : ∃ m,nodV nd = nodV m ∧ Fit t g m:=by
 obtain ⟨h1,h2,h3,h4,h5,h6⟩:=fits_all h
 refine ⟨wantedN nd,nodV_of h6,?_⟩
 obtain ⟨k,a,b,lo,hi,q,s⟩:=nd
 simp only at h2 h3 h4 h5
 obtain rfl | rfl | rfl | rfl | rfl | rfl | rfl | rfl | rfl : k = 0 ∨ k = 1 ∨ k = 2 ∨ k = 3 ∨ k = 4 ∨ k = 5 ∨ k = 6 ∨ k = 7 ∨ k = 8:=by omega
 · exact .plain 0 (.inl rfl)
 · exact .set s
 · have ha:=h1 a (by simp [partsN]);have hb:=h1 b (by simp [partsN]);exact .two 2 a b (.inl rfl) ha.1 ha.2 hb.1 hb.2
 · have ha:=h1 a (by simp [partsN]);have hb:=h1 b (by simp [partsN]);exact .two 3 a b (.inr rfl) ha.1 ha.2 hb.1 hb.2
 · have ha:=h1 a (by simp [partsN]);exact .rep a lo hi ha.1 ha.2 (h2 rfl)
 · have ha:=h1 a (by simp [partsN]);have hq:=h3 (.inl rfl);exact .grp a q ha.1 ha.2 hq.1 hq.2
 · have hq:=h3 (.inr rfl);exact .bak q hq.1 hq.2
 · exact .plain 7 (.inr (.inl rfl))
 · exact .plain 8 (.inr (.inr rfl))
theorem times_all {lo hi : Int} (h : timesN lo hi = true) : 0 ≤ lo ∧ lo ≤ 255 ∧ (hi = -1 ∨ (hi ≠ -1 ∧ lo ≤ hi ∧ hi ≤ 255)):=by
 unfold timesN at h
 simp only [Bool.and_eq_true,Bool.or_eq_true,decide_eq_true_eq] at h
 refine ⟨h.1,h.2.1,?_⟩
 rcases h.2.2 with h1 | h1
 · exact .inl h1
 · exact .inr ⟨by omega,h1⟩
theorem may_fits {nd : Nod} {t g : Int} (hf : fitsN nd t g = true) (w : World) : Calls Try.prog 23 #[nodV nd,.int .i64 t,.int .i64 g] w fun e w' => e = .returned (.bool true) ∧ Below w.heap.size w w':=by
 obtain ⟨m,e,hm⟩:=fit_of hf
 rw [e]
 have hb:=lhi (fun o : Obj => (Below.refl w.heap.size w).alloc (nlr _) o)
 have hE:=fun w => zset_neq w
 have hG:=fun p q w => zset_guard p q w
 clear e hf
 cases hm with
 | plain k h =>
  rw [nodV_z]
  rcases h with rfl | rfl | rfl
  all_goals
   go_enter Try.func23,Try.ntmps23
   go_wp2
   go_ret
   exact ⟨rfl,hb.out _⟩
 | set s =>
  rw [nodV_lit]
  generalize wd s 0 = s0
  generalize wd s 1 = s1
  generalize wd s 2 = s2
  generalize wd s 3 = s3
  go_enter Try.func23,Try.ntmps23
  go_wp2
  go_ret
  exact ⟨rfl,hb.out _⟩
 | two k a b h a0 a1 b0 b1 =>
  rw [nodV_z]
  have x1 : ¬ a < 0:=by omega
  have x2 : ¬ t ≤ a:=by omega
  have x3 : ¬ b < 0:=by omega
  have x4 : ¬ t ≤ b:=by omega
  rcases h with rfl | rfl
  all_goals
   go_enter Try.func23,Try.ntmps23
   go_wp2
   go_ret
   exact ⟨rfl,hb.out _⟩
 | rep a lo hi a0 a1 h =>
  rw [nodV_z]
  have x1 : ¬ a < 0:=by omega
  have x2 : ¬ t ≤ a:=by omega
  obtain ⟨y1,y2,y3⟩:=times_all h
  clear h
  rcases y3 with rfl | ⟨y4,y5,y6⟩
  · go_enter Try.func23,Try.ntmps23
    go_wp2
    go_ret
    exact ⟨rfl,hb.out _⟩
  · have y7 : (hi == -1) = false:=beq_no y4
    go_enter Try.func23,Try.ntmps23
    go_wp2
    go_ret
    exact ⟨rfl,hb.out _⟩
 | grp a q a0 a1 q0 q1 =>
  rw [nodV_z]
  have x1 : ¬ a < 0:=by omega
  have x2 : ¬ t ≤ a:=by omega
  have x3 : ¬ q < 1:=by omega
  have x4 : ¬ g < q:=by omega
  go_enter Try.func23,Try.ntmps23
  go_wp2
  go_ret
  exact ⟨rfl,hb.out _⟩
 | bak q q0 q1 =>
  rw [nodV_z]
  have x3 : ¬ q < 1:=by omega
  have x4 : ¬ g < q:=by omega
  go_enter Try.func23,Try.ntmps23
  go_wp2
  go_ret
  exact ⟨rfl,hb.out _⟩
end Go.Proofs.Ytbdfhmefjfaofaa
