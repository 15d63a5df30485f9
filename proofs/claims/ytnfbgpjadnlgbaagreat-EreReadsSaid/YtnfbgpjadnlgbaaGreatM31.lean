/- What the reader's calls leave, by the machine; the contract of the reference's Escape. -/
import Derived.Test.YtnfbgpjadnlgbaaGreatM30
set_option linter.unusedVariables false
set_option maxRecDepth 100000
namespace Go.Proofs.YtnfbgpjadnlgbaaGreat
open Go.RowKit

/-- A node was read (pc: and it is a piece), or it went wrong. -/
def RNode (pc : Bool) (w : World) (B T : Nat) (A : Option Addr) (n c : Nat) (l : List UInt8) (v : Value) (ns : List Nod) (g i : Nat) (cl : Nat → Bool) (inG : Bool) (e : Ending) (w' : World) : Prop :=
  (∃ x v' ns' g' i' cl', e = .returned (.int .i64 x) ∧ okP (ns'.length : Int) x = true ∧ Rdr w' B T A n c l v' ns' g' i' cl' 0 ∧ ChP w w' T v v' ∧ ns.length ≤ ns'.length ∧ g ≤ g' ∧ i < i' ∧ (pc = true → bg [92, 123] (l.drop i') = false) ∧
    ∀ ps lv, lv.isEmpty = !inG → Steps l ⟨.L, i, ns, g, cl, ps, lv⟩ ⟨toC pc x, i', ns', g', cl', toP pc x ps, lv⟩) ∨
  (∃ x v' ns' g' i' cl' q, q ≠ 0 ∧ e = .returned (.int .i64 x) ∧ Rdr w' B T A n c l v' ns' g' i' cl' q ∧ ChP w w' T v v' ∧ ∀ ps lv, lv.isEmpty = !inG → Ends l ⟨.L, i, ns, g, cl, ps, lv⟩ (.bad i' q))
/-- What a call leaves that went wrong where it stood. -/
def RBad (w : World) (B T : Nat) (A : Option Addr) (n c : Nat) (l : List UInt8) (v : Value) (i q : Nat) (e : Ending) (w' : World) : Prop :=
  ∃ x v' ns g cl, e = .returned (.int .i64 x) ∧ Rdr w' B T A n c l v' ns g i cl q ∧ ChP w w' T v v'
section
variable {w w' : World} {B T : Nat} {A : Option Addr} {n c : Nat} {l : List UInt8} {v v' : Value} {ns ns' : List Nod} {g g' i i' : Nat} {cl cl' : Nat → Bool} {inG : Bool} {e : Ending}
theorem RPut.node {j : Nat} {nd : Nod} (h : RPut w B T A n c l v ns g j cl nd e w') (hi : i < l.length) (hc : inG = true → bg [92, 41] (l.drop i) = false) (ha : atomA l i = .nod j nd) (hj : i < j) : RNode false w B T A n c l v ns g i cl inG e w' := by
  rcases h with ⟨hl, v', rfl, k, m⟩ | ⟨hl, v', rfl, k, m⟩
  · refine .inl ⟨_, v', _, _, _, _, rfl, ?_, k, m, by simp, Nat.le_refl _, hj, (fun e => by cases e), fun ps lv hlv => .one ?_⟩
    · rw [List.length_append]; exact okP_last _
    · rw [step_atom hi hc hlv, ha]
      simp only [stepA, putS]
      rw [if_pos hl]; rfl
  · refine .inr ⟨_, v', _, _, _, _, _, by decide, rfl, k, m, fun ps lv hlv => .bad ?_⟩
    rw [step_atom hi hc hlv, ha]
    simp only [stepA, putS]
    rw [if_neg hl]
theorem RPut.bak {q : Nat} (h : RPut w B T A n c l v ns g (i + 2) cl (backN (q : Int)) e w') (hi : i < l.length) (hc : inG = true → bg [92, 41] (l.drop i) = false) (ha : atomA l i = .bak q) (hq : cl q = true) : RNode false w B T A n c l v ns g i cl inG e w' := by
  rcases h with ⟨hl, v', rfl, k, m⟩ | ⟨hl, v', rfl, k, m⟩
  · refine .inl ⟨_, v', _, _, _, _, rfl, ?_, k, m, by simp, Nat.le_refl _, by omega, (fun e => by cases e), fun ps lv hlv => .one ?_⟩
    · rw [List.length_append]; exact okP_last _
    · rw [step_atom hi hc hlv, ha]
      simp only [stepA, putS]
      rw [if_pos hq, if_pos hl]; rfl
  · refine .inr ⟨_, v', _, _, _, _, _, by decide, rfl, k, m, fun ps lv hlv => .bad ?_⟩
    rw [step_atom hi hc hlv, ha]
    simp only [stepA, putS]
    rw [if_pos hq, if_neg hl]
theorem RBad.node {pc : Bool} {q : Nat} (h : RBad w B T A n c l v i q e w') (hi : i < l.length) (hc : inG = true → bg [92, 41] (l.drop i) = false) (hs : ∀ ps lv, stepA ⟨.L, i, ns, g, cl, ps, lv⟩ (atomA l i) = .bad i q) (hq : q ≠ 0) : RNode pc w B T A n c l v ns g i cl inG e w' := by
  obtain ⟨x, v', ns', g', cl', rfl, k, m⟩ := h
  refine .inr ⟨x, v', _, _, _, _, _, hq, rfl, k, m, fun ps lv hlv => .bad ?_⟩
  rw [step_atom hi hc hlv, hs]
theorem RNode.ret {pc : Bool} (h : RNode pc w B T A n c l v ns g i cl inG e w') : ∃ z, e = .returned (.int .i64 z) ∧ RNode pc w B T A n c l v ns g i cl inG (.returned (.int .i64 z)) w' := by
  rcases h with ⟨x, v', ns', g', i', cl', rfl, h⟩ | ⟨x, v', ns', g', i', cl', q, hq, rfl, h⟩
  · exact ⟨_, rfl, .inl ⟨x, v', ns', g', i', cl', rfl, h⟩⟩
  · exact ⟨_, rfl, .inr ⟨x, v', ns', g', i', cl', q, hq, rfl, h⟩⟩
theorem RNode.from {pc : Bool} {w0 : World} {v0 : Value} (h : RNode pc w B T A n c l v ns g i cl inG e w') (h0 : ChP w0 w T v0 v) : RNode pc w0 B T A n c l v0 ns g i cl inG e w' := by
  rcases h with ⟨x, v', ns', g', i', cl', h1, h2, h3, h4, h5⟩ | ⟨x, v', ns', g', i', cl', q, h1, h2, h3, h4, h5⟩
  · exact .inl ⟨x, v', ns', g', i', cl', h1, h2, h3, h0.trans h4, h5⟩
  · exact .inr ⟨x, v', ns', g', i', cl', q, h1, h2, h3, h0.trans h4, h5⟩
end
theorem set_lit (s : Nat → Bool) : ∃ s0 s1 s2 s3 : Nat, setC s = #[.int .u64 (s0 : Int), .int .u64 (s1 : Int), .int .u64 (s2 : Int), .int .u64 (s3 : Int)] ∧
    nodV (setN s) = .agg #[.int .i64 1, .int .i64 0, .int .i64 0, .int .i64 0, .int .i64 0, .int .i64 0, .int .u64 (s0 : Int), .int .u64 (s1 : Int), .int .u64 (s2 : Int), .int .u64 (s3 : Int)] :=
  ⟨wd s 0, wd s 1, wd s 2, wd s 3, rfl, nodV_lit 1 0 0 0 0 0 s⟩
/-- What the reading of an atom leaves. -/
def RAm (w : World) (B T : Nat) (A : Option Addr) (n c : Nat) (l : List UInt8) (v : Value) (ns : List Nod) (g i : Nat) (cl : Nat → Bool) (a : Am) (e : Ending) (w' : World) : Prop := match a with
  | .bad q => RBad w B T A n c l v i q e w'
  | .opn => False
  | .bak q => if cl q = true then RPut w B T A n c l v ns g (i + 2) cl (backN (q : Int)) e w' else RBad w B T A n c l v i 16 e w'
  | .nod j nd => RPut w B T A n c l v ns g j cl nd e w'
section
variable {w : World} {B T : Nat} {A : Option Addr} {n c : Nat} {l : List UInt8} {v : Value} {ns : List Nod} {g i : Nat} {cl : Nat → Bool} (h : Rdr w B T A n c l v ns g i cl 0) {inG : Bool}
include h

set_option maxHeartbeats 8000000 in
theorem rescape_0 (hx : l.drop i = [92]) : Calls Tryz.prog 50 #[.pointer (some ⟨T, 0, none⟩)] w (RAm w B T A n c l v ns g i cl (escE i [])) := by
  obtain ⟨hi, -, hr⟩ := drop_at hx
  have hN := Lib.hid (next_at h 1 1 rfl (by decide))
  rw [show nx l (i + 1) = -1 from by rw [nx_drop, hx]; rfl] at hN
  have hP := Lib.hid (fun w1 (hb : Below w.heap.size w w1) => h.keep hb)
  have hfin := Lib.hid (fun (w' : World) (x : Ending) (y : RBad w B T A n c l v i 10 x w') => show RAm w B T A n c l v ns g i cl (escE i []) x w' from y)
  clear h hx hi hr
  go_enter Tryz.func50, Tryz.ntmps50
  go_wp2_with (go_at_call 32; refine (hN.out).mono ?_; rintro e w1 ⟨rfl, hb1⟩; have h1 := hP.out _ hb1; have c2 := h1.c2; have t2 := h1.thawed 2; have h2 := Lib.hid (h1.erred 10 (z := 10) rfl); have k2 := Lib.hid ((ChP.of_below (T := T) (v := v) hb1).trans (ChP.store w1 T 2 (.int .i64 10) v)); clear h1)
  go_ret
  exact hfin.out _ _ ⟨0, v, _, _, _, rfl, h2.out, k2.out⟩

set_option maxHeartbeats 8000000 in
theorem rescape_bak {x : UInt8} {r : List UInt8} (hx : l.drop i = 92 :: x :: r) (h1 : 49 ≤ x) (h9 : x ≤ 57) :
    Calls Tryz.prog 50 #[.pointer (some ⟨T, 0, none⟩)] w (RAm w B T A n c l v ns g i cl (escE i (x :: r))) := by
  obtain ⟨hi, -, hr⟩ := drop_at hx
  obtain ⟨hi1, hx1, -⟩ := drop_at hr
  have hns : n ≤ 100000 := h.txt.2.2.2.1
  have hi2 : i + 2 ≤ n := by have := h.hn; omega
  have hi0 : (i : Int) ≤ 100000 := by omega
  have hN := Lib.hid (next_at h 1 1 rfl (by decide))
  rw [show nx l (i + 1) = (x.toNat : Int) from nx_some hx1] at hN
  have d1 : 49 ≤ x.toNat := UInt8.le_iff_toNat_le.1 h1
  have d9 : x.toNat ≤ 57 := UInt8.le_iff_toNat_le.1 h9
  obtain ⟨q, hq⟩ : ∃ q, q = x.toNat - 48 := ⟨_, rfl⟩
  have e1 : 49 ≤ (x.toNat : Int) := by omega
  have e9 : (x.toNat : Int) ≤ 57 := by omega
  have hw : IntKind.i64.wrap ((x.toNat : Int) - 48) = (q : Int) := by rw [IntWalk.i64_in _ (by omega)]; omega
  have q0 : (0 : Int) ≤ (q : Int) := by omega
  have q9 : (q : Int) < 10 := by omega
  have hq9 : q ≤ 9 := by omega
  have ha : escE i (x :: r) = .bak q := by
    rw [hq]
    simp only [escE]
    rw [if_neg (by rintro rfl; exact absurd d9 (by decide)), if_pos ⟨h1, h9⟩]
  rw [ha]
  have hP := Lib.hid (fun w1 (hb : Below w.heap.size w w1) => h.keep hb)
  by_cases hcl : cl q = true
  · have hqg := h.clg q hcl
    have hf := Lib.hid (fits_back (q := (q : Int)) (t := (ns.length : Int)) (g := (g : Int)) (by omega) (by omega))
    have hU := Lib.hid (fun w1 (h1 : Rdr w1 B T A n c l v ns g (i + 2) cl 0) => rput_any h1 (backN (q : Int)) hf.out)
    rw [show nodV (backN (q : Int)) = _ from nodV_z 6 0 0 0 0 (q : Int)] at hU
    have hfin := Lib.hid (fun (w' : World) (x : Ending) (y : RPut w B T A n c l v ns g (i + 2) cl (backN (q : Int)) x w') => show RAm w B T A n c l v ns g i cl (.bak q) x w' from by simp only [RAm]; rw [if_pos hcl]; exact y)
    replace hcl := Lib.hid hcl
    clear h hx hx1 hr hi hi1 ha hq d1 d9 h1 h9 hqg
    generalize (x.toNat : Int) = d at *
    go_enter Tryz.func50, Tryz.ntmps50
    go_wp2_with (first
      | (go_at_call 32; refine (hN.out).mono ?_; rintro e w1 ⟨rfl, hb1⟩; have h1 := hP.out _ hb1; have cq := h1.cQ q hq9; rw [hcl.out] at cq; have c1 := h1.c1; have t1 := h1.thawed 1; have h2 := Lib.hid (h1.goto hi2 (z := (i : Int) + 2) (by omega)); have k2 := Lib.hid ((ChP.of_below (T := T) (v := v) hb1).trans (ChP.store w1 T 1 (.int .i64 ((i : Int) + 2)) v)); clear h1)
      | (go_at_call 22; refine (hU.out _ h2.out).mono ?_; intro x w3 hy; obtain ⟨z, rfl, hy⟩ := hy.ret; replace hy := Lib.hid (hfin.out _ _ (hy.from k2.out))))
    go_ret
    exact hy.out
  · have hcl' : cl q = false := by simpa using hcl
    have hfin := Lib.hid (fun (w' : World) (x : Ending) (y : RBad w B T A n c l v i 16 x w') => show RAm w B T A n c l v ns g i cl (.bak q) x w' from by simp only [RAm]; rw [if_neg hcl]; exact y)
    replace hcl' := Lib.hid hcl'
    clear h hx hx1 hr hi hi1 ha hq d1 d9 h1 h9 hcl
    generalize (x.toNat : Int) = d at *
    go_enter Tryz.func50, Tryz.ntmps50
    go_wp2_with (go_at_call 32; refine (hN.out).mono ?_; rintro e w1 ⟨rfl, hb1⟩; have h1 := hP.out _ hb1; have cq := h1.cQ q hq9; rw [hcl'.out] at cq; have c2 := h1.c2; have t2 := h1.thawed 2; have h2 := Lib.hid (h1.erred 16 (z := 16) rfl); have k2 := Lib.hid ((ChP.of_below (T := T) (v := v) hb1).trans (ChP.store w1 T 2 (.int .i64 16) v)); clear h1)
    go_ret
    exact hfin.out _ _ ⟨0, v, _, _, _, rfl, h2.out, k2.out⟩

set_option maxHeartbeats 8000000 in
theorem rescape_n {r : List UInt8} (hx : l.drop i = 92 :: 110 :: r) :
    Calls Tryz.prog 50 #[.pointer (some ⟨T, 0, none⟩)] w (RAm w B T A n c l v ns g i cl (escE i (110 :: r))) := by
  obtain ⟨hi, -, hr⟩ := drop_at hx
  obtain ⟨hi1, hx1, -⟩ := drop_at hr
  have hns : n ≤ 100000 := h.txt.2.2.2.1
  have hi2 : i + 2 ≤ n := by have := h.hn; omega
  have hi0 : (i : Int) ≤ 100000 := by omega
  have hN := Lib.hid (next_at h 1 1 rfl (by decide))
  rw [show nx l (i + 1) = 110 from nx_some hx1] at hN
  have ha : escE i (110 :: r) = .nod (i + 2) (setN (oneF 10)) := by simp only [escE, ofL_one]; rfl
  rw [ha]
  have hP := Lib.hid (fun w1 (hb : Below w.heap.size w w1) => h.keep hb)
  have hA := Lib.hid (fun w => refAlnum_any 110 w)
  rw [show isAl 110 = true by decide] at hA
  replace hA := Lib.hid (show ∀ w, Calls Tryz.prog 67 #[.int .i64 110] w fun e w' => e = .returned (.bool true) ∧ w = w' from hA.out)
  have hO := Lib.hid (show ∀ w, Calls Tryz.prog 52 #[.int .u8 10] w fun e w' => e = .returned (.agg (setC (oneF 10))) ∧ Below w.heap.size w w' from fun w => refOne_any 10 w)
  have hU := Lib.hid (fun w1 (h1 : Rdr w1 B T A n c l v ns g (i + 2) cl 0) => rput_any h1 (setN (oneF 10)) (fits_set _ _ _))
  have hfin := Lib.hid (fun (w' : World) (x : Ending) (y : RPut w B T A n c l v ns g (i + 2) cl (setN (oneF 10)) x w') => show RAm w B T A n c l v ns g i cl (.nod (i + 2) (setN (oneF 10))) x w' from y)
  obtain ⟨s0, s1, s2, s3, es, en⟩ := set_lit (oneF 10)
  rw [es] at hO
  rw [en] at hU
  clear h hx hx1 hr hi hi1 ha es en
  go_enter Tryz.func50, Tryz.ntmps50
  go_wp2_with (first
    | (go_at_call 32; refine (hN.out).mono ?_; rintro e w1 ⟨rfl, hb1⟩; have h1 := hP.out _ hb1; have c1 := h1.c1; have t1 := h1.thawed 1; have h2 := Lib.hid (h1.goto hi2 (z := (i : Int) + 2) (by omega)); have k2 := Lib.hid ((ChP.of_below (T := T) (v := v) hb1).trans (ChP.store w1 T 1 (.int .i64 ((i : Int) + 2)) v)); clear h1)
    | (go_at_call 67; refine (hA.out _).mono ?_; rintro e w' ⟨rfl, rfl⟩)
    | (go_at_call 52; refine (hO.out _).mono ?_; rintro e w3 ⟨rfl, hb3⟩; have h3 := Lib.hid (h2.out.keep hb3); have k3 := Lib.hid (k2.out.trans (ChP.of_below hb3)); clear hb3)
    | (go_at_call 22; refine (hU.out _ h3.out).mono ?_; intro x w4 hy; obtain ⟨z, rfl, hy⟩ := hy.ret; replace hy := Lib.hid (hfin.out _ _ (hy.from k3.out))))
  go_ret
  exact hy.out

set_option maxHeartbeats 16000000 in
theorem rescape_else {x : UInt8} {r : List UInt8} (hx : l.drop i = 92 :: x :: r) (h110 : x ≠ 110) (hdg : ¬ (49 ≤ x ∧ x ≤ 57)) :
    Calls Tryz.prog 50 #[.pointer (some ⟨T, 0, none⟩)] w (RAm w B T A n c l v ns g i cl (escE i (x :: r))) := by
  obtain ⟨hi, -, hr⟩ := drop_at hx
  obtain ⟨hi1, hx1, -⟩ := drop_at hr
  have hns : n ≤ 100000 := h.txt.2.2.2.1
  have hi2 : i + 2 ≤ n := by have := h.hn; omega
  have hi0 : (i : Int) ≤ 100000 := by omega
  have hN := Lib.hid (next_at h 1 1 rfl (by decide))
  rw [show nx l (i + 1) = (x.toNat : Int) from nx_some hx1] at hN
  have hxl : x.toNat < 256 := UInt8.toNat_lt x
  have edg : (x.toNat : Int) < 49 ∨ 57 < (x.toNat : Int) := by
    by_cases e1 : (x.toNat : Int) < 49
    · exact .inl e1
    · by_cases e2 : 57 < (x.toNat : Int)
      · exact .inr e2
      · exact absurd ⟨UInt8.le_iff_toNat_le.2 (by show 49 ≤ x.toNat; omega), UInt8.le_iff_toNat_le.2 (by show x.toNat ≤ 57; omega)⟩ hdg
  have hP := Lib.hid (fun w1 (hb : Below w.heap.size w w1) => h.keep hb)
  have hA := Lib.hid (fun w => refAlnum_any x w)
  have hO := Lib.hid (fun w => refOne_any x w)
  have hU := Lib.hid (fun w1 (h1 : Rdr w1 B T A n c l v ns g (i + 2) cl 0) => rput_any h1 (setN (oneF x)) (fits_set _ _ _))
  have hfin1 := Lib.hid (fun (ha : isAl x = false) (w' : World) (z : Ending) (y : RPut w B T A n c l v ns g (i + 2) cl (setN (oneF x)) z w') => show RAm w B T A n c l v ns g i cl (escE i (x :: r)) z w' from by
    rw [show escE i (x :: r) = .nod (i + 2) (setN (oneF x)) from by simp only [escE, ofL_one]; rw [if_neg h110, if_neg hdg, if_neg (by rw [ha]; decide)]]; exact y)
  have hfin2 := Lib.hid (fun (ha : isAl x = true) (w' : World) (z : Ending) (y : RBad w B T A n c l v i 10 z w') => show RAm w B T A n c l v ns g i cl (escE i (x :: r)) z w' from by
    rw [show escE i (x :: r) = .bad 10 from by simp only [escE]; rw [if_neg h110, if_neg hdg, if_pos ha]]; exact y)
  obtain ⟨s0, s1, s2, s3, es, en⟩ := set_lit (oneF x)
  rw [es] at hO
  rw [en] at hU
  have e110 : ((x.toNat : Int) == 110) = false := u8_ne h110
  have e110' : ((x.toNat : Int) != 110) = true := by rw [bne_iff_ne]; intro e; exact h110 (UInt8.toNat_inj.1 (show x.toNat = 110 by omega))
  have e0 : ¬ (x.toNat : Int) < 0 := by omega
  have e0' : (0 : Int) ≤ (x.toNat : Int) := by omega
  have hw8 : IntKind.u8.wrap (x.toNat : Int) = (x.toNat : Int) := IntWalk.u8_in _ (by omega)
  generalize hal : isAl x = al at *
  generalize escE i (x :: r) = am at *
  clear h hx hx1 hr hi hi1 es en h110 hdg hxl hal
  generalize (x.toNat : Int) = d at *
  cases al with
  | true =>
    replace hfin2 := Lib.hid (hfin2.out rfl)
    clear hfin1 hO hU
    rcases edg with e1 | e1
    · have e2 : ¬ 49 ≤ d := by omega
      go_enter Tryz.func50, Tryz.ntmps50
      go_wp2_with (first
        | (go_at_call 32; refine (hN.out).mono ?_; rintro e w1 ⟨rfl, hb1⟩; have h1 := hP.out _ hb1; have c2 := h1.c2; have t2 := h1.thawed 2; have h2 := Lib.hid (h1.erred 10 (z := 10) rfl); have k2 := Lib.hid ((ChP.of_below (T := T) (v := v) hb1).trans (ChP.store w1 T 2 (.int .i64 10) v)); clear h1)
        | (go_at_call 67; refine (hA.out _).mono ?_; rintro e w' ⟨rfl, rfl⟩))
      go_ret
      exact hfin2.out _ _ ⟨0, v, _, _, _, rfl, h2.out, k2.out⟩
    · have e2 : 49 ≤ d := by omega
      have e3 : ¬ d ≤ 57 := by omega
      go_enter Tryz.func50, Tryz.ntmps50
      go_wp2_with (first
        | (go_at_call 32; refine (hN.out).mono ?_; rintro e w1 ⟨rfl, hb1⟩; have h1 := hP.out _ hb1; have c2 := h1.c2; have t2 := h1.thawed 2; have h2 := Lib.hid (h1.erred 10 (z := 10) rfl); have k2 := Lib.hid ((ChP.of_below (T := T) (v := v) hb1).trans (ChP.store w1 T 2 (.int .i64 10) v)); clear h1)
        | (go_at_call 67; refine (hA.out _).mono ?_; rintro e w' ⟨rfl, rfl⟩))
      go_ret
      exact hfin2.out _ _ ⟨0, v, _, _, _, rfl, h2.out, k2.out⟩
  | false =>
    replace hfin1 := Lib.hid (hfin1.out rfl)
    clear hfin2
    rcases edg with e1 | e1
    · have e2 : ¬ 49 ≤ d := by omega
      go_enter Tryz.func50, Tryz.ntmps50
      go_wp2_with (first
        | (go_at_call 32; refine (hN.out).mono ?_; rintro e w1 ⟨rfl, hb1⟩; have h1 := hP.out _ hb1; have c1 := h1.c1; have t1 := h1.thawed 1; have h2 := Lib.hid (h1.goto hi2 (z := (i : Int) + 2) (by omega)); have k2 := Lib.hid ((ChP.of_below (T := T) (v := v) hb1).trans (ChP.store w1 T 1 (.int .i64 ((i : Int) + 2)) v)); clear h1)
        | (go_at_call 67; refine (hA.out _).mono ?_; rintro e w' ⟨rfl, rfl⟩)
        | (go_at_call 52; refine (hO.out _).mono ?_; rintro e w3 ⟨rfl, hb3⟩; have h3 := Lib.hid (h2.out.keep hb3); have k3 := Lib.hid (k2.out.trans (ChP.of_below hb3)); clear hb3)
        | (go_at_call 22; refine (hU.out _ h3.out).mono ?_; intro x w4 hy; obtain ⟨z, rfl, hy⟩ := hy.ret; replace hy := Lib.hid (hfin1.out _ _ (hy.from k3.out))))
      go_ret
      exact hy.out
    · have e2 : 49 ≤ d := by omega
      have e3 : ¬ d ≤ 57 := by omega
      go_enter Tryz.func50, Tryz.ntmps50
      go_wp2_with (first
        | (go_at_call 32; refine (hN.out).mono ?_; rintro e w1 ⟨rfl, hb1⟩; have h1 := hP.out _ hb1; have c1 := h1.c1; have t1 := h1.thawed 1; have h2 := Lib.hid (h1.goto hi2 (z := (i : Int) + 2) (by omega)); have k2 := Lib.hid ((ChP.of_below (T := T) (v := v) hb1).trans (ChP.store w1 T 1 (.int .i64 ((i : Int) + 2)) v)); clear h1)
        | (go_at_call 67; refine (hA.out _).mono ?_; rintro e w' ⟨rfl, rfl⟩)
        | (go_at_call 52; refine (hO.out _).mono ?_; rintro e w3 ⟨rfl, hb3⟩; have h3 := Lib.hid (h2.out.keep hb3); have k3 := Lib.hid (k2.out.trans (ChP.of_below hb3)); clear hb3)
        | (go_at_call 22; refine (hU.out _ h3.out).mono ?_; intro x w4 hy; obtain ⟨z, rfl, hy⟩ := hy.ret; replace hy := Lib.hid (hfin1.out _ _ (hy.from k3.out))))
      go_ret
      exact hy.out
theorem rescape_am {r : List UInt8} (hx : l.drop i = 92 :: r) : Calls Tryz.prog 50 #[.pointer (some ⟨T, 0, none⟩)] w (RAm w B T A n c l v ns g i cl (escE i r)) := by
  cases r with
  | nil => exact rescape_0 h hx
  | cons x r =>
    by_cases h110 : x = 110
    · subst h110; exact rescape_n h hx
    by_cases hdg : 49 ≤ x ∧ x ≤ 57
    · exact rescape_bak h hx hdg.1 hdg.2
    · exact rescape_else h hx h110 hdg
theorem rescape_any {r : List UInt8} (hx : l.drop i = 92 :: r) (hc : inG = true → bg [92, 41] (l.drop i) = false) (h40 : bg [40] r = false) (h41 : bg [41] r = false) (h123 : bg [123] r = false) :
    Calls Tryz.prog 50 #[.pointer (some ⟨T, 0, none⟩)] w (RNode false w B T A n c l v ns g i cl inG) := by
  obtain ⟨hi, -, -⟩ := drop_at hx
  have ha : atomA l i = escA i r := by unfold atomA; rw [hx]; rfl
  rw [escA_esc i h40 h41 h123] at ha
  refine (rescape_am h hx).mono fun e w' hy => ?_
  cases hs : escE i r with
  | bad q =>
    rw [hs] at hy ha
    have hq : q = 10 := by
      cases r with
      | nil => simp only [escE] at hs; injection hs with hs; exact hs.symm
      | cons x r =>
        simp only [escE] at hs
        repeat' split at hs
        all_goals first
          | cases hs; done
          | (injection hs with hs; exact hs.symm)
    exact RBad.node hy hi hc (fun ps lv => by rw [ha]; rfl) (by omega)
  | opn => rw [hs] at hy; exact hy.elim
  | bak q =>
    rw [hs] at hy ha
    simp only [RAm] at hy
    split at hy
    · exact RPut.bak hy hi hc ha (by assumption)
    · rename_i hq
      exact RBad.node hy hi hc (fun ps lv => by rw [ha]; simp only [stepA]; rw [if_neg hq]) (by decide)
  | nod j nd =>
    rw [hs] at hy ha
    have hj : i < j := by
      cases r with
      | nil => cases hs
      | cons x r =>
        simp only [escE] at hs
        repeat' split at hs
        all_goals first
          | cases hs; done
          | (injection hs with hs _; omega)
    exact RPut.node hy hi hc ha hj
end
end Go.Proofs.YtnfbgpjadnlgbaaGreat
