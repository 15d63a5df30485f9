/- What the parser's calls leave; contract: set. -/
import Derived.Test.YtnfbgpjadnlgbabM36
set_option linter.unusedVariables false
set_option maxRecDepth 100000
namespace Go.Proofs.Ytnfbgpjadnlgbab
open Go.RowKit

/-- What a call leaves that puts one node, having read to j. -/
def YPut (w : World) (B T : Nat) (A : Option Addr) (n c : Nat) (l : List UInt8) (v : Value) (ns : List Nod) (g : Nat) (cl : Nat → Bool) (j : Nat) (nd : Nod) (e : Ending) (w' : World) : Prop :=
  (ns.length < 1000 ∧ ∃ v', e = .returned (.int .i64 (ns.length : Int)) ∧ Psr w' B T A n c l v' (ns ++ [nd]) g j cl 0 ∧ ChP w w' T v v') ∨
  (¬ ns.length < 1000 ∧ ∃ v', e = .returned (.int .i64 (-1)) ∧ Psr w' B T A n c l v' ns g j cl 8 ∧ ChP w w' T v v')
/-- What a call leaves that went wrong. -/
def YBad (w : World) (B T : Nat) (A : Option Addr) (n c : Nat) (l : List UInt8) (v : Value) (p q : Nat) (e : Ending) (w' : World) : Prop :=
  ∃ v' ns g cl, e = .returned (.int .i64 (-1)) ∧ Psr w' B T A n c l v' ns g p cl q ∧ ChP w w' T v v'
theorem Held.chp {w w' : World} {G T : Nat} {t : TypeId} {cs : Array Value} {v v' : Value} (h : Held w G t cs) (k : ChP w w' T v v') (h1 : G ≠ T) (h2 : some G ≠ v.ownBlock) : Held w' G t cs := (k.far G h.lt h1 h2).trans h
theorem ChP.new_own {w w' : World} {T G : Nat} {v v' : Value} (k : ChP w w' T v v') (hG : G < w.heap.size) (hv : some G ≠ v.ownBlock) : some G ≠ v'.ownBlock := fun e => by
  rcases k.row _ e.symm with q | q
  · exact hv q.symm
  · omega
theorem Held.cells4 {w : World} {B : Nat} {t : TypeId} {v0 v1 v2 v3 : Value} (h : Held w B t #[v0, v1, v2, v3]) :
    w.cell? ⟨B, 0, none⟩ = some v0 ∧ w.cell? ⟨B, 1, none⟩ = some v1 ∧ w.cell? ⟨B, 2, none⟩ = some v2 ∧ w.cell? ⟨B, 3, none⟩ = some v3 := ⟨h.at_ rfl, h.at_ rfl, h.at_ rfl, h.at_ rfl⟩
section
variable {w w' : World} {B T : Nat} {A : Option Addr} {n c : Nat} {l : List UInt8} {v v' : Value} {ns ns' : List Nod} {g g' i : Nat} {cl : Nat → Bool} {e : Nat}
theorem YPut.yes {j : Nat} {nd : Nod} (hl : ns.length < 1000) (h : Psr w' B T A n c l v' (ns ++ [nd]) g j cl 0) (hc : ChP w w' T v v') : YPut w B T A n c l v ns g cl j nd (.returned (.int .i64 (ns.length : Int))) w' := .inl ⟨hl, _, rfl, h, hc⟩
theorem YPut.no {j : Nat} {nd : Nod} (hl : ¬ ns.length < 1000) (h : Psr w' B T A n c l v' ns g j cl 8) (hc : ChP w w' T v v') : YPut w B T A n c l v ns g cl j nd (.returned (.int .i64 (-1))) w' := .inr ⟨hl, _, rfl, h, hc⟩
theorem YPut.from {w0 : World} {v0 : Value} {j : Nat} {nd : Nod} {x : Ending} (h : YPut w B T A n c l v ns g cl j nd x w') (h0 : ChP w0 w T v0 v) : YPut w0 B T A n c l v0 ns g cl j nd x w' := by
  rcases h with ⟨a, v', b, k, m⟩ | ⟨a, v', b, k, m⟩
  · exact .inl ⟨a, v', b, k, h0.trans m⟩
  · exact .inr ⟨a, v', b, k, h0.trans m⟩
theorem Psr.own_lt (h : Psr w B T A n c l v ns g i cl e) {G : Nat} (hG : w.heap.size ≤ G) : some G ≠ v.ownBlock := fun e => by
  have := (h.own.lt G e.symm).2; omega
/-- A builder's call, where there is room, and where there is none. -/
theorem Psr.room (h : Psr w B T A n c l v ns g i cl e) {nd : Nod} (hl : ns.length < 1000) (hf : fitsN nd (ns.length : Int) (g : Int) = true) {x : Ending} (hb : BldRet w B T 0 v (putI ns g nd) (putL ns g nd) g x w') :
    ∃ v', x = .returned (.int .i64 (ns.length : Int)) ∧ Psr w' B T A n c l v' (ns ++ [nd]) g i cl e ∧ ChP w w' T v v' := by
  obtain ⟨v', h1, h2, h3⟩ := hb
  have hc := canPut_of hl hf
  rw [putI_yes hc] at h1
  rw [putL_yes hc] at h2
  exact ⟨v', h1, h.built (Nat.le_refl _) h2 h3, h3.chp⟩
theorem Psr.full (h : Psr w B T A n c l v ns g i cl e) {nd : Nod} (hl : ¬ ns.length < 1000) {x : Ending} (hb : BldRet w B T 0 v (putI ns g nd) (putL ns g nd) g x w') :
    ∃ v', x = .returned (.int .i64 (-1)) ∧ Psr w' B T A n c l v' ns g i cl e ∧ ChP w w' T v v' := by
  obtain ⟨v', h1, h2, h3⟩ := hb
  have hc : canPut ns g nd = false := canPut_full (by omega)
  rw [putI_no hc] at h1
  rw [putL_no hc] at h2
  exact ⟨v', h1, h.built (Nat.le_refl _) h2 h3, h3.chp⟩
end

set_option maxHeartbeats 4000000 in
theorem bset_any {w : World} {B T : Nat} {A : Option Addr} {n c : Nat} {l : List UInt8} {v : Value} {ns : List Nod} {g i : Nat} {cl : Nat → Bool} (h : Psr w B T A n c l v ns g i cl 0) (k : Nat) (kk : Int) (hkk : kk = (k : Int)) (hk : i + k ≤ n) (s : Nat → Bool) :
    Calls Try.prog 52 #[.pointer (some ⟨T, 0, none⟩), .int .i64 kk, .agg (setC s)] w (YPut w B T A n c l v ns g cl (i + k) (setN s)) := by
  have hns : n ≤ 100000 := h.txt.2.2.2.1
  have c3 := h.c3
  have t3 := h.thawed 3
  have h1 := h.goto' hk (z := (i : Int) + kk) (by omega)
  have hsz : (w.setCell ⟨T, 3, none⟩ (.int .i64 ((i : Int) + kk))).heap.size = w.heap.size := by simp
  have hb0 : Below (w.setCell ⟨T, 3, none⟩ (.int .i64 ((i : Int) + kk))).heap.size (w.setCell ⟨T, 3, none⟩ (.int .i64 ((i : Int) + kk))) ((w.setCell ⟨T, 3, none⟩ (.int .i64 ((i : Int) + kk))).alloc (.cells (setC s) 32)) := (Below.refl _ _).alloc (Nat.le_refl _) _
  have hx := Lib.hid ((ChP.store w T 3 (.int .i64 ((i : Int) + kk)) v).trans (ChP.of_below (T := T) (v := v) hb0))
  have hTl := h.lt
  have hGT : w.heap.size ≠ T := by omega
  have hTG := hGT.symm
  have hGv := Lib.hid (h.own_lt (Nat.le_refl w.heap.size))
  have hG := held_new (w.setCell ⟨T, 3, none⟩ (.int .i64 ((i : Int) + kk))) 32 (setC s)
  rw [hsz] at hG
  replace h1 := h1.keep hb0
  have hk0 : kk ≤ 100000 := by omega
  have hk1 : 0 ≤ kk := by omega
  have hi0 : (i : Int) ≤ 100000 := by omega
  clear hb0 h hkk hsz
  unfold setV at *
  rw [show setC s = #[.int .u64 (wd s 0 : Nat), .int .u64 (wd s 1 : Nat), .int .u64 (wd s 2 : Nat), .int .u64 (wd s 3 : Nat)] from rfl] at *
  have hS := Lib.hid (fun (w1 : World) (h1 : Psr w1 B T A n c l v ns g (i + k) cl 0) => set_any B T 0 v ns g w1 h1.bldr s)
  unfold setV at hS
  rw [show setC s = #[.int .u64 (wd s 0 : Nat), .int .u64 (wd s 1 : Nat), .int .u64 (wd s 2 : Nat), .int .u64 (wd s 3 : Nat)] from rfl] at hS
  generalize wd s 0 = s0 at *
  generalize wd s 1 = s1 at *
  generalize wd s 2 = s2 at *
  generalize wd s 3 = s3 at *
  have h1d := Lib.hid (h1.keep (Below.refl _ _).drew)
  have h1' := Lib.hid h1
  have hGd := Lib.hid hG.drew
  have hxd := Lib.hid (hx.out.trans (ChP.of_below (Below.refl _ _).drew))
  clear h1 hG
  by_cases hl : ns.length < 1000
  · have hl' := Lib.hid hl
    go_enter Try.func52, Try.ntmps52
    go_wp2
    go_region_held3 (fun w' => w'.cell? ⟨w.heap.size, 0, none⟩ = some (.int .u64 (s0 : Int)) ∧ w'.cell? ⟨w.heap.size, 1, none⟩ = some (.int .u64 (s1 : Int)) ∧ w'.cell? ⟨w.heap.size, 2, none⟩ = some (.int .u64 (s2 : Int)) ∧ w'.cell? ⟨w.heap.size, 3, none⟩ = some (.int .u64 (s3 : Int)))
      (first | exact hGd.out.cells4 | go_keep)
      (first
      | (go_at_call 59; refine (hS.out _ h1d.out).mono ?_; intro x w2 hx2; obtain ⟨v2, rfl, h2, k2⟩ := h1d.out.room hl'.out (fits_set s _ _) hx2; clear hx2; replace hGd := Lib.hid (hGd.out.chp k2 hGT hGv.out); replace h2 := Lib.hid h2; replace k2 := Lib.hid (hxd.out.trans k2))
      | (go_at_call 18; refine (put_yes T ns.length _).mono ?_; rintro x w3 ⟨rfl, rfl⟩))
    all_goals
      go_wp2
      go_ret
      exact YPut.yes hl'.out h2.out k2.out
  · have hl' := Lib.hid hl
    go_enter Try.func52, Try.ntmps52
    go_wp2
    go_region_held3 (fun w' => w'.cell? ⟨w.heap.size, 0, none⟩ = some (.int .u64 (s0 : Int)) ∧ w'.cell? ⟨w.heap.size, 1, none⟩ = some (.int .u64 (s1 : Int)) ∧ w'.cell? ⟨w.heap.size, 2, none⟩ = some (.int .u64 (s2 : Int)) ∧ w'.cell? ⟨w.heap.size, 3, none⟩ = some (.int .u64 (s3 : Int)))
      (first | exact hGd.out.cells4 | go_keep)
      (first
      | (go_at_call 59; refine (hS.out _ h1d.out).mono ?_; intro x w2 hx2; obtain ⟨v2, rfl, h2, k2⟩ := h1d.out.full hl'.out hx2; clear hx2; have hGv2 := Lib.hid (k2.new_own hGd.out.lt hGv.out); replace hGd := Lib.hid (hGd.out.chp k2 hGT hGv.out); replace h2 := Lib.hid h2; replace k2 := Lib.hid (hxd.out.trans k2))
      | (go_at_call 18; refine (put_no h2.out).mono ?_; rintro x w3 ⟨rfl, h3, k3⟩; replace h3 := Lib.hid h3; replace hGd := Lib.hid (hGd.out.chp k3 hGT hGv2.out); replace k3 := Lib.hid (k2.out.trans k3)))
    all_goals
      go_wp2
      go_ret
      exact YPut.no hl'.out h3.out k3.out
end Go.Proofs.Ytnfbgpjadnlgbab
