/- Contracts of the reference: Builder.Put, where there is no room; Reader.Put. Contracts of the reference: Alnum, One. -/
import Derived.Test.YtcloimdndcbchaaGreatM38
import Derived.Test.YtcloimdndcbchaaGreatM23
import Derived.Test.YtcloimdndcbchaaGreatM16
set_option linter.unusedVariables false
set_option maxRecDepth 100000
namespace Go.Proofs.YtcloimdndcbchaaGreat
open Go.RowKit

set_option maxHeartbeats 4000000 in
theorem refBput_full (B T o : Nat) (v : Value) (ns : List Nod) (g : Nat) (n : Nod) (w : World) (h : Bldr w B T o v ns g) (hl : ¬ ns.length < 1000) :
    Calls Tryz.prog 38 #[.pointer (some ⟨T, o, none⟩), nodV n] w (BldRet w B T o v (-1) ns g) := by
  have hb0 : Below w.heap.size w (w.alloc (.cells (nodC n) 39)) := (Below.refl _ _).alloc (Nat.le_refl _) _
  have h0 := h.keep hb0
  have hcv := h0.cv
  have hTl := h.lt
  obtain ⟨A, cap, rfl, hk1, hk2, -⟩ := h.slice
  have hlen := h.len
  have hh := Lib.hid h
  have hh0 := Lib.hid h0
  clear h h0
  unfold maxLen at hk2
  have g1 : decide (1000 ≤ (ns.length : Int)) = true := decide_eq_true (by omega)
  have hlen : ns.length = 1000 := by omega
  rw [hlen] at hcv g1
  replace hlen := Lib.hid hlen
  rw [hlen.out] at hh hh0 ⊢
  clear hk1 hl
  have hb0' := Lib.hid hb0
  clear hb0
  show Calls Tryz.prog 38 #[.pointer (some ⟨T, o, none⟩), .agg (nodC n)] w _
  go_enter Tryz.func38, Tryz.ntmps38
  go_wp2
  go_quiet (fail)
  go_wp2
  go_ret
  exact BldRet.mk rfl ((hh0.out).keep (below_drewN (Below.refl _ _) _)) (Chg.of_below (below_drewN hb0'.out _))

/-- What a call leaves that puts one node, having read to j. -/
def RPut (w : World) (B T : Nat) (A : Option Addr) (n c : Nat) (l : List UInt8) (v : Value) (ns : List Nod) (g j : Nat) (cl : Nat → Bool) (nd : Nod) (e : Ending) (w' : World) : Prop :=
  (ns.length < 1000 ∧ ∃ v', e = .returned (.int .i64 (ns.length : Int)) ∧ Rdr w' B T A n c l v' (ns ++ [nd]) g j cl 0 ∧ ChP w w' T v v') ∨
  (¬ ns.length < 1000 ∧ ∃ v', e = .returned (.int .i64 (-1)) ∧ Rdr w' B T A n c l v' ns g j cl 8 ∧ ChP w w' T v v')
section
variable {w w' : World} {B T : Nat} {A : Option Addr} {n c : Nat} {l : List UInt8} {v v' : Value} {ns ns' : List Nod} {g g' i : Nat} {cl : Nat → Bool} {e : Nat}
theorem RPut.yes {j : Nat} {nd : Nod} (hl : ns.length < 1000) (h : Rdr w' B T A n c l v' (ns ++ [nd]) g j cl 0) (hc : ChP w w' T v v') : RPut w B T A n c l v ns g j cl nd (.returned (.int .i64 (ns.length : Int))) w' := .inl ⟨hl, _, rfl, h, hc⟩
theorem RPut.no {j : Nat} {nd : Nod} (hl : ¬ ns.length < 1000) (h : Rdr w' B T A n c l v' ns g j cl 8) (hc : ChP w w' T v v') : RPut w B T A n c l v ns g j cl nd (.returned (.int .i64 (-1))) w' := .inr ⟨hl, _, rfl, h, hc⟩
theorem RPut.from {w0 : World} {v0 : Value} {j : Nat} {nd : Nod} {x : Ending} (h : RPut w B T A n c l v ns g j cl nd x w') (h0 : ChP w0 w T v0 v) : RPut w0 B T A n c l v0 ns g j cl nd x w' := by
  rcases h with ⟨a, v', b, k, m⟩ | ⟨a, v', b, k, m⟩
  · exact .inl ⟨a, v', b, k, h0.trans m⟩
  · exact .inr ⟨a, v', b, k, h0.trans m⟩
theorem RPut.ret {j : Nat} {nd : Nod} {x : Ending} (h : RPut w B T A n c l v ns g j cl nd x w') : ∃ z, x = .returned (.int .i64 z) ∧ RPut w B T A n c l v ns g j cl nd (.returned (.int .i64 z)) w' := by
  rcases h with ⟨a, v', rfl, b⟩ | ⟨a, v', rfl, b⟩
  · exact ⟨_, rfl, .inl ⟨a, v', rfl, b⟩⟩
  · exact ⟨_, rfl, .inr ⟨a, v', rfl, b⟩⟩

set_option maxHeartbeats 8000000 in
theorem rput_any (h : Rdr w B T A n c l v ns g i cl 0) (nd : Nod) (hf : fitsN nd (ns.length : Int) (g : Int) = true) :
    Calls Tryz.prog 25 #[.pointer (some ⟨T, 0, none⟩), nodV nd] w (RPut w B T A n c l v ns g i cl nd) := by
  have hb0 : Below w.heap.size w (w.alloc (.cells (nodC nd) 39)) := (Below.refl _ _).alloc (Nat.le_refl _) _
  have hN0 := held_new w 39 (nodC nd)
  have h0 := h.keep hb0
  have c2 := h0.c2
  have hTl := h.lt
  have hne : T ≠ w.heap.size := by omega
  have hap := Lib.hid (show some w.heap.size ≠ v.ownBlock from fun e => absurd (h.own.lt _ e.symm).2 (Nat.lt_irrefl _))
  have hP := Lib.hid (fun (w1 : World) (h1 : Rdr w1 B T A n c l v ns g i cl 0) (hl : ns.length < 1000) => refBput_room B T 3 v ns g nd w1 h1.bldr hl hf)
  have hQ := Lib.hid (fun (w1 : World) (h1 : Rdr w1 B T A n c l v ns g i cl 0) (hl : ¬ ns.length < 1000) => refBput_full B T 3 v ns g nd w1 h1.bldr hl)
  have hk0 := Lib.hid (ChP.of_below (T := T) (v := v) hb0)
  have hh0 := Lib.hid h0
  clear h h0 hf
  obtain ⟨nd', hnd⟩ : ∃ x, x = nd := ⟨_, rfl⟩
  rw [← hnd]
  rw [← hnd] at hP hQ hh0 c2 hN0 hb0 hk0
  generalize hnn : ns ++ [nd'] = nn at hP
  replace hnn := Lib.hid hnn
  replace hnd := Lib.hid hnd
  obtain ⟨kd, a, b, lo, hi', gr, s⟩ := nd'
  rw [show nodC ⟨kd, a, b, lo, hi', gr, s⟩ = #[.int .i64 kd, .int .i64 a, .int .i64 b, .int .i64 lo, .int .i64 hi', .int .i64 gr, .int .u64 (wd s 0 : Nat), .int .u64 (wd s 1 : Nat), .int .u64 (wd s 2 : Nat), .int .u64 (wd s 3 : Nat)] from rfl] at hN0 hb0 hh0 c2 hk0
  simp only [nodV_lit] at hP hQ ⊢
  generalize wd s 0 = s0 at *
  generalize wd s 1 = s1 at *
  generalize wd s 2 = s2 at *
  generalize wd s 3 = s3 at *
  have hN1 := Lib.hid hN0.drew
  have hB1 := Lib.hid (hh0.out.keep (Below.refl _ _).drew)
  have hk1 := Lib.hid (hk0.out.trans (ChP.of_below (Below.refl _ _).drew))
  clear hN0 hh0 hb0 hk0
  by_cases hl : ns.length < 1000
  · have hl' := Lib.hid hl
    have hlz : ¬ (ns.length : Int) < 0 := by omega
    generalize hL : (ns.length : Int) = L at *
    replace hL := Lib.hid hL
    clear hl hQ
    go_enter Tryz.func25, Tryz.ntmps25
    go_wp2
    go_region_held3 (fun w' => w'.cell? ⟨w.heap.size, 0, none⟩ = some (.int .i64 kd) ∧ w'.cell? ⟨w.heap.size, 1, none⟩ = some (.int .i64 a) ∧ w'.cell? ⟨w.heap.size, 2, none⟩ = some (.int .i64 b) ∧ w'.cell? ⟨w.heap.size, 3, none⟩ = some (.int .i64 lo) ∧ w'.cell? ⟨w.heap.size, 4, none⟩ = some (.int .i64 hi') ∧ w'.cell? ⟨w.heap.size, 5, none⟩ = some (.int .i64 gr) ∧ w'.cell? ⟨w.heap.size, 6, none⟩ = some (.int .u64 (s0 : Int)) ∧ w'.cell? ⟨w.heap.size, 7, none⟩ = some (.int .u64 (s1 : Int)) ∧ w'.cell? ⟨w.heap.size, 8, none⟩ = some (.int .u64 (s2 : Int)) ∧ w'.cell? ⟨w.heap.size, 9, none⟩ = some (.int .u64 (s3 : Int)))
      (first | exact hN1.out.cells10 | go_keep)
      (first
      | (go_at_call 38; refine (hP.out _ hB1.out hl'.out).mono ?_; rintro x w2 ⟨v2, rfl, h2, k2⟩; have h3 := Lib.hid (hB1.out.built (Nat.le_refl _) h2 k2); replace k2 := k2.chp; replace hN1 := Lib.hid (hN1.out.chp k2 hne.symm hap.out); replace k2 := Lib.hid (hk1.out.trans k2); clear h2))
    all_goals
      go_wp2
      go_ret
      exact .inl ⟨hl'.out, v2, (by show Ending.returned (.int .i64 L) = _; rw [hL.out]), (by rw [hnn.out]; exact h3.out), k2.out⟩
  · have hl' := Lib.hid hl
    clear hl hP
    go_enter Tryz.func25, Tryz.ntmps25
    go_wp2
    go_region_held3 (fun w' => w'.cell? ⟨w.heap.size, 0, none⟩ = some (.int .i64 kd) ∧ w'.cell? ⟨w.heap.size, 1, none⟩ = some (.int .i64 a) ∧ w'.cell? ⟨w.heap.size, 2, none⟩ = some (.int .i64 b) ∧ w'.cell? ⟨w.heap.size, 3, none⟩ = some (.int .i64 lo) ∧ w'.cell? ⟨w.heap.size, 4, none⟩ = some (.int .i64 hi') ∧ w'.cell? ⟨w.heap.size, 5, none⟩ = some (.int .i64 gr) ∧ w'.cell? ⟨w.heap.size, 6, none⟩ = some (.int .u64 (s0 : Int)) ∧ w'.cell? ⟨w.heap.size, 7, none⟩ = some (.int .u64 (s1 : Int)) ∧ w'.cell? ⟨w.heap.size, 8, none⟩ = some (.int .u64 (s2 : Int)) ∧ w'.cell? ⟨w.heap.size, 9, none⟩ = some (.int .u64 (s3 : Int)))
      (first | exact hN1.out.cells10 | go_keep)
      (first
      | (go_at_call 38; refine (hQ.out _ hB1.out hl'.out).mono ?_; rintro x w2 ⟨v2, rfl, h2, k2⟩; have h3 := hB1.out.built (Nat.le_refl _) h2 k2; replace k2 := k2.chp; replace hN1 := Lib.hid (hN1.out.chp k2 hne.symm hap.out); have e2 := h3.c2; have t2 := h3.thawed 2; have h4 := Lib.hid (h3.erred 8 (z := 8) rfl); have k4 := Lib.hid ((hk1.out.trans k2).trans (ChP.store w2 T 2 (.int .i64 8) v2)); clear h2 h3 k2))
    all_goals
      go_wp2
      go_ret
      exact .inr ⟨hl'.out, v2, rfl, h4.out, k4.out⟩
theorem rput_off (h : Rdr w B T A n c l v ns g i cl e) (he : e ≠ 0) (nd : Nod) :
    Calls Tryz.prog 25 #[.pointer (some ⟨T, 0, none⟩), nodV nd] w fun x w' => x = .returned (.int .i64 0) ∧ Below w.heap.size w w' := by
  have hb0 : Below w.heap.size w (w.alloc (.cells (nodC nd) 39)) := (Below.refl _ _).alloc (Nat.le_refl _) _
  have c2 := (h.keep hb0).c2
  have heb : ((e : Int) != 0) = true := by rw [bne_iff_ne]; omega
  replace hb0 := Lib.hid hb0
  clear h he
  show Calls Tryz.prog 25 #[.pointer (some ⟨T, 0, none⟩), .agg (nodC nd)] w _
  go_enter Tryz.func25, Tryz.ntmps25
  go_wp2
  go_ret
  exact ⟨rfl, hb0.out⟩
end
end Go.Proofs.YtcloimdndcbchaaGreat

set_option linter.unusedVariables false
set_option maxRecDepth 100000
namespace Go.Proofs.YtcloimdndcbchaaGreat
open Go.RowKit

theorem inRow_al (c : UInt8) : inRow [65, 90, 97, 122, 48, 57] (c.toNat : Int) = isAl c := by
  unfold isAl cAlnum cAlpha cUpper cLower cDigit
  rw [Bool.eq_iff_iff]
  simp [inRow, isW]
  omega
theorem refAlnum_any (c : UInt8) (w : World) : Calls Tryz.prog 59 #[.int .i64 (c.toNat : Int)] w fun e w' => e = .returned (.bool (isAl c)) ∧ w = w' := by
  have h0 : (0 : Int) ≤ (c.toNat : Int) := by omega
  have h1 : (c.toNat : Int) < 256 := by have := UInt8.toNat_lt c; omega
  have hw : IntKind.u8.wrap (c.toNat : Int) = (c.toNat : Int) := IntWalk.u8_in _ (by omega)
  have hI := Lib.hid (in_any ⟨#[65, 90, 97, 122, 48, 57]⟩ (c.toNat : Int) w (by decide))
  rw [show inRow (ByteArray.mk #[65, 90, 97, 122, 48, 57]).data.toList (c.toNat : Int) = isAl c from inRow_al c] at hI
  generalize isAl c = r at *
  generalize (c.toNat : Int) = d at *
  go_enter Tryz.func59, Tryz.ntmps59
  go_wp2_with (go_at_call 72; refine (hI.out).mono ?_; rintro e w' ⟨rfl, rfl⟩)
  go_ret
  exact ⟨rfl, rfl⟩
theorem oneF_more (c : UInt8) : (fun x => noneF x || decide (x = c.toNat)) = oneF c := by
  funext x
  simp [noneF, oneF, oneF.ofB, eq_comm]
theorem or_zero_u64 (n : Nat) (hn : n < 18446744073709551616) : bits .or .u64 ((0 : Nat) : Int) (n : Int) = (n : Int) := by
  rw [bits_or_u64_nat 0 n (by decide) hn, Nat.zero_or]
theorem one_cells (c : UInt8) {K i : Nat} (he : c.toNat = 64 * K + i) (hi : i < 64) (hK : K = 0 ∨ K = 1 ∨ K = 2 ∨ K = 3) (w : World) : setC (oneF c) = (setC noneF).setIfInBounds K (.int .u64 ((bitN c.toNat : Nat) : Int)) := by
  have hz := set_new w noneF
  have hs := hz.more he hi hK
  rw [oneF_more, show wd noneF K = 0 from wd_none K, or_zero_u64 _ (bitN_lt _)] at hs
  have h2 := heap_setCell_same _ w.heap.size K _ _ (.int .u64 ((bitN c.toNat : Nat) : Int)) hz
  unfold SetAt at hs
  rw [hs] at h2
  injection h2 with h2
  injection h2
set_option maxHeartbeats 4000000 in
theorem refOne_any (c : UInt8) (w : World) : Calls Tryz.prog 42 #[.int .u8 (c.toNat : Int)] w fun e w' => e = .returned (.agg (setC (oneF c))) ∧ Below w.heap.size w w' := by
  have hc : c.toNat < 256 := UInt8.toNat_lt c
  obtain ⟨K, i, he, hi, hK⟩ := byte_parts c.toNat hc
  have h0 := tdiv_of he hi
  have h1 := ediv_of he hi
  have hset := one_cells c he hi hK w
  rw [hset, setC_noneF]
  have m1 : (0 : Int) ≤ (c.toNat : Int) % 64 := by omega
  have m2 : (c.toNat : Int) % 64 ≤ 64 := by omega
  have mt : ((c.toNat : Int) % 64).toNat = c.toNat % 64 := by omega
  have hpw : IntKind.u64.wrap ((2 : Int) ^ (c.toNat % 64)) = ((bitN c.toNat : Nat) : Int) := by
    rw [show (2 : Int) ^ (c.toNat % 64) = ((bitN c.toNat : Nat) : Int) by simp [bitN]]
    exact IntWalk.u64_in _ (by have := bitN_lt c.toNat; omega)
  clear he hi hc hset
  generalize c.toNat = x at *
  generalize bitN x = bt at *
  rcases hK with rfl | rfl | rfl | rfl
  all_goals
    go_enter Tryz.func42, Tryz.ntmps42
    go_wp2
  all_goals
    exact bodyPost_ret (results_cell_row Tryz.results42 _ _ w.heap.size 37 _ (0, 0) _ rfl ((held_new w 37 _).alloc _) Tryz.underlying37 rfl (by kernel_rfl)) rfl ⟨rfl, ((Below.refl w.heap.size w).alloc (Nat.le_refl _) _).alloc (by simp) _⟩
end Go.Proofs.YtcloimdndcbchaaGreat
