/- The contract of the reference's Right, where a regular expression is right. -/
import Derived.Test.YtjopmieaikgbcaaM08
import Derived.Test.YtjopmieaikgbcaaM06
import Derived.Deep.RegionLaw
import Derived.Deep.CutRange
import Derived.Deep.CutBlock
set_option linter.unusedVariables false
set_option maxRecDepth 100000
namespace Go.Proofs.Ytjopmieaikgbcaa
open Go.RowKit

theorem onceL_at {l : List Int} (h : onceL l = true) {k : Nat} (hk : k < l.length) : l[k]'hk = 1 := by
  unfold onceL at h
  rw [List.all_eq_true] at h
  simpa using h _ (List.getElem_mem hk)
theorem right_all {ns : List Nod} {g : Nat} (h : rightN ns (g : Int) = true) : (1 ≤ ns.length ∧ ns.length ≤ 1000 ∧ g ≤ 9) ∧ (∀ k (hk : k < ns.length), fitsN (ns[k]'hk) (k : Int) (g : Int) = true) ∧ (∀ i, i < ns.length - 1 → usesN ns i = 1) ∧ (∀ q, 1 ≤ q → q ≤ g → grpsN ns q = 1) := by
  have hs : 1 ≤ ns.length ∧ ns.length ≤ 1000 ∧ 0 ≤ (g : Int) ∧ (g : Int) ≤ 9 := by
    by_cases hx : 1 ≤ ns.length ∧ ns.length ≤ 1000 ∧ 0 ≤ (g : Int) ∧ (g : Int) ≤ 9
    · exact hx
    · rw [rightN_size hx] at h; cases h
  have hf : ∀ k (hk : k < ns.length), fitsN (ns[k]'hk) (k : Int) (g : Int) = true := fun k hk => by
    cases hx : fitsN (ns[k]'hk) (k : Int) (g : Int) with
    | true => rfl
    | false => rw [rightN_fits hk hx] at h; cases h
  rw [rightN_end hs hf, Bool.and_eq_true] at h
  refine ⟨⟨hs.1, hs.2.1, by omega⟩, hf, fun i hi => ?_, fun q h1 h2 => ?_⟩
  · have := onceL_at h.1 (k := i) (by simpa using hi)
    simpa using this
  · have := onceL_at h.2 (k := q - 1) (by simp; omega)
    simp only [List.getElem_map, List.getElem_range] at this
    rwa [show q - 1 + 1 = q by omega] at this
/-- The blocks, and what came ahead. -/
structure StR (W w : World) (G1 G2 G : Nat) (nd : Nod) (rv r1 r2 : Array Value) : Prop where
  re : Held w W.heap.size 24 rv
  a : Held w G1 3 r1
  b : Held w G2 3 r2
  nd : Held w G 54 (nodC nd)
  low : Below W.heap.size W w
  h12 : G1 ≠ G2
  h1 : W.heap.size ≤ G1
  h2 : W.heap.size ≤ G2
section
variable {W w w' : World} {G1 G2 G : Nat} {nd : Nod} {rv r1 r2 : Array Value} {n : Nat} {P : List Int} {q : Nat}
theorem StR.below (h : StR W w G1 G2 G nd rv r1 r2) (hb : Below w.heap.size w w') : StR W w' G1 G2 G nd rv r1 r2 :=
  ⟨h.re.keep hb, h.a.keep hb, h.b.keep hb, h.nd.keep hb, h.low.trans (hb.mono h.low.size), h.h12, h.h1, h.h2⟩
theorem StR.incA (h : StR W w G1 G2 G nd rv (rowC n (cntI P)) r2) : StR W (w.setCell ⟨G1, q, none⟩ (.int .i64 (cntI P q + 1))) G1 G2 G nd rv (rowC n (cntI (P ++ [(q : Int)]))) r2 := by
  refine ⟨h.re.far (Held.apart h.re h.a (by decide)) _, ?_, h.b.far h.h12.symm _, h.nd.far (Held.apart h.nd h.a (by decide)) _, h.low.setCell (p := ⟨G1, q, none⟩) h.h1 _, h.h12, h.h1, h.h2⟩
  have := h.a.put q (.int .i64 (cntI P q + 1))
  rw [rowC_set] at this
  have e : cntI (P ++ [(q : Int)]) = fun i => if i = q then cntI P q + 1 else cntI P i := by
    funext i
    rw [cntI_snoc]
  rw [e]
  exact this
theorem StR.incB (h : StR W w G1 G2 G nd rv r1 (rowC n (cntI P))) : StR W (w.setCell ⟨G2, q, none⟩ (.int .i64 (cntI P q + 1))) G1 G2 G nd rv r1 (rowC n (cntI (P ++ [(q : Int)]))) := by
  refine ⟨h.re.far (Held.apart h.re h.b (by decide)) _, h.a.far h.h12 _, ?_, h.nd.far (Held.apart h.nd h.b (by decide)) _, h.low.setCell (p := ⟨G2, q, none⟩) h.h2 _, h.h12, h.h1, h.h2⟩
  have := h.b.put q (.int .i64 (cntI P q + 1))
  rw [rowC_set] at this
  have e : cntI (P ++ [(q : Int)]) = fun i => if i = q then cntI P q + 1 else cntI P i := by
    funext i
    rw [cntI_snoc]
  rw [e]
  exact this
theorem StR.cellA (h : StR W w G1 G2 G nd rv (rowC n (cntI P)) r2) (hq : q < n) : w.cell? ⟨G1, q, none⟩ = some (.int .i64 (cntI P q)) ∧ w.frozen? ⟨G1, q, none⟩ = false ∧ 0 ≤ cntI P q ∧ cntI P q ≤ P.length :=
  ⟨h.a.at_ (rowC_get n _ q hq), h.a.thawed q, cntI_le P q⟩
theorem StR.cellB (h : StR W w G1 G2 G nd rv r1 (rowC n (cntI P))) (hq : q < n) : w.cell? ⟨G2, q, none⟩ = some (.int .i64 (cntI P q)) ∧ w.frozen? ⟨G2, q, none⟩ = false ∧ 0 ≤ cntI P q ∧ cntI P q ≤ P.length :=
  ⟨h.b.at_ (rowC_get n _ q hq), h.b.thawed q, cntI_le P q⟩
end
/-- What holds ahead of a round of the count. -/
def RelR2 (W : World) (G1 G2 : Nat) (ns : List Nod) (n : Nat) (rv : Array Value) (i : Value) (wr : World) : Prop :=
  ∃ k : Nat, k ≤ n ∧ i = .int .i64 (k : Nat) ∧ Held wr W.heap.size 24 rv ∧ Held wr G1 3 (rowC n (cntI ((ns.take k).flatMap partsN))) ∧ Held wr G2 3 (rowC 10 (grpsN (ns.take k))) ∧ Below W.heap.size W wr
theorem RelR2.mk {W : World} {G1 G2 : Nat} {ns : List Nod} {n : Nat} {rv : Array Value} {i : Value} {wr : World} (h : ∃ k : Nat, k ≤ n ∧ i = .int .i64 (k : Nat) ∧ Held wr W.heap.size 24 rv ∧ Held wr G1 3 (rowC n (cntI ((ns.take k).flatMap partsN))) ∧ Held wr G2 3 (rowC 10 (grpsN (ns.take k))) ∧ Below W.heap.size W wr) : RelR2 W G1 G2 ns n rv i wr := h
/-- Behind the counts of a node. -/
theorem rel2_next {W w' : World} {G1 G2 G : Nat} {ns : List Nod} {n k : Nat} {nd : Nod} {rv : Array Value} (hk : k < ns.length) (hn : n = ns.length) (hnd : ns[k]'hk = nd) (h : StR W w' G1 G2 G nd rv (rowC n (cntI ((ns.take k).flatMap partsN ++ partsN nd))) (rowC 10 (grpsN (ns.take (k + 1))))) : RelR2 W G1 G2 ns n rv (.int .i64 ((k : Int) + 1)) w' := by
  refine RelR2.mk ⟨k + 1, by omega, by rw [Int.natCast_add]; rfl, h.re, ?_, h.b, h.low⟩
  have := h.a
  rw [flat_snoc ns k hk, hnd]
  exact this
theorem held_new3' (w : World) (o1 o2 : Obj) (t : TypeId) (cs : Array Value) : Held (((w.alloc o1).alloc o2).alloc (.cells cs t)) (w.heap.size + 2) t cs := held_new3 w o1 o2 t cs

set_option maxHeartbeats 16000000 in
theorem refRight_yes (A : Option Addr) (n c : Nat) (ns : List Nod) (g : Nat) (B : Nat) (w : World) (hn : n = ns.length) (hnc : n ≤ c) (hm : c ≤ maxLen) (hB : B ≤ w.heap.size) (h : Nods w B A ns) (hr : rightN ns (g : Int) = true) :
    Calls Try.prog 11 #[.agg #[.slice A n c, .int .i64 (g : Int)]] w fun e w' => e = .returned (.bool true) ∧ Below w.heap.size w w' := by
  unfold maxLen at hm
  obtain ⟨⟨hs1, hs2, hg9⟩, hfit, huse, hgrp⟩ := right_all hr
  have h1 : 1 ≤ n := by omega
  have h2 : n ≤ 1000 := by omega
  have h3 : (g : Int) ≤ 9 := by omega
  have hMk1 := make_ints n (by omega)
  have hMk2 : ∀ w, (Instr.makeSlice 59 (.int .i64 10) (.int .i64 10)).run Try.prog w = .ok (.slice (some ⟨w.heap.size, 0, none⟩) 10 10) (w.alloc (.cells (rowC 10 (fun _ => 0)) 3)) := fun w => make_ints 10 (by decide) w
  have hH := Lib.hid hn
  have hh := Lib.hid h
  have hBB := Lib.hid hB
  have hfit' := Lib.hid hfit
  have huse' := Lib.hid huse
  have hgrp' := Lib.hid hgrp
  have hw0 := Lib.hid (held_new w 24 #[.slice A n c, .int .i64 (g : Int)])
  have hb0 := Lib.hid (show Below w.heap.size w (w.alloc (.cells #[.slice A n c, .int .i64 (g : Int)] 24)) from (Below.refl _ _).alloc (Nat.le_refl _) _)
  clear hn h hB hr hfit huse hgrp hs1 hs2
  go_enter Try.func11, Try.ntmps11
  go_wp2
  go_loopw [4] (fun iv wr => ∃ k : Nat, k ≤ n ∧ iv = .int .i64 ((k : Nat) : Int) ∧ Held wr w.heap.size 24 #[.slice A n c, .int .i64 (g : Int)] ∧ Below w.heap.size w wr) (fun iv _ => n - (intOf iv).toNat)
  case atStart => exact ⟨0, by omega, rfl, hw0.out, hb0.out⟩
  case round =>
    obtain ⟨k, hk, rfl, hRe, hb⟩ := hrel
    by_cases hlt : k < n
    · have hkl : k < ns.length := by have := hH.out; omega
      obtain ⟨ad, b, o, hA, hp, -, hd⟩ := (hh.out.below (hb.mono hBB.out)).at_ hkl
      subst hA
      have hkn : (k : Int) < (n : Int) := by omega
      have hk0 : (0 : Int) ≤ (k : Int) := by omega
      have hNd := Lib.hid (fun w' (hb' : Below w.heap.size w w') => show w'.rangeAt b o (nodL (ns[k]'hkl)) from by
        obtain ⟨ad2, b2, o2, hA2, hp2, -, hd2⟩ := (hh.out.below (hb'.mono hBB.out)).at_ hkl
        cases hA2
        rw [hp] at hp2
        cases hp2
        exact hd2)
      have hM := Lib.hid (fun w => may_fits (hfit'.out k hkl) w)
      have hre := Lib.hid (fun w' (hb' : Below wr.heap.size wr w') => (show w'.cell? ⟨w.heap.size, 0, none⟩ = some (.slice (some ad) n c) ∧ w'.cell? ⟨w.heap.size, 1, none⟩ = some (.int .i64 (g : Int)) ∧ Held w' w.heap.size 24 #[.slice (some ad) n c, .int .i64 (g : Int)] from ⟨(hRe.keep hb').at_ rfl, (hRe.keep hb').at_ rfl, hRe.keep hb'⟩))
      have hbb := Lib.hid hb
      clear hRe hb hd hMk1 hMk2 hw0 hb0
      generalize ns[k]'hkl = nd at hNd hM
      obtain ⟨kd, a, bq, lo, hi', gr, s⟩ := nd
      rw [nodV_lit] at hM
      generalize hs0 : wd s 0 = s0 at hM
      generalize hs1 : wd s 1 = s1 at hM
      generalize hs2 : wd s 2 = s2 at hM
      generalize hs3 : wd s 3 = s3 at hM
      have hNc := Lib.hid (fun w' (hb' : Below w.heap.size w w') => show w'.cell? ⟨b, o, none⟩ = some (.int .i64 kd) ∧ w'.cell? ⟨b, o + 1, none⟩ = some (.int .i64 a) ∧ w'.cell? ⟨b, o + 2, none⟩ = some (.int .i64 bq) ∧ w'.cell? ⟨b, o + 3, none⟩ = some (.int .i64 lo) ∧ w'.cell? ⟨b, o + 4, none⟩ = some (.int .i64 hi') ∧ w'.cell? ⟨b, o + 5, none⟩ = some (.int .i64 gr) ∧ w'.cell? ⟨b, o + 6, none⟩ = some (.int .u64 (s0 : Int)) ∧ w'.cell? ⟨b, o + 7, none⟩ = some (.int .u64 (s1 : Int)) ∧ w'.cell? ⟨b, o + 8, none⟩ = some (.int .u64 (s2 : Int)) ∧ w'.cell? ⟨b, o + 9, none⟩ = some (.int .u64 (s3 : Int)) from by
        have hr := hNd.out w' hb'
        subst hs0 hs1 hs2 hs3
        exact ⟨hr 0 _ rfl, hr 1 _ rfl, hr 2 _ rfl, hr 3 _ rfl, hr 4 _ rfl, hr 5 _ rfl, hr 6 _ rfl, hr 7 _ rfl, hr 8 _ rfl, hr 9 _ rfl⟩)
      clear hNd hs0 hs1 hs2 hs3
      have hx0 := Lib.hid (show Below wr.heap.size wr wr.drew from (Below.refl _ _).drew)
      go_wp2
      go_region_held3 (fun w' => (w'.cell? ⟨w.heap.size, 0, none⟩ = some (.slice (some ad) n c) ∧ w'.cell? ⟨w.heap.size, 1, none⟩ = some (.int .i64 (g : Int))) ∧ w'.cell? ⟨b, o, none⟩ = some (.int .i64 kd) ∧ w'.cell? ⟨b, o + 1, none⟩ = some (.int .i64 a) ∧ w'.cell? ⟨b, o + 2, none⟩ = some (.int .i64 bq) ∧ w'.cell? ⟨b, o + 3, none⟩ = some (.int .i64 lo) ∧ w'.cell? ⟨b, o + 4, none⟩ = some (.int .i64 hi') ∧ w'.cell? ⟨b, o + 5, none⟩ = some (.int .i64 gr) ∧ w'.cell? ⟨b, o + 6, none⟩ = some (.int .u64 (s0 : Int)) ∧ w'.cell? ⟨b, o + 7, none⟩ = some (.int .u64 (s1 : Int)) ∧ w'.cell? ⟨b, o + 8, none⟩ = some (.int .u64 (s2 : Int)) ∧ w'.cell? ⟨b, o + 9, none⟩ = some (.int .u64 (s3 : Int)))
        (first | exact ⟨⟨(hre.out _ hx0.out).1, (hre.out _ hx0.out).2.1⟩, hNc.out _ (hbb.out.trans (hx0.out.mono hbb.out.size))⟩ | exact ⟨⟨(hre.out _ hb3.out).1, (hre.out _ hb3.out).2.1⟩, hNc.out _ (hbb.out.trans (hb3.out.mono hbb.out.size))⟩ | go_keep)
        (first
        | (go_at_call 23; refine (hM.out _).mono ?_; rintro e w3 ⟨rfl, hb3⟩; replace hb3 := Lib.hid (hx0.out.trans (hb3.mono hx0.out.size))))
      go_wp2
      go_roundw
      case rel => exact ⟨k + 1, by omega, by go_num, (hre.out _ hb3.out).2.2, hbb.out.trans (hb3.out.mono hbb.out.size)⟩
      case measure => simp [intOf]; omega
    · obtain rfl : k = n := by omega
      have hbb := Lib.hid hb
      have hre0 := Lib.hid hRe
      clear hRe hb hw0 hb0
      go_wp2
      have hG1 := Lib.hid (show w.heap.size ≤ wr.heap.size from hbb.out.size)
      have hAt := Lib.hid (show RelR2 w wr.heap.size (wr.heap.size + 1) ns k #[.slice A k c, .int .i64 (g : Int)] (.int .i64 0) ((wr.alloc (.cells (rowC k (fun _ => 0)) 3)).alloc (.cells (rowC 10 (fun _ => 0)) 3)) from
        RelR2.mk ⟨0, by omega, rfl, (hre0.out.alloc _).alloc _, (held_new wr _ _).alloc _, held_new2 wr _ _ _, (hbb.out.alloc hbb.out.size _).alloc (by have := hbb.out.size; simp; omega) _⟩)
      have hG0 := Lib.hid hre0.out.lt
      clear hMk1 hMk2 hre0 hbb
      obtain ⟨G1, hG1e⟩ : ∃ G1, G1 = wr.heap.size := ⟨_, rfl⟩
      rw [← hG1e] at hG1 hAt hG0
      rw [← hG1e]
      generalize (wr.alloc (.cells (rowC k (fun _ => 0)) 3)).alloc (.cells (rowC 10 (fun _ => 0)) 3) = w5 at *
      clear hG1e
      go_loopw [7, 8] (fun iv _ wr2 => RelR2 w G1 (G1 + 1) ns k #[.slice A k c, .int .i64 (g : Int)] iv wr2) (fun iv _ _ => k - (intOf iv).toNat)
      case atStart => exact hAt.out
      case round =>
        rename World => wr2
        clear hAt
        obtain ⟨j, hj, rfl, hRe, hR1, hR2, hb⟩ := hrel
        by_cases hjk : j < k
        · have hkl : j < ns.length := by have := hH.out; omega
          obtain ⟨ad, b, o, hA, hp, -, hd⟩ := (hh.out.below (hb.mono hBB.out)).at_ hkl
          subst hA
          have hfl := Lib.hid (fun w' nd (hnd : ns[j]'hkl = nd) (h : StR w w' G1 (G1 + 1) wr2.heap.size nd #[.slice (some ad) k c, .int .i64 (g : Int)] (rowC k (cntI ((ns.take j).flatMap partsN ++ partsN nd))) (rowC 10 (grpsN (ns.take (j + 1))))) => rel2_next hkl hH.out hnd h)
          have hg5 := Lib.hid (grps_snoc ns j hkl)
          have hgn := Lib.hid (grps_same ns j hkl)
          have hft := hfit'.out j hkl
          have hfp := Lib.hid (fun p hp => fits_part hft (p := p) hp)
          have hfg := Lib.hid (fits_grp hft)
          have hPl := Lib.hid (flat_len (ns.take j))
          have hGl := Lib.hid (grp_len (ns.take j))
          rw [List.length_take] at hPl hGl
          obtain ⟨nd, hnd⟩ : ∃ nd, nd = ns[j]'hkl := ⟨_, rfl⟩
          rw [← hnd] at hd hg5 hgn hfp hfg
          have hnd' := Lib.hid hnd.symm
          have hS0 := Lib.hid (show StR w (wr2.alloc (.cells (nodC nd) 54)) G1 (G1 + 1) wr2.heap.size nd _ _ _ from ⟨hRe.alloc _, hR1.alloc _, hR2.alloc _, held_new wr2 _ _, hb.alloc hb.size _, by omega, hG1.out, by have := hG1.out; omega⟩)
          replace hd := Lib.hid hd
          have cre := hRe.at_ (i := 0) rfl
          have cre1 := hRe.lt
          clear hRe hR1 hR2 hb hnd hft
          have hjk0 : (j : Int) < (k : Int) := by omega
          have hj00 : (0 : Int) ≤ (j : Int) := by omega
          generalize hPe : (ns.take j).flatMap partsN = P at *
          replace hPe := Lib.hid hPe
          go_upto_region 15 with (first
            | (refine wpList_load_mid rfl 54 (.tmp 56) rfl b o rfl (nodL nd) _ hd.out under_nod rfl (nod_info nd) ?_)
            | (refine wpList_store_row rfl 54 (.tmp 8) (.tmp 57) rfl wr2.heap.size (nodC nd) rfl rfl 54 _ (nod_zero_lit wr2) (nod_size nd) rfl (nod_cells nd) ?_
               rw [World.setRow_alloc_new]
               generalize wr2.alloc (.cells (nodC nd) 54) = w3 at *
               generalize wr2.heap.size = G at *))
          have c0 : w3.cell? ⟨G, 0, none⟩ = some (.int .i64 nd.kind) := hS0.out.nd.at_ rfl
          have hS1 := Lib.hid (hS0.out.below (Below.refl _ w3).drew)
          by_cases hlo : nd.kind < 2 ∨ 5 < nd.kind
          · have k2 : (nd.kind == 2) = false := beq_no (by omega)
            have k3 : (nd.kind == 3) = false := beq_no (by omega)
            have k5 : (nd.kind == 5) = false := beq_no (by omega)
            have hfin := Lib.hid (show RelR2 w G1 (G1 + 1) ns k #[.slice (some ad) k c, .int .i64 (g : Int)] (.int .i64 ((j : Int) + 1)) w3 from hfl.out _ nd hnd'.out (by
              rw [partsN_else (by omega) (by omega) (by omega) (by omega), List.append_nil, hgn.out (by omega)]; exact hS0.out))
            generalize nd.kind = kd at *
            clear hS0 hS1
            rcases hlo with hlo | hlo
            · have y1 : ¬ 2 ≤ kd := by omega
              go_wp2
              go_roundw
              case rel => exact hfin.out
              case measure => simp [intOf]; omega
            · have y1 : 2 ≤ kd := by omega
              have y2 : ¬ kd ≤ 5 := by omega
              go_wp2
              go_roundw
              case rel => exact hfin.out
              case measure => simp [intOf]; omega
          · have hap := hfp.out nd.a (by
              obtain e | e | e | e : nd.kind = 2 ∨ nd.kind = 3 ∨ nd.kind = 4 ∨ nd.kind = 5 := by omega
              · rw [partsN_2 e]; simp
              · rw [partsN_3 e]; simp
              · rw [partsN_4 e]; simp
              · rw [partsN_5 e]; simp)
            obtain ⟨q, hq⟩ : ∃ q : Nat, nd.a = (q : Int) := Int.eq_ofNat_of_zero_le hap.1
            have c1 : w3.cell? ⟨G, 1, none⟩ = some (.int .i64 (q : Int)) := by rw [← hq]; exact hS0.out.nd.at_ rfl
            have hqk : q < k := by omega
            have hq0 : (0 : Int) ≤ (q : Int) := by omega
            have hq1 : (q : Int) < (k : Int) := by omega
            obtain ⟨cq, tq, hle1, hle2⟩ := hS0.out.cellA hqk
            have hPn := hPl.out
            have hle3 : cntI P q ≤ 3000 := by omega
            have hS2 := Lib.hid ((hS0.out.incA (q := q)).below (Below.refl _ _).drew)
            have hPl2 : (P ++ [(q : Int)]).length ≤ 2001 := by rw [List.length_append, List.length_singleton]; omega
            generalize hP2 : P ++ [(q : Int)] = P2 at *
            replace hP2 := Lib.hid hP2
            clear hPn hle2
            generalize cntI P q = cv at *
            have hwc : IntKind.i64.wrap (cv + 1) = cv + 1 := IntWalk.i64_in _ (by omega)
            by_cases h23 : nd.kind = 2 ∨ nd.kind = 3
            · have hbp := hfp.out nd.b (by
                rcases h23 with e | e
                · rw [partsN_2 e]; simp
                · rw [partsN_3 e]; simp)
              obtain ⟨p, hpb⟩ : ∃ p : Nat, nd.b = (p : Int) := Int.eq_ofNat_of_zero_le hbp.1
              have hpk : p < k := by omega
              have hp0 : (0 : Int) ≤ (p : Int) := by omega
              have hp1 : (p : Int) < (k : Int) := by omega
              have hpart : partsN nd = [(q : Int), (p : Int)] := by
                rcases h23 with e | e
                · rw [partsN_2 e, hq, hpb]
                · rw [partsN_3 e, hq, hpb]
              have hfin := Lib.hid (show ∀ w', StR w w' G1 (G1 + 1) G nd #[.slice (some ad) k c, .int .i64 (g : Int)] (rowC k (cntI (P2 ++ [(p : Int)]))) (rowC 10 (grpsN (ns.take j))) → RelR2 w G1 (G1 + 1) ns k #[.slice (some ad) k c, .int .i64 (g : Int)] (.int .i64 ((j : Int) + 1)) w' from fun w' hs => hfl.out _ nd hnd'.out (by
                rw [hpart, hgn.out (by omega), show P ++ [(q : Int), (p : Int)] = P2 ++ [(p : Int)] from by rw [← hP2.out]; simp]; exact hs))
              have hbc := Lib.hid (fun w' (hs : StR w w' G1 (G1 + 1) G nd #[.slice (some ad) k c, .int .i64 (g : Int)] (rowC k (cntI P2)) (rowC 10 (grpsN (ns.take j)))) => (show w'.cell? ⟨G, 2, none⟩ = some (.int .i64 (p : Int)) ∧ w'.cell? ⟨G, 0, none⟩ = some (.int .i64 nd.kind) from ⟨by rw [← hpb]; exact hs.nd.at_ rfl, hs.nd.at_ rfl⟩))
              clear hpart hpb hbp hap hq hfl hg5 hgn hS0 hS1
              rcases h23 with e | e
              all_goals
                rw [e] at c0 hbc
                replace e := Lib.hid e
                go_wp2
                go_region_law (fail)
                all_goals
                  have hs2 := hS2.out
                  have hc2 := (hbc.out _ hs2).1
                  have hc0 := (hbc.out _ hs2).2
                  obtain ⟨cp, tp, hle4, hle5⟩ := hs2.cellA hpk
                  have hle6 : cntI P2 p ≤ 3000 := by omega
                  have hS3 := Lib.hid ((hs2.incA (q := p)).below (Below.refl _ _).drew)
                  clear hle5 hs2
                  generalize cntI P2 p = cv2 at *
                  have hwc2 : IntKind.i64.wrap (cv2 + 1) = cv2 + 1 := IntWalk.i64_in _ (by omega)
                  try rw [hwc]
                  generalize (w3.setCell ⟨G1, q, none⟩ (.int .i64 (cv + 1))).drew = w4 at *
                  go_wp2
                  go_region_law (fail)
                  all_goals
                    have hfin3 := Lib.hid (hfin.out _ hS3.out)
                    have hc3 : (w4.setCell ⟨G1, p, none⟩ (.int .i64 (cv2 + 1))).drew.cell? ⟨G, 0, none⟩ = some (.int .i64 nd.kind) := hS3.out.nd.at_ rfl
                    rw [e.out] at hc3
                    try rw [hwc2]
                    generalize (w4.setCell ⟨G1, p, none⟩ (.int .i64 (cv2 + 1))).drew = w6' at *
                    clear hS3 hS2
                    go_wp2
                    go_roundw
                    case rel => exact hfin3.out
                    case measure => simp [intOf]; omega
            · have hpart : partsN nd = [(q : Int)] := by
                obtain e | e : nd.kind = 4 ∨ nd.kind = 5 := by omega
                · rw [partsN_4 e, hq]
                · rw [partsN_5 e, hq]
              by_cases h5 : nd.kind = 5
              · obtain ⟨hq5a, hq5b⟩ := hfg.out h5
                obtain ⟨p, hpg⟩ : ∃ p : Nat, nd.grp = (p : Int) := Int.eq_ofNat_of_zero_le (by omega)
                have hp10 : p < 10 := by omega
                have hp0 : (0 : Int) ≤ (p : Int) := by omega
                have hp1 : (p : Int) < 10 := by omega
                have hgs := Lib.hid (hg5.out p h5 hpg)
                have hbc := Lib.hid (fun w' (hs : StR w w' G1 (G1 + 1) G nd #[.slice (some ad) k c, .int .i64 (g : Int)] (rowC k (cntI P2)) (rowC 10 (grpsN (ns.take j)))) => (show w'.cell? ⟨G, 5, none⟩ = some (.int .i64 (p : Int)) ∧ w'.cell? ⟨G, 0, none⟩ = some (.int .i64 5) from ⟨by rw [← hpg]; exact hs.nd.at_ rfl, by rw [← h5]; exact hs.nd.at_ rfl⟩))
                unfold grpsN at hS2 hbc
                generalize hX : (((ns.take j).filter fun n => decide (n.kind = 5)).map Nod.grp) = X at hS2 hbc hGl
                have hfin := Lib.hid (show ∀ w', StR w w' G1 (G1 + 1) G nd #[.slice (some ad) k c, .int .i64 (g : Int)] (rowC k (cntI P2)) (rowC 10 (cntI (X ++ [(p : Int)]))) → RelR2 w G1 (G1 + 1) ns k #[.slice (some ad) k c, .int .i64 (g : Int)] (.int .i64 ((j : Int) + 1)) w' from fun w' hs => hfl.out _ nd hnd'.out (by
                  have e : grpsN (ns.take (j + 1)) = cntI (X ++ [(p : Int)]) := by
                    funext i
                    rw [hgs.out i, cntI_snoc]
                    unfold grpsN
                    rw [hX]
                  rw [hpart, e, hP2.out]; exact hs))
                have hXl : X.length ≤ 1000 := by have := hGl.out; omega
                replace hX := Lib.hid hX
                rw [h5] at c0
                clear hpart hap hq hfl hg5 hgn hS0 hS1 hgs hGl hfg hq5a hq5b hpg h23
                replace h5 := Lib.hid h5
                go_wp2
                go_region_law (fail)
                all_goals
                  have hs2 := hS2.out
                  have hc2 := (hbc.out _ hs2).1
                  have hc0 := (hbc.out _ hs2).2
                  obtain ⟨cp, tp, hle4, hle5⟩ := hs2.cellB hp10
                  have hle6 : cntI X p ≤ 3000 := by omega
                  have hS3 := Lib.hid ((hs2.incB (q := p)).below (Below.refl _ _).drew)
                  clear hle5 hs2
                  generalize cntI X p = cv2 at *
                  have hwc2 : IntKind.i64.wrap (cv2 + 1) = cv2 + 1 := IntWalk.i64_in _ (by omega)
                  try rw [hwc]
                  generalize (w3.setCell ⟨G1, q, none⟩ (.int .i64 (cv + 1))).drew = w4 at *
                  go_wp2
                  go_region_law (fail)
                  all_goals
                    have hfin3 := Lib.hid (hfin.out _ hS3.out)
                    try rw [hwc2]
                    generalize (w4.setCell ⟨G1 + 1, p, none⟩ (.int .i64 (cv2 + 1))).drew = w6' at *
                    clear hS3 hS2
                    go_wp2
                    go_roundw
                    case rel => exact hfin3.out
                    case measure => simp [intOf]; omega
              · have h4 : nd.kind = 4 := by omega
                have hfin := Lib.hid (show RelR2 w G1 (G1 + 1) ns k #[.slice (some ad) k c, .int .i64 (g : Int)] (.int .i64 ((j : Int) + 1)) _ from hfl.out _ nd hnd'.out (by rw [hpart, hgn.out h5, hP2.out]; exact hS2.out))
                have hc0 := hS2.out.nd.at_ (i := 0) (v := .int .i64 nd.kind) rfl
                rw [h4] at c0 hc0
                clear hpart hap hq hfl hg5 hgn hS0 hS1 hGl hfg h23 h5 hS2
                replace h4 := Lib.hid h4
                go_wp2
                go_region_law (fail)
                all_goals
                  try rw [hwc]
                  generalize (w3.setCell ⟨G1, q, none⟩ (.int .i64 (cv + 1))).drew = w4 at *
                  go_wp2
                  go_roundw
                  case rel => exact hfin.out
                  case measure => simp [intOf]; omega
        · obtain rfl : j = k := by omega
          have htk : ns.take j = ns := List.take_of_length_le (by have := hH.out; omega)
          rw [htk] at hR1 hR2
          have hbb := Lib.hid hb
          have hre1 := hRe.at_ (i := 1) rfl
          have huj := Lib.hid (fun i (hi : i < j - 1) => show wr2.cell? ⟨G1, i, none⟩ = some (.int .i64 1) from by
            have := hR1.at_ (rowC_get j _ i (by omega))
            rw [this]
            have := huse'.out i (by have := hH.out; omega)
            unfold usesN at this
            rw [this])
          have hgj := Lib.hid (fun q (h1 : 1 ≤ q) (h2 : q ≤ g) => show wr2.cell? ⟨G1 + 1, q, none⟩ = some (.int .i64 1) from by
            have := hR2.at_ (rowC_get 10 _ q (by omega))
            rw [this, hgrp'.out q h1 h2])
          clear hR1 hR2 hRe hb htk
          have hj1 : IntKind.i64.wrap ((j : Int) - 1) = (j : Int) - 1 := IntWalk.i64_in _ (by omega)
          go_wp2
          go_loop [9] (fun iv => ∃ i : Nat, i ≤ j - 1 ∧ iv = .int .i64 ((i : Nat) : Int)) (fun iv => j - (intOf iv).toNat)
          case atStart => exact ⟨0, by omega, rfl⟩
          case round =>
            obtain ⟨i, hi, rfl⟩ := hrel
            by_cases hij : i < j - 1
            · have hcell := huj.out i hij
              have hi0 : (0 : Int) ≤ (i : Int) := by omega
              have hi1 : (i : Int) < (j : Int) := by omega
              have hi2 : (i : Int) < (j : Int) - 1 := by omega
              go_wp2
              go_round
              case rel => exact ⟨i + 1, by omega, by go_num⟩
              case measure => simp [intOf]; omega
            · have hi2 : ¬ (i : Int) < (j : Int) - 1 := by omega
              go_wp2
              go_loop [10] (fun iv => ∃ q : Nat, 1 ≤ q ∧ q ≤ g + 1 ∧ iv = .int .i64 ((q : Nat) : Int)) (fun iv => 20 - (intOf iv).toNat)
              case atStart => exact ⟨1, by omega, by omega, rfl⟩
              case round =>
                obtain ⟨q, hq1, hq2, rfl⟩ := hrel
                by_cases hqg : q ≤ g
                · have hcell := hgj.out q hq1 hqg
                  have hq0 : (0 : Int) ≤ (q : Int) := by omega
                  have hq3 : (q : Int) < 10 := by omega
                  go_wp2
                  go_round
                  case rel => exact ⟨q + 1, by omega, by omega, by go_num⟩
                  case measure => simp [intOf]; omega
                · go_wp2
                  go_ret
                  exact ⟨rfl, hbb.out⟩
end Go.Proofs.Ytjopmieaikgbcaa
