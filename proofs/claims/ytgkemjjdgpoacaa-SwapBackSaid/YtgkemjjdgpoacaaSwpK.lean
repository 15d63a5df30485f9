/- Contracts: parts that are the same are told to be (package swap's Same, the reference's). -/
import Derived.Test.YtgkemjjdgpoacaaSwpQ
import Derived.Test.YtgkemjjdgpoacaaByK
import Derived.Test.YtgkemjjdgpoacaaSmB
import Derived.Shelf.Abstract
import Derived.Deep.RegionHeld3
set_option linter.unusedVariables false
set_option linter.unusedSimpArgs false
set_option maxRecDepth 100000
namespace Go.Proofs.Ytgkemjjdgpoacaa
open Go.RowKit

theorem sw_in {w : World} {B : Nat} {A : Option Addr} {l : List UInt8} (h : Byt w B A l) : Lib.BytesIn w A l.length (ints l) := by
  cases A with
  | none => obtain rfl := h.none_nil; exact Lib.BytesIn.nil _ _ _
  | some a => exact Lib.BytesIn.of_cells h.cells
theorem sw_equal {w : World} {B1 B2 : Nat} {v1 v2 : Value} {l1 l2 : List UInt8} (h1 : BytV w B1 v1 l1) (h2 : BytV w B2 v2 l2) : Calls Try.prog 37 #[v1, v2] w fun e w' => e = .returned (.bool (l1 == l2)) ∧ w = w' := by
  obtain ⟨A1, n1, c1, rfl, rfl, -, -, b1⟩ := h1
  obtain ⟨A2, n2, c2, rfl, rfl, -, -, b2⟩ := h2
  refine (Try.bytes_Equal_all A1 A2 _ c1 _ c2 (ints l1) (ints l2) w (ints_len l1) (ints_len l2) (sw_in b1) (sw_in b2)).mono fun e w' ⟨he, hw⟩ => ⟨?_, hw.symm⟩
  rw [he, ints_bytes, ints_bytes]
set_option maxHeartbeats 4000000 in
theorem samePart_self {w : World} {B : Nat} {k g : Int} {v1 v2 : Value} {b : List UInt8} (hB : B ≤ w.heap.size) (h1 : BytV w B v1 b) (h2 : BytV w B v2 b) :
    Calls Try.prog 31 #[.agg #[.int .i64 k, .int .i64 g, v1], .agg #[.int .i64 k, .int .i64 g, v2]] w fun e w' => e = .returned (.bool true) ∧ Below w.heap.size w w' := by
  have hb := Lib.hid (((Below.refl w.heap.size w).alloc (Nat.le_refl _) (.cells #[.int .i64 k, .int .i64 g, v1] 45)).alloc (by simp) (.cells #[.int .i64 k, .int .i64 g, v2] 45))
  have hP := Lib.hid ((held_new w 45 #[.int .i64 k, .int .i64 g, v1]).alloc (.cells #[.int .i64 k, .int .i64 g, v2] 45))
  have hQ := Lib.hid (held_new2 w (.cells #[.int .i64 k, .int .i64 g, v1] 45) 45 #[.int .i64 k, .int .i64 g, v2])
  have hE := Lib.hid (fun (w' : World) (hb : Below w.heap.size w w') => sw_equal (h1.below (hb.mono hB)) (h2.below (hb.mono hB)))
  have hI := Lib.hid (fun w' => isText_any k g v1 w')
  have hbb : (b == b) = true := beq_self_eq_true b
  rw [hbb] at hE
  obtain ⟨A1, n1, c1, rfl, -⟩ := h1
  obtain ⟨A2, n2, c2, rfl, -⟩ := h2
  have hc := Lib.hid (fun (w1 : World) (hb1 : Below ((w.alloc (.cells #[.int .i64 k, .int .i64 g, .slice A1 n1 c1] 45)).alloc (.cells #[.int .i64 k, .int .i64 g, .slice A2 n2 c2] 45)).heap.size ((w.alloc (.cells #[.int .i64 k, .int .i64 g, .slice A1 n1 c1] 45)).alloc (.cells #[.int .i64 k, .int .i64 g, .slice A2 n2 c2] 45)) w1) => show ((w1.cell? ⟨w.heap.size, 0, none⟩ = some (.int .i64 k) ∧ w1.cell? ⟨w.heap.size, 1, none⟩ = some (.int .i64 g) ∧ w1.cell? ⟨w.heap.size, 2, none⟩ = some (.slice A1 n1 c1)) ∧ w1.cell? ⟨w.heap.size + 1, 0, none⟩ = some (.int .i64 k) ∧ w1.cell? ⟨w.heap.size + 1, 1, none⟩ = some (.int .i64 g) ∧ w1.cell? ⟨w.heap.size + 1, 2, none⟩ = some (.slice A2 n2 c2)) ∧ Below w.heap.size w w1 from
    ⟨⟨⟨(hP.out.keep hb1).at_ rfl, (hP.out.keep hb1).at_ rfl, (hP.out.keep hb1).at_ rfl⟩, (hQ.out.keep hb1).at_ rfl, (hQ.out.keep hb1).at_ rfl, (hQ.out.keep hb1).at_ rfl⟩, hb.out.trans (hb1.mono hb.out.size)⟩)
  clear hP hQ hB hbb
  by_cases hk : k = 0
  · have e0 : (k == 0) = true := by rw [beq_iff_eq]; exact hk
    rw [e0] at hI
    replace hk := Lib.hid hk
    go_enter Try.func31, Try.ntmps31
    go_wp2_with (first
      | (go_at_call 26; refine (hI.out _).mono ?_; rintro e w1 ⟨rfl, hb1⟩; obtain ⟨⟨⟨c0, c1', c2'⟩, d0, d1, d2⟩, hb2'⟩ := hc.out w1 hb1; have hb2 := Lib.hid hb2'; clear hb2' hb1)
      | (go_at_call 37; refine (hE.out _ hb2.out).mono ?_; rintro e w3 ⟨rfl, rfl⟩))
    go_ret
    exact ⟨rfl, hb2.out⟩
  · have e0 : (k == 0) = false := by rw [beq_eq_false_iff_ne]; exact hk
    rw [e0] at hI
    by_cases hk1 : k = 1
    · have e1 : (k == 1) = true := by rw [beq_iff_eq]; exact hk1
      replace hk := Lib.hid hk
      replace hk1 := Lib.hid hk1
      go_enter Try.func31, Try.ntmps31
      go_wp2_with (go_at_call 26; refine (hI.out _).mono ?_; rintro e w1 ⟨rfl, hb1⟩; obtain ⟨⟨⟨c0, c1', c2'⟩, d0, d1, d2⟩, hb2'⟩ := hc.out w1 hb1; have hb2 := Lib.hid hb2'; clear hb2' hb1)
      go_ret
      exact ⟨ret_bool (by simp), hb2.out⟩
    · have e1 : (k == 1) = false := by rw [beq_eq_false_iff_ne]; exact hk1
      replace hk := Lib.hid hk
      replace hk1 := Lib.hid hk1
      go_enter Try.func31, Try.ntmps31
      go_wp2_with (first
        | (go_at_call 26; refine (hI.out _).mono ?_; rintro e w1 ⟨rfl, hb1⟩; obtain ⟨⟨⟨c0, c1', c2'⟩, d0, d1, d2⟩, hb2'⟩ := hc.out w1 hb1; have hb2 := Lib.hid hb2'; clear hb2' hb1)
        | (go_at_call 37; refine (hE.out _ hb2.out).mono ?_; rintro e w3 ⟨rfl, rfl⟩))
      go_ret
      exact ⟨rfl, hb2.out⟩
section
variable {w : World} {B : Nat} {A1 A2 : Option Addr} {n c1 c2 : Nat} {l : List Prt}
set_option maxHeartbeats 4000000 in
theorem same_self (hn : n = l.length) (hc1 : n ≤ c1) (hm1 : c1 ≤ maxLen) (hc2 : n ≤ c2) (hm2 : c2 ≤ maxLen) (hB : B ≤ w.heap.size) (h1 : Prts w B A1 l) (h2 : Prts w B A2 l) :
    Calls Try.prog 19 #[.slice A1 n c1, .slice A2 n c2] w fun e w' => e = .returned (.bool true) ∧ Below w.heap.size w w' := by
  have hEF : Calls Try.prog 30 #[.slice A1 n c1, .slice A2 n c2, .func (.func 31) #[] #[]] w fun e w' => e = .returned (.bool true) ∧ Below w.heap.size w w' := by
    unfold maxLen at hm1 hm2
    have eg : ∀ args w, (callFunc 31 args).run Try.prog w = .ok (.enter 31 args) w := enters_of Try.func31 (by kernel_rfl) rfl
    have hnh := Lib.hid hn
    have hBh := Lib.hid hB
    have h1h := Lib.hid h1
    have h2h := Lib.hid h2
    clear hn hB h1 h2
    go_enter Try.func30, Try.ntmps30
    go_wp2
    go_loopw [17] (fun i wr => ∃ k : Nat, k ≤ n ∧ i = .int .i64 (k : Nat) ∧ Below w.heap.size w wr) (fun i _ => n - (intOf i).toNat)
    case atStart => exact ⟨0, Nat.zero_le _, rfl, Below.refl _ _⟩
    case round =>
      obtain ⟨k, hk, rfl, hbr⟩ := hrel
      have hbrh := Lib.hid hbr
      clear hbr
      by_cases hlt : k < n
      · have hkx : k < l.length := by rw [← hnh.out]; exact hlt
        obtain ⟨ad, vb, rfl, had, c0, cc1, cc2, hvb⟩ := (h1h.out.below (hbrh.out.mono hBh.out)) k hkx
        obtain ⟨ad', vb', rfl, had', d0, d1, d2, hvb'⟩ := (h2h.out.below (hbrh.out.mono hBh.out)) k hkx
        have hS := Lib.hid (fun (w' : World) (hb : Below wr.heap.size wr w') => samePart_self (k := (l[k]'hkx).kind) (g := (l[k]'hkx).grp) (Nat.le_trans (Nat.le_trans hBh.out hbrh.out.size) hb.size) (hvb.below (hb.mono (Nat.le_trans hBh.out hbrh.out.size))) (hvb'.below (hb.mono (Nat.le_trans hBh.out hbrh.out.size))))
        obtain ⟨Av, nv, cv, rfl, -⟩ := hvb
        obtain ⟨Av', nv', cv', rfl, -⟩ := hvb'
        have hkI : (k : Int) < (n : Int) := by omega
        have hkc1 : k < c1 := by omega
        have hw2 : IntKind.i64.wrap ((k : Int) + 1) = (k : Int) + 1 := IntWalk.i64_in _ (by omega)
        have hq : (ad'.add (k * 3)).block < wr.heap.size := by rw [block_add]; exact Nat.lt_of_lt_of_le had' (Nat.le_trans hBh.out hbrh.out.size)
        generalize hp : l[k]'hkx = p at *
        replace hp := Lib.hid hp
        have hP := Lib.hid (held_new wr 45 #[.int .i64 p.kind, .int .i64 p.grp, .slice Av nv cv])
        have hb2 := Lib.hid ((Below.refl wr.heap.size wr).alloc (Nat.le_refl _) (.cells #[.int .i64 p.kind, .int .i64 p.grp, .slice Av nv cv] 45))
        have e0 := Lib.hid ((hb2.out.cell hq).trans d0)
        have e1 := Lib.hid ((hb2.out.cell (p := ⟨(ad'.add (k * 3)).block, (ad'.add (k * 3)).off + 1, none⟩) hq).trans d1)
        have e2 := Lib.hid ((hb2.out.cell (p := ⟨(ad'.add (k * 3)).block, (ad'.add (k * 3)).off + 2, none⟩) hq).trans d2)
        clear d0 d1 d2
        go_upto_region 6 with fail
        generalize wr.alloc (.cells #[.int .i64 p.kind, .int .i64 p.grp, .slice Av nv cv] 45) = w2 at *
        have d0 := e0.out
        have d1 := e1.out
        have d2 := e2.out
        clear e0 e1 e2 c0 cc1 cc2
        have hQ := Lib.hid (held_new w2 45 #[.int .i64 p.kind, .int .i64 p.grp, .slice Av' nv' cv'])
        have hP2 := Lib.hid (hP.out.alloc (.cells #[.int .i64 p.kind, .int .i64 p.grp, .slice Av' nv' cv'] 45))
        have hb3 := Lib.hid (hb2.out.alloc hb2.out.size (.cells #[.int .i64 p.kind, .int .i64 p.grp, .slice Av' nv' cv'] 45))
        go_upto_region 7 with fail
        generalize w2.alloc (.cells #[.int .i64 p.kind, .int .i64 p.grp, .slice Av' nv' cv'] 45) = w3 at *
        have p0 : w3.cell? ⟨wr.heap.size, 0, none⟩ = some (.int .i64 p.kind) := hP2.out.at_ rfl
        have p1 : w3.cell? ⟨wr.heap.size, 1, none⟩ = some (.int .i64 p.grp) := hP2.out.at_ rfl
        have p2 : w3.cell? ⟨wr.heap.size, 2, none⟩ = some (.slice Av nv cv) := hP2.out.at_ rfl
        have q0 : w3.cell? ⟨w2.heap.size, 0, none⟩ = some (.int .i64 p.kind) := hQ.out.at_ rfl
        have q1 : w3.cell? ⟨w2.heap.size, 1, none⟩ = some (.int .i64 p.grp) := hQ.out.at_ rfl
        have q2 : w3.cell? ⟨w2.heap.size, 2, none⟩ = some (.slice Av' nv' cv') := hQ.out.at_ rfl
        clear d0 d1 d2
        go_wp2_with (go_at_fn 31; refine (hS.out _ hb3.out).mono ?_; rintro e w4 ⟨rfl, hb4'⟩; have hb4 := Lib.hid (hbrh.out.trans ((hb3.out.trans (hb4'.mono hb3.out.size)).mono hbrh.out.size)))
        go_roundw
        case rel => exact ⟨k + 1, by omega, rfl, hb4.out⟩
        case measure => simp [intOf]; omega
      · obtain rfl : k = n := by omega
        go_wp2
        go_ret
        exact ⟨rfl, hbrh.out⟩
  have hE := Lib.hid hEF
  clear hEF h1 h2 hn
  go_enter Try.func19, Try.ntmps19
  go_wp2_with (go_at_call 30; refine (hE.out).mono ?_; rintro e w1 ⟨rfl, hb1⟩)
  go_ret
  exact ⟨rfl, hb1⟩
set_option maxHeartbeats 8000000 in
theorem rSame_self (hn : n = l.length) (hc1 : n ≤ c1) (hm1 : c1 ≤ maxLen) (hc2 : n ≤ c2) (hm2 : c2 ≤ maxLen) (hB : B ≤ w.heap.size) (h1 : Prts w B A1 l) (h2 : Prts w B A2 l) :
    Calls Try.prog 13 #[.slice A1 n c1, .slice A2 n c2] w fun e w' => e = .returned (.bool true) ∧ Below w.heap.size w w' := by
  unfold maxLen at hm1 hm2
  have hnh := Lib.hid hn
  have hBh := Lib.hid hB
  have h1h := Lib.hid h1
  have h2h := Lib.hid h2
  clear hn hB h1 h2
  go_enter Try.func13, Try.ntmps13
  go_wp2
  go_loopw [5] (fun i wr => ∃ k : Nat, k ≤ n ∧ i = .int .i64 (k : Nat) ∧ Below w.heap.size w wr) (fun i _ => n - (intOf i).toNat)
  case atStart => exact ⟨0, Nat.zero_le _, rfl, Below.refl _ _⟩
  case round =>
    obtain ⟨k, hk, rfl, hbr⟩ := hrel
    have hbrh := Lib.hid hbr
    clear hbr
    by_cases hlt : k < n
    · have hkx : k < l.length := by rw [← hnh.out]; exact hlt
      obtain ⟨ad, vb, rfl, had, c0, cc1, cc2, hvb⟩ := (h1h.out.below (hbrh.out.mono hBh.out)) k hkx
      obtain ⟨ad', vb', rfl, had', d0, d1, d2, hvb'⟩ := (h2h.out.below (hbrh.out.mono hBh.out)) k hkx
      have hbw := Lib.hid (show B ≤ wr.heap.size from Nat.le_trans hBh.out hbrh.out.size)
      have hSm := Lib.hid (fun (w' : World) (hb : Below wr.heap.size wr w') => show Calls Try.prog 14 #[vb, vb'] w' fun e w'' => e = .returned (.bool true) ∧ Below w'.heap.size w' w'' from by
        obtain ⟨Av, nv, cv, rfl, rfl, z1, z2, z3⟩ := hvb.below (hb.mono hbw.out)
        obtain ⟨Av', nv', cv', rfl, e2, z4, z5, z6⟩ := hvb'.below (hb.mono hbw.out)
        refine (sameB_any _ _ _ _ _ _ (l[k]'hkx).b (l[k]'hkx).b B w' rfl e2 z1 z4 z2 z3 z6).mono ?_
        rintro e w'' ⟨rfl, q, rfl⟩
        exact ⟨by rw [beq_self_eq_true], below_drewN (Below.refl _ _) q⟩)
      have hcl := Lib.hid (fun (w' : World) (hb : Below wr.heap.size wr w') => show (w'.cell? (ad.add (k * 3)) = some (.int .i64 (l[k]'hkx).kind) ∧ w'.cell? ⟨(ad.add (k * 3)).block, (ad.add (k * 3)).off + 1, none⟩ = some (.int .i64 (l[k]'hkx).grp) ∧ w'.cell? ⟨(ad.add (k * 3)).block, (ad.add (k * 3)).off + 2, none⟩ = some vb) ∧ w'.cell? (ad'.add (k * 3)) = some (.int .i64 (l[k]'hkx).kind) ∧ w'.cell? ⟨(ad'.add (k * 3)).block, (ad'.add (k * 3)).off + 1, none⟩ = some (.int .i64 (l[k]'hkx).grp) ∧ w'.cell? ⟨(ad'.add (k * 3)).block, (ad'.add (k * 3)).off + 2, none⟩ = some vb' from by
        have q1 : (ad.add (k * 3)).block < wr.heap.size := by rw [block_add]; exact Nat.lt_of_lt_of_le had hbw.out
        have q2 : (ad'.add (k * 3)).block < wr.heap.size := by rw [block_add]; exact Nat.lt_of_lt_of_le had' hbw.out
        exact ⟨⟨(hb.cell q1).trans c0, (hb.cell (p := ⟨(ad.add (k * 3)).block, _, none⟩) q1).trans cc1, (hb.cell (p := ⟨(ad.add (k * 3)).block, _, none⟩) q1).trans cc2⟩, (hb.cell q2).trans d0, (hb.cell (p := ⟨(ad'.add (k * 3)).block, _, none⟩) q2).trans d1, (hb.cell (p := ⟨(ad'.add (k * 3)).block, _, none⟩) q2).trans d2⟩)
      obtain ⟨Av, nv, cv, rfl, -⟩ := hvb
      obtain ⟨Av', nv', cv', rfl, -⟩ := hvb'
      have hkI : (k : Int) < (n : Int) := by omega
      have hw2 : IntKind.i64.wrap ((k : Int) + 1) = (k : Int) + 1 := IntWalk.i64_in _ (by omega)
      have hS0 := Lib.hid (show Below wr.heap.size wr wr.drew from below_drewN (Below.refl _ _) 1)
      clear c0 cc1 cc2 d0 d1 d2
      generalize hp : l[k]'hkx = p at *
      replace hp := Lib.hid hp
      go_upto_region 6 with fail
      go_wp2
      refine wp_region_held_drew (S := fun w' => Below wr.heap.size wr w') (by kernel_rfl) hS0.out (fun hS' => ?_)
      have hS := hS'
      clear hS'
      refine wpAnyH_take (i := 0) (v := ?_) rfl (by kernel_rfl) (by kernel_rfl) (by kernel_rfl) (fun _ _ _ h => h) (Or.inl ⟨by rfl, ?_⟩) hS ?_
      rotate_left
      · (intro w' hS'; go_simp; try with_reducible rfl)
      (try simp only [Act.put, List.getElem_toArray, List.getElem_cons_zero, List.getElem_cons_succ, List.setIfInBounds_toArray, List.set_cons_zero, List.set_cons_succ])
      refine wpAnyH_take (i := 1) (v := ?_) rfl (by kernel_rfl) (by kernel_rfl) (by kernel_rfl) (fun _ _ _ h => h) (Or.inl ⟨by rfl, ?_⟩) hS ?_
      rotate_left
      · (intro w' hS'; go_simp; try with_reducible rfl)
      (try simp only [Act.put, List.getElem_toArray, List.getElem_cons_zero, List.getElem_cons_succ, List.setIfInBounds_toArray, List.set_cons_zero, List.set_cons_succ])
      refine wpAnyH_take (i := 2) (v := ?_) rfl (by kernel_rfl) (by kernel_rfl) (by kernel_rfl) (fun _ _ _ h => h) (Or.inl ⟨by rfl, ?_⟩) hS ?_
      rotate_left
      · (intro w' hS'; go_simp; try with_reducible rfl)
      (try simp only [Act.put, List.getElem_toArray, List.getElem_cons_zero, List.getElem_cons_succ, List.setIfInBounds_toArray, List.set_cons_zero, List.set_cons_succ])
      refine wpAnyH_take (i := 3) (v := ?_) rfl (by kernel_rfl) (by kernel_rfl) (by kernel_rfl) (fun _ _ _ h => h) (Or.inl ⟨by rfl, ?_⟩) hS ?_
      rotate_left
      · (intro w' hS'; go_simp; try with_reducible rfl)
      (try simp only [Act.put, List.getElem_toArray, List.getElem_cons_zero, List.getElem_cons_succ, List.setIfInBounds_toArray, List.set_cons_zero, List.set_cons_succ])
      refine wpAnyH_take (i := 4) (v := ?_) rfl (by kernel_rfl) (by kernel_rfl) (by kernel_rfl) (fun _ _ _ h => h) (Or.inl ⟨by rfl, ?_⟩) hS ?_
      rotate_left
      · (intro w' hS'; obtain ⟨⟨a0, a1, a2⟩, b0, b1, b2⟩ := hcl.out w' hS'; go_simp; try with_reducible rfl)
      (try simp only [Act.put, List.getElem_toArray, List.getElem_cons_zero, List.getElem_cons_succ, List.setIfInBounds_toArray, List.set_cons_zero, List.set_cons_succ])
      refine wpAnyH_take (i := 5) (v := ?_) rfl (by kernel_rfl) (by kernel_rfl) (by kernel_rfl) (fun _ _ _ h => h) (Or.inl ⟨by rfl, ?_⟩) hS ?_
      rotate_left
      · (intro w' hS'; go_simp; try with_reducible rfl)
      (try simp only [Act.put, List.getElem_toArray, List.getElem_cons_zero, List.getElem_cons_succ, List.setIfInBounds_toArray, List.set_cons_zero, List.set_cons_succ])
      refine wpAnyH_take (i := 6) (v := ?_) rfl (by kernel_rfl) (by kernel_rfl) (by kernel_rfl) (fun _ _ _ h => h) (Or.inl ⟨by rfl, ?_⟩) hS ?_
      rotate_left
      · (intro w' hS'; go_simp; try with_reducible rfl)
      (try simp only [Act.put, List.getElem_toArray, List.getElem_cons_zero, List.getElem_cons_succ, List.setIfInBounds_toArray, List.set_cons_zero, List.set_cons_succ])
      refine wpAnyH_take (i := 7) (v := ?_) rfl (by kernel_rfl) (by kernel_rfl) (by kernel_rfl) (fun _ _ _ h => h) (Or.inl ⟨by rfl, ?_⟩) hS ?_
      rotate_left
      · (intro w' hS'; go_simp; try with_reducible rfl)
      (try simp only [Act.put, List.getElem_toArray, List.getElem_cons_zero, List.getElem_cons_succ, List.setIfInBounds_toArray, List.set_cons_zero, List.set_cons_succ])
      refine wpAnyH_take (i := 8) (v := ?_) rfl (by kernel_rfl) (by kernel_rfl) (by kernel_rfl) (fun _ _ _ h => h) (Or.inl ⟨by rfl, ?_⟩) hS ?_
      rotate_left
      · (intro w' hS'; go_simp; try with_reducible rfl)
      (try simp only [Act.put, List.getElem_toArray, List.getElem_cons_zero, List.getElem_cons_succ, List.setIfInBounds_toArray, List.set_cons_zero, List.set_cons_succ])
      refine wpAnyH_take (i := 9) (v := ?_) rfl (by kernel_rfl) (by kernel_rfl) (by kernel_rfl) (fun _ _ _ h => h) (Or.inl ⟨by rfl, ?_⟩) hS ?_
      rotate_left
      · (intro w' hS'; obtain ⟨⟨a0, a1, a2⟩, b0, b1, b2⟩ := hcl.out w' hS'; go_simp; try with_reducible rfl)
      (try simp only [Act.put, List.getElem_toArray, List.getElem_cons_zero, List.getElem_cons_succ, List.setIfInBounds_toArray, List.set_cons_zero, List.set_cons_succ])
      refine wpAnyH_take (i := 10) (v := ?_) rfl (by kernel_rfl) (by kernel_rfl) (by kernel_rfl) (fun _ _ _ h => h) (Or.inl ⟨by rfl, ?_⟩) hS ?_
      rotate_left
      · (intro w' hS'; go_simp; try with_reducible rfl)
      (try simp only [Act.put, List.getElem_toArray, List.getElem_cons_zero, List.getElem_cons_succ, List.setIfInBounds_toArray, List.set_cons_zero, List.set_cons_succ])
      refine wpAnyH_take (i := 11) (v := ?_) rfl (by kernel_rfl) (by kernel_rfl) (by kernel_rfl) (fun _ _ _ h => h) (Or.inl ⟨by rfl, ?_⟩) hS ?_
      rotate_left
      · (intro w' hS'; go_simp; try with_reducible rfl)
      (try simp only [Act.put, List.getElem_toArray, List.getElem_cons_zero, List.getElem_cons_succ, List.setIfInBounds_toArray, List.set_cons_zero, List.set_cons_succ])
      refine wpAnyH_take (i := 12) (v := ?_) rfl (by kernel_rfl) (by kernel_rfl) (by kernel_rfl) (fun _ _ _ h => h) (Or.inl ⟨by rfl, ?_⟩) hS ?_
      rotate_left
      · (intro w' hS'; go_simp; try with_reducible rfl)
      (try simp only [Act.put, List.getElem_toArray, List.getElem_cons_zero, List.getElem_cons_succ, List.setIfInBounds_toArray, List.set_cons_zero, List.set_cons_succ])
      refine wpAnyH_take (i := 13) (v := ?_) rfl (by kernel_rfl) (by kernel_rfl) (by kernel_rfl) (fun _ _ _ h => h) (Or.inl ⟨by rfl, ?_⟩) hS ?_
      rotate_left
      · (intro w' hS'; go_simp; try with_reducible rfl)
      (try simp only [Act.put, List.getElem_toArray, List.getElem_cons_zero, List.getElem_cons_succ, List.setIfInBounds_toArray, List.set_cons_zero, List.set_cons_succ])
      refine wpAnyH_take (i := 14) (v := ?_) rfl (by kernel_rfl) (by kernel_rfl) (by kernel_rfl) (fun _ _ _ h => h) (Or.inl ⟨by rfl, ?_⟩) hS ?_
      rotate_left
      · (intro w' hS'; go_simp; try with_reducible rfl)
      (try simp only [Act.put, List.getElem_toArray, List.getElem_cons_zero, List.getElem_cons_succ, List.setIfInBounds_toArray, List.set_cons_zero, List.set_cons_succ])
      refine wpAnyH_take (i := 15) (v := ?_) rfl (by kernel_rfl) (by kernel_rfl) (by kernel_rfl) (fun _ _ _ h => h) (Or.inl ⟨by rfl, ?_⟩) hS ?_
      rotate_left
      · (intro w' hS'; go_simp; try with_reducible rfl)
      (try simp only [Act.put, List.getElem_toArray, List.getElem_cons_zero, List.getElem_cons_succ, List.setIfInBounds_toArray, List.set_cons_zero, List.set_cons_succ])
      refine wpAnyH_take (i := 16) (v := ?_) rfl (by kernel_rfl) (by kernel_rfl) (by kernel_rfl) (fun _ _ _ h => h) (Or.inl ⟨by rfl, ?_⟩) hS ?_
      rotate_left
      · (intro w' hS'; obtain ⟨⟨a0, a1, a2⟩, b0, b1, b2⟩ := hcl.out w' hS'; go_simp; try with_reducible rfl)
      (try simp only [Act.put, List.getElem_toArray, List.getElem_cons_zero, List.getElem_cons_succ, List.setIfInBounds_toArray, List.set_cons_zero, List.set_cons_succ])
      refine wpAnyH_take (i := 17) (v := ?_) rfl (by kernel_rfl) (by kernel_rfl) (by kernel_rfl) (fun _ _ _ h => h) (Or.inl ⟨by rfl, ?_⟩) hS ?_
      rotate_left
      · (intro w' hS'; go_simp; try with_reducible rfl)
      (try simp only [Act.put, List.getElem_toArray, List.getElem_cons_zero, List.getElem_cons_succ, List.setIfInBounds_toArray, List.set_cons_zero, List.set_cons_succ])
      refine wpAnyH_take (i := 18) (v := ?_) rfl (by kernel_rfl) (by kernel_rfl) (by kernel_rfl) (fun _ _ _ h => h) (Or.inl ⟨by rfl, ?_⟩) hS ?_
      rotate_left
      · (intro w' hS'; go_simp; try with_reducible rfl)
      (try simp only [Act.put, List.getElem_toArray, List.getElem_cons_zero, List.getElem_cons_succ, List.setIfInBounds_toArray, List.set_cons_zero, List.set_cons_succ])
      refine wpAnyH_take (i := 19) (v := ?_) rfl (by kernel_rfl) (by kernel_rfl) (by kernel_rfl) (fun _ _ _ h => h) (Or.inl ⟨by rfl, ?_⟩) hS ?_
      rotate_left
      · (intro w' hS'; go_simp; try with_reducible rfl)
      (try simp only [Act.put, List.getElem_toArray, List.getElem_cons_zero, List.getElem_cons_succ, List.setIfInBounds_toArray, List.set_cons_zero, List.set_cons_succ])
      refine wpAnyH_take (i := 20) (v := ?_) rfl (by kernel_rfl) (by kernel_rfl) (by kernel_rfl) (fun _ _ _ h => h) (Or.inl ⟨by rfl, ?_⟩) hS ?_
      rotate_left
      · (intro w' hS'; go_simp; try with_reducible rfl)
      (try simp only [Act.put, List.getElem_toArray, List.getElem_cons_zero, List.getElem_cons_succ, List.setIfInBounds_toArray, List.set_cons_zero, List.set_cons_succ])
      refine wpAnyH_take (i := 21) (v := ?_) rfl (by kernel_rfl) (by kernel_rfl) (by kernel_rfl) (fun _ _ _ h => h) (Or.inl ⟨by rfl, ?_⟩) hS ?_
      rotate_left
      · (intro w' hS'; obtain ⟨⟨a0, a1, a2⟩, b0, b1, b2⟩ := hcl.out w' hS'; go_simp; try with_reducible rfl)
      (try simp only [Act.put, List.getElem_toArray, List.getElem_cons_zero, List.getElem_cons_succ, List.setIfInBounds_toArray, List.set_cons_zero, List.set_cons_succ])
      refine wpAnyH_take (i := 22) (v := ?_) rfl (by kernel_rfl) (by kernel_rfl) (by kernel_rfl) (fun _ _ _ h => h) (Or.inl ⟨by rfl, ?_⟩) hS ?_
      rotate_left
      · (intro w' hS'; go_simp; try with_reducible rfl)
      (try simp only [Act.put, List.getElem_toArray, List.getElem_cons_zero, List.getElem_cons_succ, List.setIfInBounds_toArray, List.set_cons_zero, List.set_cons_succ])
      refine wpAnyH_take (i := 23) (v := ?_) rfl (by kernel_rfl) (by kernel_rfl) (by kernel_rfl) (fun _ _ _ h => h) (Or.inl ⟨by rfl, ?_⟩) hS ?_
      rotate_left
      · (intro w' hS'; go_simp; try with_reducible rfl)
      (try simp only [Act.put, List.getElem_toArray, List.getElem_cons_zero, List.getElem_cons_succ, List.setIfInBounds_toArray, List.set_cons_zero, List.set_cons_succ])
      refine wpAnyH_take (i := 24) (v := ?_) rfl (by kernel_rfl) (by kernel_rfl) (by kernel_rfl) (fun _ _ _ h => h) (Or.inl ⟨by rfl, ?_⟩) hS ?_
      rotate_left
      · (intro w' hS'; go_simp; try with_reducible rfl)
      (try simp only [Act.put, List.getElem_toArray, List.getElem_cons_zero, List.getElem_cons_succ, List.setIfInBounds_toArray, List.set_cons_zero, List.set_cons_succ])
      refine wpAnyH_take (i := 25) (v := ?_) rfl (by kernel_rfl) (by kernel_rfl) (by kernel_rfl) (fun _ _ _ h => h) (Or.inl ⟨by rfl, ?_⟩) hS ?_
      rotate_left
      · (intro w' hS'; go_simp; try with_reducible rfl)
      (try simp only [Act.put, List.getElem_toArray, List.getElem_cons_zero, List.getElem_cons_succ, List.setIfInBounds_toArray, List.set_cons_zero, List.set_cons_succ])
      refine wpAnyH_take (i := 26) (v := ?_) rfl (by kernel_rfl) (by kernel_rfl) (by kernel_rfl) (fun _ _ _ h => h) (Or.inl ⟨by rfl, ?_⟩) hS ?_
      rotate_left
      · (intro w' hS'; go_simp; try with_reducible rfl)
      (try simp only [Act.put, List.getElem_toArray, List.getElem_cons_zero, List.getElem_cons_succ, List.setIfInBounds_toArray, List.set_cons_zero, List.set_cons_succ])
      refine wpAnyH_take (i := 27) (v := ?_) rfl (by kernel_rfl) (by kernel_rfl) (by kernel_rfl) (fun _ _ _ h => h) (Or.inl ⟨by rfl, ?_⟩) hS ?_
      rotate_left
      · (intro w' hS'; go_simp; try with_reducible rfl)
      (try simp only [Act.put, List.getElem_toArray, List.getElem_cons_zero, List.getElem_cons_succ, List.setIfInBounds_toArray, List.set_cons_zero, List.set_cons_succ])
      refine wpAnyH_take (i := 28) (v := ?_) rfl (by kernel_rfl) (by kernel_rfl) (by kernel_rfl) (fun _ _ _ h => h) (Or.inl ⟨by rfl, ?_⟩) hS ?_
      rotate_left
      · (intro w' hS'; go_simp; try with_reducible rfl)
      (try simp only [Act.put, List.getElem_toArray, List.getElem_cons_zero, List.getElem_cons_succ, List.setIfInBounds_toArray, List.set_cons_zero, List.set_cons_succ])
      refine wpAnyH_take (i := 29) (v := ?_) rfl (by kernel_rfl) (by kernel_rfl) (by kernel_rfl) (fun _ _ _ h => h) (Or.inl ⟨by rfl, ?_⟩) hS ?_
      rotate_left
      · (intro w' hS'; obtain ⟨⟨a0, a1, a2⟩, b0, b1, b2⟩ := hcl.out w' hS'; go_simp; try with_reducible rfl)
      (try simp only [Act.put, List.getElem_toArray, List.getElem_cons_zero, List.getElem_cons_succ, List.setIfInBounds_toArray, List.set_cons_zero, List.set_cons_succ])
      refine wpAnyH_take (i := 30) (v := ?_) rfl (by kernel_rfl) (by kernel_rfl) (by kernel_rfl) (fun _ _ _ h => h) (Or.inl ⟨by rfl, ?_⟩) hS ?_
      rotate_left
      · (intro w' hS'; go_simp; try with_reducible rfl)
      (try simp only [Act.put, List.getElem_toArray, List.getElem_cons_zero, List.getElem_cons_succ, List.setIfInBounds_toArray, List.set_cons_zero, List.set_cons_succ])
      refine wpAnyH_take (i := 31) (v := ?_) rfl (by kernel_rfl) (by kernel_rfl) (by kernel_rfl) (fun _ _ _ h => h) (Or.inl ⟨by rfl, ?_⟩) hS ?_
      rotate_left
      · (intro w' hS'; go_simp; try with_reducible rfl)
      (try simp only [Act.put, List.getElem_toArray, List.getElem_cons_zero, List.getElem_cons_succ, List.setIfInBounds_toArray, List.set_cons_zero, List.set_cons_succ])
      refine wpAnyH_take (i := 32) (v := ?_) rfl (by kernel_rfl) (by kernel_rfl) (by kernel_rfl) (fun _ _ _ h => h) (Or.inl ⟨by rfl, ?_⟩) hS ?_
      rotate_left
      · (intro w' hS'; go_simp; try with_reducible rfl)
      (try simp only [Act.put, List.getElem_toArray, List.getElem_cons_zero, List.getElem_cons_succ, List.setIfInBounds_toArray, List.set_cons_zero, List.set_cons_succ])
      refine wpAnyH_take (i := 33) (v := ?_) rfl (by kernel_rfl) (by kernel_rfl) (by kernel_rfl) (fun _ _ _ h => h) (Or.inl ⟨by rfl, ?_⟩) hS ?_
      rotate_left
      · (intro w' hS'; go_simp; try with_reducible rfl)
      (try simp only [Act.put, List.getElem_toArray, List.getElem_cons_zero, List.getElem_cons_succ, List.setIfInBounds_toArray, List.set_cons_zero, List.set_cons_succ])
      refine wpAnyH_take (i := 34) (v := ?_) rfl (by kernel_rfl) (by kernel_rfl) (by kernel_rfl) (fun _ _ _ h => h) (Or.inl ⟨by rfl, ?_⟩) hS ?_
      rotate_left
      · (intro w' hS'; obtain ⟨⟨a0, a1, a2⟩, b0, b1, b2⟩ := hcl.out w' hS'; go_simp; try with_reducible rfl)
      (try simp only [Act.put, List.getElem_toArray, List.getElem_cons_zero, List.getElem_cons_succ, List.setIfInBounds_toArray, List.set_cons_zero, List.set_cons_succ])
      refine wpAnyH_ready (rs := [35]) (by kernel_rfl) (by simp) ?_
      refine AllReadyH.cons rfl (fun K hK => ?_) AllReadyH.nil
      go_simp
      refine (hSm.out _ hS).mono ?_
      rintro e w3 ⟨rfl, hb3⟩
      go_simp
      refine hK.out _ _ (hS.trans (hb3.mono hS.size)) (fun _ => ?_)
      clear hK K
      replace hS := hS.trans (hb3.mono hS.size)
      (try simp only [Act.put, List.getElem_toArray, List.getElem_cons_zero, List.getElem_cons_succ, List.setIfInBounds_toArray, List.set_cons_zero, List.set_cons_succ])
      refine wpAnyH_take (i := 36) (v := ?_) rfl (by kernel_rfl) (by kernel_rfl) (by kernel_rfl) (fun _ _ _ h => h) (Or.inl ⟨by rfl, ?_⟩) hS ?_
      rotate_left
      · (intro w' hS'; go_simp; try with_reducible rfl)
      (try simp only [Act.put, List.getElem_toArray, List.getElem_cons_zero, List.getElem_cons_succ, List.setIfInBounds_toArray, List.set_cons_zero, List.set_cons_succ])
      refine wpAnyH_take (i := 37) (v := ?_) rfl (by kernel_rfl) (by kernel_rfl) (by kernel_rfl) (fun _ _ _ h => h) (Or.inl ⟨by rfl, ?_⟩) hS ?_
      rotate_left
      · (intro w' hS'; go_simp; try with_reducible rfl)
      (try simp only [Act.put, List.getElem_toArray, List.getElem_cons_zero, List.getElem_cons_succ, List.setIfInBounds_toArray, List.set_cons_zero, List.set_cons_succ])
      refine wpAnyH_done (by kernel_rfl) ?_ _
      go_wp2
      go_roundw
      case rel => exact ⟨k + 1, by omega, rfl, hbrh.out.trans (hS.mono hbrh.out.size)⟩
      case measure => simp [intOf]; omega
    · obtain rfl : k = n := by omega
      go_wp2
      go_ret
      exact ⟨rfl, hbrh.out⟩
end
end Go.Proofs.Ytgkemjjdgpoacaa
