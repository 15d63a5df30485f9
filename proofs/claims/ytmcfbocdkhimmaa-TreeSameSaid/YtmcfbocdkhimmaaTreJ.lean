/- Contract: Least. -/
import Derived.Test.YtmcfbocdkhimmaaTreH
import Derived.Test.YtmcfbocdkhimmaaTreI
set_option linter.unusedVariables false
namespace Go.Proofs.Ytmcfbocdkhimmaa
open Go.RowKit

/-- The least of the first k nodes, each by those ahead. -/
def leastTo (ns : List Nod) : Nat → Nat → Int
  | 0 => fun _ => 0
  | k + 1 => fun i => if i = k then (match ns[k]? with | some n => min (leastI n (leastTo ns k)) 65537 | none => 0) else leastTo ns k i
theorem leastTo_next (ns : List Nod) (k : Nat) (h : k < ns.length) : leastTo ns (k + 1) = fun i => if i = k then min (leastI (ns[k]'h) (leastTo ns k)) 65537 else leastTo ns k i := by
  show (fun i => if i = k then (match ns[k]? with | some n => min (leastI n (leastTo ns k)) 65537 | none => 0) else leastTo ns k i) = _
  rw [List.getElem?_eq_getElem h]
noncomputable def leastNs (ns : List Nod) (g : Int) : Int := if rightN ns g = true then leastTo ns ns.length (ns.length - 1) else 0
theorem rightN_all {ns : List Nod} {g : Int} (h : rightN ns g = true) : (1 ≤ ns.length ∧ ns.length ≤ 1000 ∧ 0 ≤ g ∧ g ≤ 9) ∧ ∀ k (hk : k < ns.length), fitsN (ns[k]'hk) (k : Int) g = true := by
  unfold rightN at h
  rw [Bool.and_eq_true] at h
  obtain ⟨h1, h2⟩ := h
  rw [Bool.and_eq_true] at h2
  replace h2 := h2.1
  simp only [Bool.and_eq_true, decide_eq_true_eq] at h1
  exact ⟨⟨h1.1.1.1, h1.1.1.2, h1.1.2, h1.2⟩, @of_decide_eq_true _ (Classical.propDecidable _) h2⟩
theorem leastTo_low (ns : List Nod) (hl : ∀ k (hk : k < ns.length), Lst (ns[k]'hk) ns.length) (k : Nat) (hk : k ≤ ns.length) : LowF (leastTo ns k) := by
  induction k with
  | zero => intro i; exact ⟨Int.le_refl _, by show (0 : Int) ≤ 65537; omega⟩
  | succ k ih =>
    have ih := ih (by omega)
    rw [leastTo_next ns k (by omega)]
    intro i
    have h1 := least_low ih (hl k (by omega))
    by_cases hi : i = k
    · simp only [hi, if_true]; omega
    · simp only [hi, if_false]; exact ih i

def RelLs (w : World) (ns : List Nod) (n R : Nat) (i : Value) (wr : World) : Prop :=
  ∃ k : Nat, k ≤ n ∧ i = .int .i64 (k : Nat) ∧ Held wr R 3 (rowC n (leastTo ns k)) ∧ Below w.heap.size w wr
theorem RelLs.mk {w : World} {ns : List Nod} {n R : Nat} {i : Value} {wr : World} (h : ∃ k : Nat, k ≤ n ∧ i = .int .i64 (k : Nat) ∧ Held wr R 3 (rowC n (leastTo ns k)) ∧ Below w.heap.size w wr) : RelLs w ns n R i wr := h

set_option maxRecDepth 100000 in
set_option maxHeartbeats 16000000 in
theorem treeLeast_any (A : Option Addr) (n c : Nat) (ns : List Nod) (g : Int) (B : Nat) (w : World) (hn : n = ns.length) (hnc : n ≤ c) (hm : c ≤ maxLen) (hB : B ≤ w.heap.size) (h : Nods w B A ns) :
    Calls Try.prog 15 #[.agg #[.slice A n c, .int .i64 g]] w fun e w' => e = .returned (.int .i64 (leastNs ns g)) ∧ Below w.heap.size w w' := by
  have hb0 : Below w.heap.size w (w.alloc (.cells #[.slice A n c, .int .i64 g] 24)) := (Below.refl _ _).alloc (Nat.le_refl _) _
  have hX0 := Lib.hid (held_new w 24 #[.slice A n c, .int .i64 g])
  have hRt := Lib.hid (right_any A n c ns g B (w.alloc (.cells #[.slice A n c, .int .i64 g] 24)) hn hnc hm (Nat.le_trans hB hb0.size) (h.below (hb0.mono hB)))
  replace hb0 := Lib.hid hb0
  by_cases hr : rightN ns g = true
  · rw [show leastNs ns g = leastTo ns ns.length (ns.length - 1) by simp [leastNs, hr]]
    rw [hr] at hRt
    obtain ⟨⟨h1, h2, -, -⟩, hfit⟩ := rightN_all hr
    have hL : ∀ k (hk : k < ns.length), Lst (ns[k]'hk) ns.length := fun k hk => fits_lst (hfit k hk) (by omega)
    have hLow := Lib.hid (leastTo_low ns hL)
    replace hL := Lib.hid hL
    clear hr hfit
    rw [← hn] at h1 h2 ⊢
    unfold maxLen at hm
    have hMk1 := make_ints n (by omega)
    have hH := Lib.hid hn
    have hh := Lib.hid h
    have hBB := Lib.hid hB
    clear hn h hB
    go_enter Try.func15, Try.ntmps15
    go_wp2_with (go_at_call 16; refine (hRt.out).mono ?_; rintro e w1 ⟨rfl, hb1⟩; have hX1 := hX0.out.keep hb1; have hcx := hX1.at_ (i := 0) rfl; have hcy := (hX1.alloc (.cells (rowC n fun _ => 0) 3)).at_ (i := 0) rfl)
    have hbW := hb0.out.trans (hb1.mono hb0.out.size)
    clear hX0 hRt hb0 hb1 hMk1 hcx hcy hX1
    have hRow := held_new w1 3 (rowC n fun _ => 0)
    have hbW2 := hbW.alloc hbW.size (.cells (rowC n fun _ => 0) 3)
    have hRge := Lib.hid hbW.size
    generalize w1.alloc (.cells (rowC n fun _ => 0) 3) = w2 at *
    generalize w1.heap.size = R at *
    clear hbW
    replace hRow := Lib.hid hRow
    replace hbW2 := Lib.hid hbW2
    go_loopw [4, 5, 16] (fun _ _ i wr => RelLs w ns n R i wr) (fun _ _ i _ => n - (intOf i).toNat)
    case atStart => exact RelLs.mk ⟨0, by omega, rfl, hRow.out, hbW2.out⟩
    case round =>
      obtain ⟨k, hk, rfl, hR, hb⟩ := hrel
      by_cases hlt : k < n
      · have hkl : k < ns.length := by have := hH.out; omega
        obtain ⟨ad, b, o, hA, hp, -, hd⟩ := (hh.out.below (hb.mono hBB.out)).at_ hkl
        subst hA
        have hLk := Lib.hid (hL.out k hkl)
        rw [← hH.out] at hLk
        have hnx := Lib.hid (leastTo_next ns k hkl)
        have hlo := hLow.out k (by have := hH.out; omega)
        have hli := least_low hlo hLk.out
        have hlI := Lib.hid (fun wr' (h : Held wr' R 3 (rowC n (leastTo ns k))) => leastOf_any (ns[k]'hkl) n R (leastTo ns k) wr' h hlo hLk.out h2)
        generalize ns[k]'hkl = nd at *
        obtain ⟨hli0, hli1⟩ := hli
        generalize leastI nd (leastTo ns k) = x at *
        have hS3 := Lib.hid (hR.alloc (.cells (nodC nd) 42))
        have hb3 := Lib.hid (hb.alloc hb.size (.cells (nodC nd) 42))
        have hN3 := Lib.hid (held_new wr 42 (nodC nd))
        replace hd := Lib.hid hd
        clear hR hb hlo hLk
        go_wp2_with (first
          | (refine wpList_load_mid rfl 42 (.tmp 19) rfl b o rfl (nodL nd) _ hd.out under_nod rfl (nod_info nd) ?_)
          | (refine wpList_store_row rfl 42 (.tmp 5) (.tmp 20) rfl wr.heap.size (nodC nd) rfl rfl 42 _ (nod_zero_lit wr) (nod_size nd) rfl (nod_cells nd) ?_
             rw [World.setRow_alloc_new]
             generalize wr.alloc (.cells (nodC nd) 42) = w3 at *
             generalize wr.heap.size = G at *)
          | (refine wpList_load_row rfl 42 (.tmp 5) rfl G rfl 42 _ (0, 0) _ hN3.out under_nod rfl (nod_size nd) ?_)
          | (go_at_call 22; refine (hlI.out w3 hS3.out).mono ?_; rintro e w4 ⟨rfl, hb4⟩; have hS4 := Lib.hid (hS3.out.keep hb4); have hb5 := Lib.hid (hb3.out.trans (hb4.mono hb3.out.size)); have hcell := hS4.out.at_ (rowC_get n _ k hlt); have hthaw := hS4.out.thawed k))
        go_roundw
        case rel =>
          refine RelLs.mk ⟨k + 1, by omega, by go_num, ?_, hb5.out.setCell hRge.out _⟩
          have := hS4.out.put k (.int .i64 (min x 65537))
          rw [rowC_set] at this
          rw [hnx.out]
          exact this
        case measure => simp [intOf]; omega
      · obtain rfl : k = n := by omega
        obtain ⟨m, rfl⟩ : ∃ m, k = m + 1 := ⟨k - 1, by omega⟩
        have hcell := hR.at_ (rowC_get (m + 1) _ m (by omega))
        have hb' := Lib.hid hb
        obtain ⟨x, hx⟩ : ∃ x, x = leastTo ns (m + 1) m := ⟨_, rfl⟩
        rw [← hx] at hcell
        replace hx := Lib.hid hx
        clear hR hb hLow hL hh
        go_wp2
        go_ret
        exact ⟨ret_int hx.out, hb'.out⟩
  · rw [show leastNs ns g = 0 by simp [leastNs, hr]]
    have hr' : rightN ns g = false := by simpa using hr
    rw [hr'] at hRt
    clear hr hr' h hn hB
    go_enter Try.func15, Try.ntmps15
    go_wp2_with (go_at_call 16; refine (hRt.out).mono ?_; rintro e w1 ⟨rfl, hb1⟩)
    go_ret
    exact ⟨rfl, hb0.out.trans (hb1.mono hb0.out.size)⟩
end Go.Proofs.Ytmcfbocdkhimmaa
