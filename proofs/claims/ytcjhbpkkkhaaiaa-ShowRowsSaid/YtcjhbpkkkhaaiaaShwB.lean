/- Layer 4: the contracts of a byte's mark, the program's and the reference's. -/
import Derived.Test.YtcjhbpkkkhaaiaaProg
import Derived.Test.YtcjhbpkkkhaaiaaDigA
import Derived.Test.YtcjhbpkkkhaaiaaShwA
namespace Go.Proofs.Ytcjhbpkkkhaaiaa
open Go.RowKit

theorem conv_at (l : List UInt8) (n c b : Nat) (hn : n = l.length) (W : World) (h : ∀ (j : Nat) (hj : j < l.length), W.cell? ⟨b, j, none⟩ = some (.int .u8 ((l[j]'hj).toNat : Int))) :
    (convert 22 9 (.slice (some ⟨b, 0, none⟩) n c)).run Try.prog W = .ok (.string ⟨l.toArray⟩) W := by
  subst hn
  exact run_convert_bytes_back (P := Try.prog) W 22 9 5 ⟨b, 0, none⟩ c l Try.underlying22 Try.underlying5 Try.underlying9 (by
    intro j hj
    rw [add_zero_off, h j hj])
theorem u8_of {x : Int} (h0 : 0 ≤ x) (h1 : x ≤ 255) : ((UInt8.ofNat x.toNat).toNat : Int) = x := by simp; omega
theorem conv1 (x : Int) (h0 : 0 ≤ x) (h1 : x ≤ 255) (W : World) (b : Nat) (hc : W.cell? ⟨b, 0, none⟩ = some (.int .u8 x)) :
    (convert 22 9 (.slice (some ⟨b, 0, none⟩) 1 1)).run Try.prog W = .ok (.string ⟨#[UInt8.ofNat x.toNat]⟩) W :=
  conv_at [UInt8.ofNat x.toNat] 1 1 b rfl W (fun j hj => by
    obtain rfl : j = 0 := by simp at hj; omega
    rw [hc]; simp only [List.getElem_cons_zero, u8_of h0 h1])
theorem conv2 (x y : Int) (h0 : 0 ≤ x ∧ x ≤ 255) (h1 : 0 ≤ y ∧ y ≤ 255) (W : World) (b : Nat) (hc : W.cell? ⟨b, 0, none⟩ = some (.int .u8 x)) (hd : W.cell? ⟨b, 1, none⟩ = some (.int .u8 y)) :
    (convert 22 9 (.slice (some ⟨b, 0, none⟩) 2 2)).run Try.prog W = .ok (.string ⟨#[UInt8.ofNat x.toNat, UInt8.ofNat y.toNat]⟩) W :=
  conv_at [UInt8.ofNat x.toNat, UInt8.ofNat y.toNat] 2 2 b rfl W (fun j hj => by
    match j, hj with
    | 0, _ => rw [hc]; simp only [List.getElem_cons_zero, u8_of h0.1 h0.2]
    | 1, _ => rw [hd]; simp only [List.getElem_cons_succ, List.getElem_cons_zero, u8_of h1.1 h1.2])
theorem conv3 (x y z : Int) (h0 : 0 ≤ x ∧ x ≤ 255) (h1 : 0 ≤ y ∧ y ≤ 255) (h2 : 0 ≤ z ∧ z ≤ 255) (W : World) (b : Nat) (hc : W.cell? ⟨b, 0, none⟩ = some (.int .u8 x)) (hd : W.cell? ⟨b, 1, none⟩ = some (.int .u8 y))
    (he : W.cell? ⟨b, 2, none⟩ = some (.int .u8 z)) :
    (convert 22 9 (.slice (some ⟨b, 0, none⟩) 3 3)).run Try.prog W = .ok (.string ⟨#[UInt8.ofNat x.toNat, UInt8.ofNat y.toNat, UInt8.ofNat z.toNat]⟩) W :=
  conv_at [UInt8.ofNat x.toNat, UInt8.ofNat y.toNat, UInt8.ofNat z.toNat] 3 3 b rfl W (fun j hj => by
    match j, hj with
    | 0, _ => rw [hc]; simp only [List.getElem_cons_zero, u8_of h0.1 h0.2]
    | 1, _ => rw [hd]; simp only [List.getElem_cons_succ, List.getElem_cons_zero, u8_of h1.1 h1.2]
    | 2, _ => rw [he]; simp only [List.getElem_cons_succ, List.getElem_cons_zero, u8_of h2.1 h2.2])
theorem conv4 (x y z u : Int) (h0 : 0 ≤ x ∧ x ≤ 255) (h1 : 0 ≤ y ∧ y ≤ 255) (h2 : 0 ≤ z ∧ z ≤ 255) (h3 : 0 ≤ u ∧ u ≤ 255) (W : World) (b : Nat) (hc : W.cell? ⟨b, 0, none⟩ = some (.int .u8 x)) (hd : W.cell? ⟨b, 1, none⟩ = some (.int .u8 y))
    (he : W.cell? ⟨b, 2, none⟩ = some (.int .u8 z)) (hf : W.cell? ⟨b, 3, none⟩ = some (.int .u8 u)) :
    (convert 22 9 (.slice (some ⟨b, 0, none⟩) 4 4)).run Try.prog W = .ok (.string ⟨#[UInt8.ofNat x.toNat, UInt8.ofNat y.toNat, UInt8.ofNat z.toNat, UInt8.ofNat u.toNat]⟩) W :=
  conv_at [UInt8.ofNat x.toNat, UInt8.ofNat y.toNat, UInt8.ofNat z.toNat, UInt8.ofNat u.toNat] 4 4 b rfl W (fun j hj => by
    match j, hj with
    | 0, _ => rw [hc]; simp only [List.getElem_cons_zero, u8_of h0.1 h0.2]
    | 1, _ => rw [hd]; simp only [List.getElem_cons_succ, List.getElem_cons_zero, u8_of h1.1 h1.2]
    | 2, _ => rw [he]; simp only [List.getElem_cons_succ, List.getElem_cons_zero, u8_of h2.1 h2.2]
    | 3, _ => rw [hf]; simp only [List.getElem_cons_succ, List.getElem_cons_zero, u8_of h3.1 h3.2])

theorem isPrint_any (c : Int) (w : World) :
    Calls Try.prog 23 #[.int .u8 c] w fun e w' => e = .returned (.bool (cGraph c || c == 32)) ∧ w = w' := by
  have h := Lib.hid (is_any ⟨#[112, 114, 105, 110, 116]⟩ c w)
  go_enter Try.func23, Try.ntmps23
  go_wp2_with (go_at_call 29; refine (h.out).mono ?_; rintro e w' ⟨rfl, rfl⟩)
  go_ret
  exact ⟨ret_bool (by rfl), rfl⟩

theorem bits7 (x : Int) (h0 : 0 ≤ x) (h1 : x ≤ 255) : bits BinOp.and IntKind.u8 x 7 = x % 8 := by
  obtain ⟨n, rfl⟩ := Int.eq_ofNat_of_zero_le h0
  have := List.all_eq_true.1 (show (List.range 256).all (fun n => bits BinOp.and IntKind.u8 (n : Int) 7 == (n : Int) % 8) = true by decide +kernel) n (List.mem_range.2 (by omega))
  simpa using this

set_option maxHeartbeats 1000000 in
theorem mark_int (x : Int) (c : UInt8) (hx : x = (c.toNat : Int)) (w : World) :
    Calls Try.prog 15 #[.int .u8 x] w fun e w' => e = .returned (.string ⟨(markL c).toArray⟩) ∧ Below w.heap.size w w' := by
  have hc := c.toNat_lt
  have hP := isPrint_any x
  by_cases h1 : x = 92
  · have hm : markL c = [92, 92] := by
      have : c = 92 := UInt8.toNat_inj.1 (by simp; omega)
      subst this; rfl
    subst h1
    rw [hm]
    clear hx hc hm
    go_enter Try.func15, Try.ntmps15
    go_wp2
    go_ret
    exact ⟨rfl, Below.refl _ _⟩
  · by_cases h2 : 7 ≤ x ∧ x ≤ 13
    · have hm : markL c = [92, lettersL.getD (x.toNat - 7) 0] := by
        unfold markL
        rw [if_neg (by rw [beq_iff_eq]; rintro rfl; simp at hx; omega), if_pos (by simp; omega), show x.toNat = c.toNat by omega]
      rw [hm]
      clear hm hc hx hP
      have : x = 7 ∨ x = 8 ∨ x = 9 ∨ x = 10 ∨ x = 11 ∨ x = 12 ∨ x = 13 := by omega
      clear h1 h2
      rcases this with rfl | rfl | rfl | rfl | rfl | rfl | rfl
      · go_enter Try.func15, Try.ntmps15
        go_wp2
        rw [conv2 92 97 (by omega) (by omega) _ _ (by rw [cell_of_row _ _ 0 _ _ _ (heap_alloc_new w _)]; rfl) (by rw [cell_of_row _ _ 1 _ _ _ (heap_alloc_new w _)]; rfl)]
        simp only [Result.andThen]
        rw [Oper.upon_value]
        go_wp2
        go_ret
        exact ⟨rfl, (Below.refl _ _).alloc (Nat.le_refl _) _⟩
      · go_enter Try.func15, Try.ntmps15
        go_wp2
        rw [conv2 92 98 (by omega) (by omega) _ _ (by rw [cell_of_row _ _ 0 _ _ _ (heap_alloc_new w _)]; rfl) (by rw [cell_of_row _ _ 1 _ _ _ (heap_alloc_new w _)]; rfl)]
        simp only [Result.andThen]
        rw [Oper.upon_value]
        go_wp2
        go_ret
        exact ⟨rfl, (Below.refl _ _).alloc (Nat.le_refl _) _⟩
      · go_enter Try.func15, Try.ntmps15
        go_wp2
        rw [conv2 92 116 (by omega) (by omega) _ _ (by rw [cell_of_row _ _ 0 _ _ _ (heap_alloc_new w _)]; rfl) (by rw [cell_of_row _ _ 1 _ _ _ (heap_alloc_new w _)]; rfl)]
        simp only [Result.andThen]
        rw [Oper.upon_value]
        go_wp2
        go_ret
        exact ⟨rfl, (Below.refl _ _).alloc (Nat.le_refl _) _⟩
      · go_enter Try.func15, Try.ntmps15
        go_wp2
        rw [conv2 92 110 (by omega) (by omega) _ _ (by rw [cell_of_row _ _ 0 _ _ _ (heap_alloc_new w _)]; rfl) (by rw [cell_of_row _ _ 1 _ _ _ (heap_alloc_new w _)]; rfl)]
        simp only [Result.andThen]
        rw [Oper.upon_value]
        go_wp2
        go_ret
        exact ⟨rfl, (Below.refl _ _).alloc (Nat.le_refl _) _⟩
      · go_enter Try.func15, Try.ntmps15
        go_wp2
        rw [conv2 92 118 (by omega) (by omega) _ _ (by rw [cell_of_row _ _ 0 _ _ _ (heap_alloc_new w _)]; rfl) (by rw [cell_of_row _ _ 1 _ _ _ (heap_alloc_new w _)]; rfl)]
        simp only [Result.andThen]
        rw [Oper.upon_value]
        go_wp2
        go_ret
        exact ⟨rfl, (Below.refl _ _).alloc (Nat.le_refl _) _⟩
      · go_enter Try.func15, Try.ntmps15
        go_wp2
        rw [conv2 92 102 (by omega) (by omega) _ _ (by rw [cell_of_row _ _ 0 _ _ _ (heap_alloc_new w _)]; rfl) (by rw [cell_of_row _ _ 1 _ _ _ (heap_alloc_new w _)]; rfl)]
        simp only [Result.andThen]
        rw [Oper.upon_value]
        go_wp2
        go_ret
        exact ⟨rfl, (Below.refl _ _).alloc (Nat.le_refl _) _⟩
      · go_enter Try.func15, Try.ntmps15
        go_wp2
        rw [conv2 92 114 (by omega) (by omega) _ _ (by rw [cell_of_row _ _ 0 _ _ _ (heap_alloc_new w _)]; rfl) (by rw [cell_of_row _ _ 1 _ _ _ (heap_alloc_new w _)]; rfl)]
        simp only [Result.andThen]
        rw [Oper.upon_value]
        go_wp2
        go_ret
        exact ⟨rfl, (Below.refl _ _).alloc (Nat.le_refl _) _⟩
    · by_cases h3 : 32 ≤ x ∧ x ≤ 126
      · have hp : (cGraph x || x == 32) = true := by unfold cGraph isW; simp; omega
        have hm : markL c = [c] := by
          unfold markL
          rw [if_neg (by rw [beq_iff_eq]; rintro rfl; simp at hx; omega), if_neg (by simp; omega), if_pos (by simp; omega)]
        rw [hp] at hP
        rw [hm]
        have hcv := conv1 x (by omega) (by omega)
        have e1 : IntKind.u8.wrap (x - 7) = x - 7 := IntWalk.u8_in _ (by omega)
        have e2 : IntKind.i64.wrap (x - 7) = x - 7 := IntWalk.i64_in _ (by omega)
        have g1 : (x == 92) = false := by simp [h1]
        have g2 : decide (7 ≤ x) = true := by simp; omega
        have g3 : decide (x - 7 < 7) = false := by simp; omega
        clear hp hc
        replace hx := Lib.hid hx
        go_enter Try.func15, Try.ntmps15
        go_wp2_with (go_at_call 23; refine (hP _).mono ?_; rintro e w' ⟨rfl, rfl⟩)
        go_ret
        refine ⟨?_, (Below.refl _ _).alloc (Nat.le_refl _) _⟩
        rw [hx.out, Int.toNat_natCast, UInt8.ofNat_toNat]; rfl
      · have hp : (cGraph x || x == 32) = false := by unfold cGraph isW; simp; omega
        rw [hp] at hP
        have hm : markL c = [92, UInt8.ofNat (48 + c.toNat / 64), UInt8.ofNat (48 + c.toNat / 8 % 8), UInt8.ofNat (48 + c.toNat % 8)] := by
          unfold markL
          rw [if_neg (by rw [beq_iff_eq]; rintro rfl; simp at hx; omega), if_neg (by simp; omega), if_neg (by simp; omega)]
        rw [hm]
        have hfin : Hid ((⟨#[92, UInt8.ofNat ((48 + x / 64) % 256).toNat, UInt8.ofNat ((48 + x / 8 % 8) % 256).toNat, UInt8.ofNat ((48 + x % 8) % 256).toNat]⟩ : ByteArray) = ⟨[92, UInt8.ofNat (48 + c.toNat / 64), UInt8.ofNat (48 + c.toNat / 8 % 8), UInt8.ofNat (48 + c.toNat % 8)].toArray⟩) := by
          apply Lib.hid
          rw [show ((48 + x / 64) % 256).toNat = 48 + c.toNat / 64 by omega, show ((48 + x / 8 % 8) % 256).toNat = 48 + c.toNat / 8 % 8 by omega, show ((48 + x % 8) % 256).toNat = 48 + c.toNat % 8 by omega]
        have hb1 := Lib.hid (bits7 (x / 8) (by omega) (by omega))
        have hb2 := Lib.hid (bits7 x (by omega) (by omega))
        have g1 : (x == 92) = false := by simp [h1]
        by_cases h7 : 7 ≤ x
        · have e1 : IntKind.u8.wrap (x - 7) = x - 7 := IntWalk.u8_in _ (by omega)
          have e2 : IntKind.i64.wrap (x - 7) = x - 7 := IntWalk.i64_in _ (by omega)
          have g2 : decide (7 ≤ x) = true := by simp; omega
          have g3 : decide (x - 7 < 7) = false := by simp; omega
          clear hp hc hm
          replace hx := Lib.hid hx
          go_enter Try.func15, Try.ntmps15
          go_wp2_with (first | (go_at_call 23; refine (hP _).mono ?_; rintro e w' ⟨rfl, rfl⟩))
          rw [hb1.out, hb2.out]
          rw [conv4 92 ((48 + x / 64) % 256) ((48 + x / 8 % 8) % 256) ((48 + x % 8) % 256) (by omega) (by omega) (by omega) (by omega) _ _ (by rw [cell_of_row _ _ 0 _ _ _ (heap_alloc_new w _)]; rfl) (by rw [cell_of_row _ _ 1 _ _ _ (heap_alloc_new w _)]; rfl) (by rw [cell_of_row _ _ 2 _ _ _ (heap_alloc_new w _)]; rfl) (by rw [cell_of_row _ _ 3 _ _ _ (heap_alloc_new w _)]; rfl)]
          simp only [Result.andThen]
          rw [Oper.upon_value]
          go_wp2
          go_ret
          refine ⟨?_, (Below.refl _ _).alloc (Nat.le_refl _) _⟩
          rw [← hfin.out]; rfl
        · have g2 : decide (7 ≤ x) = false := by simp; omega
          clear hp hc hm
          replace hx := Lib.hid hx
          go_enter Try.func15, Try.ntmps15
          go_wp2_with (first | (go_at_call 23; refine (hP _).mono ?_; rintro e w' ⟨rfl, rfl⟩))
          rw [hb1.out, hb2.out]
          rw [conv4 92 ((48 + x / 64) % 256) ((48 + x / 8 % 8) % 256) ((48 + x % 8) % 256) (by omega) (by omega) (by omega) (by omega) _ _ (by rw [cell_of_row _ _ 0 _ _ _ (heap_alloc_new w _)]; rfl) (by rw [cell_of_row _ _ 1 _ _ _ (heap_alloc_new w _)]; rfl) (by rw [cell_of_row _ _ 2 _ _ _ (heap_alloc_new w _)]; rfl) (by rw [cell_of_row _ _ 3 _ _ _ (heap_alloc_new w _)]; rfl)]
          simp only [Result.andThen]
          rw [Oper.upon_value]
          go_wp2
          go_ret
          refine ⟨?_, (Below.refl _ _).alloc (Nat.le_refl _) _⟩
          rw [← hfin.out]; rfl
end Go.Proofs.Ytcjhbpkkkhaaiaa
