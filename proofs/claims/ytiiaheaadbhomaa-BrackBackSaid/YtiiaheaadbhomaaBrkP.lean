/- The contract of the law's awake. -/
import Derived.Test.YtiiaheaadbhomaaBrkO
import Derived.Test.YtiiaheaadbhomaaClsU
import Derived.Lib.SlBytesConst
namespace Go.Proofs.Ytiiaheaadbhomaa
open Go.RowKit

/-- internal/bytealg.MaxLen holds some number. -/
def Mx (w : World) : Prop := ∃ m : Int, 0 < w.heap.size ∧ w.cell? ⟨0, 0, none⟩ = some (.int .i64 m)
theorem max_of {W : World} (h : W.ShapedOpen Try.prog) : Mx W := by
  obtain ⟨m, hm⟩ := Try.laysM185.s1_3 W h
  exact ⟨m, World.block_lt_of_cell? _ _ hm, hm⟩
theorem Mx.grow {w w' : World} (h : Mx w) (hb : Below w.heap.size w w') : Mx w' := by
  obtain ⟨m, h6, h7⟩ := h
  exact ⟨m, Nat.lt_of_lt_of_le h6 hb.size, (hb.cell (p := ⟨0, 0, none⟩) h6).trans h7⟩
theorem Inp.of {w : World} {A : Option Addr} {n c : Nat} {l : List UInt8} (hm : Mx w) (h1 : n = l.length) (h2 : n ≤ c) (h3 : c ≤ maxLen) (h4 : n ≤ 100000) (h5 : Byt w w.heap.size A l) : Inp w A n c l := ⟨h1, h2, h3, h4, h5, hm⟩
theorem Inp.mx {w : World} {A : Option Addr} {n c : Nat} {l : List UInt8} (h : Inp w A n c l) : Mx w := h.2.2.2.2.2

def awF : Nat → Bool := orF (orF noneF (oneF 93)) (rngF 97 99)
theorem aw_one : readB [93, 97, 45, 99, 93] 0 = .ok (awF, 5) := by
  have h1 : item [93, 97, 45, 99, 93] = .ok (oneF 93, 1) := rfl
  have h2 : item [97, 45, 99, 93] = .ok (rngF 97 99, 3) := rfl
  rw [readB_plain (by rfl)]
  show items true [93, 97, 45, 99, 93] 0 noneF = _
  rw [items_ok 0 noneF (by rfl) h1]
  show items false [97, 45, 99, 93] 1 (orF noneF (oneF 93)) = _
  rw [items_ok 1 _ (by rfl) h2]
  show items false [93] 4 awF = _
  rw [items_end 4 _ (by rfl)]
theorem aw_two : readB [94, 93] 0 = .error 11 := by
  have h1 : item [93] = .ok (oneF 93, 1) := rfl
  have h2 : item [] = .error 11 := rfl
  rw [readB_not (by rfl)]
  show (match items true [93] 1 noneF with | .error e => Except.error e | .ok (f, j) => Except.ok (negF f, j)) = _
  rw [items_ok 1 noneF (by rfl) h1]
  show (match items false [] 2 (orF noneF (oneF 93)) with | .error e => Except.error e | .ok (f, j) => Except.ok (negF f, j)) = _
  rw [items_err 2 _ (by rfl) h2]
theorem aw_bytes : elems awF 256 = [93, 97, 98, 99] := by decide +kernel
theorem const_inp {w : World} (hm : Mx w) (l : List UInt8) (k : Nat) (hl : k = l.length) (hs : k ≤ 1000) (fr : Nat × Nat) : Inp (w.alloc (.cells (l.map fun c => Value.int .u8 (c.toNat : Int)).toArray 5 fr)) (some ⟨w.heap.size, 0, none⟩) k k l := by
  subst hl
  exact Inp.of (hm.grow ((Below.refl _ _).alloc (Nat.le_refl _) _)) rfl (Nat.le_refl _) (by unfold maxLen; omega) (by omega) ((byt_new w l 5 fr).more (by rw [sizeA']; exact Nat.le_refl _))

set_option maxRecDepth 100000 in
set_option maxHeartbeats 4000000 in
theorem awake_any (w : World) (hm : Mx w) : Calls Try.prog 6 #[] w fun e w' => e = .returned (.bool true) ∧ Below w.heap.size w w' := by
  have hP1 := fun (w : World) (hm : Mx w) => parse_any (const_inp hm [93, 97, 45, 99, 93] 5 rfl (by decide) (5, 6)) 0 (by decide)
  have hP2 := fun (w : World) (hm : Mx w) => parse_any (const_inp hm [94, 93] 2 rfl (by decide) (2, 3)) 0 (by decide)
  rw [aw_one] at hP1
  rw [aw_two] at hP2
  replace hP1 := Lib.hid (show ∀ w, Mx w → Calls Try.prog 8 #[.slice (some ⟨w.heap.size, 0, none⟩) 5 5, .int .i64 0] (w.alloc (.cells #[.int .u8 93, .int .u8 97, .int .u8 45, .int .u8 99, .int .u8 93] 5 (5, 6))) (fun e w' => e = .returned (.tuple #[.agg (setC awF), .int .i64 5, .int .i64 0]) ∧ Below (w.heap.size + 1) (w.alloc (.cells #[.int .u8 93, .int .u8 97, .int .u8 45, .int .u8 99, .int .u8 93] 5 (5, 6))) w') from fun w hm => by
    have := hP1 w hm
    rw [sizeA'] at this
    exact this)
  replace hP2 := Lib.hid (show ∀ w, Mx w → Calls Try.prog 8 #[.slice (some ⟨w.heap.size, 0, none⟩) 2 2, .int .i64 0] (w.alloc (.cells #[.int .u8 94, .int .u8 93] 5 (2, 3))) (fun e w' => e = .returned (.tuple #[.agg (setC noneF), .int .i64 0, .int .i64 11]) ∧ Below (w.heap.size + 1) (w.alloc (.cells #[.int .u8 94, .int .u8 93] 5 (2, 3))) w') from fun w hm => by
    have := hP2 w hm
    rw [sizeA'] at this
    exact this)
  have hBy := fun (w : World) => refBytes_any awF w
  rw [aw_bytes] at hBy
  replace hBy := Lib.hid (show ∀ w, Calls Try.prog 10 #[.agg #[.int .u64 (wd awF 0 : Nat), .int .u64 (wd awF 1 : Nat), .int .u64 (wd awF 2 : Nat), .int .u64 (wd awF 3 : Nat)]] w fun e w' => ∃ v, e = .returned v ∧ w'.ownsRow w.heap.size 5 1 v 4 (bv [93, 97, 98, 99]) ∧ Below w.heap.size w w' from hBy)
  have hm' := Lib.hid hm
  clear hm
  have kc := fun (w : World) (C : Array Value) (n c : Nat) => Lib.run_convert_bytes_const (P := Try.prog) w 25 5 C n c Try.underlying25 Try.underlying5
  go_enter Try.func6, Try.ntmps6
  go_wp2_with (first
    | (go_at_call 8; with_reducible show Calls _ _ #[_, _] (World.alloc w _) _; refine (hP1.out _ hm'.out).mono ?_; rintro e w1 ⟨rfl, hb1⟩; have hW1 := Lib.hid (((Below.refl w.heap.size w).alloc (Nat.le_refl _) (.cells #[.int .u8 93, .int .u8 97, .int .u8 45, .int .u8 99, .int .u8 93] 5 (5, 6))).trans (hb1.mono (by omega))))
    | (refine wpList_store_row rfl 24 (.tmp 1) (.tmp 11) rfl w1.heap.size (setC awF) rfl rfl 24 _ (set_zero w1) (set_size _) (set_hold (fun _ => false) awF |> fun h => by rw [← h, setC_none]) (set_cells _) ?_; rw [World.setRow_alloc_new]; have hW2 := Lib.hid (hW1.out.alloc hW1.out.size (.cells (setC awF) 24)); have hS2 := Lib.hid (set_new w1 awF); obtain ⟨w2, hw2⟩ : ∃ w2, w2 = w1.alloc (.cells (setC awF) 24) := ⟨_, rfl⟩; rw [← hw2] at hW2 hS2 ⊢; clear hw2)
    | (go_at_call 8; with_reducible show Calls _ _ #[_, _] (World.alloc w2 _) _; refine (hP2.out _ (hm'.out.grow hW2.out)).mono ?_; rintro e w3 ⟨rfl, hb3⟩; have hB3 := Lib.hid (((Below.refl w2.heap.size w2).alloc (Nat.le_refl _) (.cells #[.int .u8 94, .int .u8 93] 5 (2, 3))).trans (hb3.mono (by omega))); have hW3 := Lib.hid (hW2.out.trans (hB3.out.mono hW2.out.size)); have hS3 := Lib.hid (hS2.out.below hB3.out hS2.out.lt))
    | (refine wpList_store_row rfl 24 (.tmp 4) (.tmp 18) rfl w3.heap.size (setC noneF) rfl rfl 24 _ (set_zero w3) (set_size _) (set_hold (fun _ => false) noneF |> fun h => by rw [← h, setC_none]) (set_cells _) ?_; rw [World.setRow_alloc_new]; have hW4 := Lib.hid (hW3.out.alloc hW3.out.size (.cells (setC noneF) 24)); have hS4 := hS3.out.alloc (.cells (setC noneF) 24); have d0 := hS4.cell 0 (by decide); have d1 := hS4.cell 1 (by decide); have d2 := hS4.cell 2 (by decide); have d3 := hS4.cell 3 (by decide); clear hS4)
    | (go_at_call 10; refine (hBy.out _).mono ?_; rintro e w5 ⟨v, rfl, hown, hb5⟩; obtain ⟨A5, c5, rfl, -, -, -, hB5⟩ := own_byt hown; have hcv := convB (n := 4) (c := c5) hB5 rfl; have hW5 := Lib.hid (hW4.out.trans (hb5.mono hW4.out.size))))
  go_ret
  exact ⟨rfl, hW5.out⟩
end Go.Proofs.Ytiiaheaadbhomaa
