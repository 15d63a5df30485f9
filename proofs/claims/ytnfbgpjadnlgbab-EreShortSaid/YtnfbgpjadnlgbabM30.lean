/- Contracts of package brack: named, secondEnd. -/
import Derived.Test.YtnfbgpjadnlgbabM29
import Derived.Test.YtnfbgpjadnlgbabM06
import Derived.Shelf.Bytes.SlSmallAll
import Derived.Deep.WholeRow
set_option maxRecDepth 100000
namespace Go.Proofs.Ytnfbgpjadnlgbab
open Go.RowKit

/-- Three results, the first in a block. -/
theorem results_cell_three {P : Program} {fn : Func} {p q r : Tmp} {ty : TypeId} (h : fn.results = #[.cell p ty, .tmp q, .tmp r]) (tmps : Array Value) (w : World) (g : Nat) (t : TypeId) (cs : Array Value) (fr : Nat × Nat) (d : TypeDesc)
    (hp : tmps.getD p undef = .pointer (some ⟨g, 0, none⟩)) {x y : Value} (hx : tmps.getD q undef = x) (hy : tmps.getD r undef = y) (hg : w.heap[g]? = some (.cells cs t fr))
    (hu : P.underlying ty = some d) (hd : (match d with | .struct _ | .array _ _ => true | _ => false) = true) (hi : (P.info? ty).map (·.size) = some cs.size) :
    (results fn tmps).run P w = .ok (.tuple #[.agg cs, x, y]) w := by
  have hp' : tmps[p]?.getD undef = .pointer (some ⟨g, 0, none⟩) := by simpa using hp
  have hx' : tmps[q]?.getD undef = x := by simpa using hx
  have hy' : tmps[r]?.getD undef = y := by simpa using hy
  simp [results, h, hp', hx', hy', asAddr, run_loadVar_row w g t ty cs fr d hg hu hd hi]
theorem build_set (w : World) : (Instr.build 32 #[]).run Try.prog w = .ok (.agg #[.int .u64 0, .int .u64 0, .int .u64 0, .int .u64 0]) w := run_build w _ _ _ (by kernel_rfl)

/-- What named tells of what begins with [: . -/
def namedR (l : List UInt8) : Except Nat ((Nat → Bool) × Nat) :=
  match clsP l with
  | .bad e => .error e
  | .cls nm n => if joins (l.drop n) then .error 3 else .ok (clsF nm, n)
  | .one _ _ => .error 0
theorem item_named {l : List UInt8} (h : bg [91, 58] l = true) : item l = namedR l := by
  unfold item namedR piece
  rw [if_pos h]
  cases hp : clsP l with
  | bad e => rfl
  | cls nm n => rfl
  | one c n => exact absurd hp clsP_one
theorem namedR_none {l : List UInt8} (hb : betw 58 (l.drop 2) = none) : namedR l = .error 11 := by unfold namedR clsP; rw [hb]
theorem namedR_some {l : List UInt8} {i : Nat} (hb : betw 58 (l.drop 2) = some i) : namedR l = if known ((l.drop 2).take i) then (if joins (l.drop (i + 4)) then .error 3 else .ok (clsF ((l.drop 2).take i), i + 4)) else .error 12 := by
  unfold namedR clsP
  rw [hb]
  simp only
  cases known ((l.drop 2).take i) <;> rfl
theorem named_at (l : List UInt8) (w : World) :
    Calls Try.prog 86 #[.string ⟨l.toArray⟩] w fun e w' => e = .returned (.tuple #[.agg (setC (clsF l)), .bool (known l)]) ∧ Below w.heap.size w w' := by
  have := named_any ⟨l.toArray⟩ w
  rw [show (⟨l.toArray⟩ : ByteArray).toList = l by rw [ByteArray.toList_eq]] at this
  exact this
theorem convB {w : World} {B : Nat} {A : Option Addr} {l : List UInt8} {n c : Nat} (h : Byt w B A l) (hn : n = l.length) :
    (convert 22 9 (.slice A n c)).run Try.prog w = .ok (.string ⟨l.toArray⟩) w := by
  subst hn
  cases hl : l with
  | nil => exact run_convert_bytes_zero (P := Try.prog) w 22 5 Try.underlying22 Try.underlying5 A c 9 Try.underlying9
  | cons x r =>
    obtain ⟨ad, rfl, _, _⟩ := h.at_ (k := 0) (by rw [hl]; simp)
    rw [← hl]
    exact run_convert_bytes_back (P := Try.prog) w 22 9 5 ad c l Try.underlying22 Try.underlying5 Try.underlying9 (fun j hj => by
      obtain ⟨ad', he, _, hc⟩ := h.at_ hj
      obtain rfl := Option.some.inj he
      exact hc)
theorem set_zero' (w : World) : SetAt (w.alloc (.cells #[.int .u64 0, .int .u64 0, .int .u64 0, .int .u64 0] 32)) w.heap.size noneF := set_zero w
theorem setC_noneF : setC noneF = #[.int .u64 0, .int .u64 0, .int .u64 0, .int .u64 0] := setC_none

set_option maxRecDepth 100000 in
set_option maxHeartbeats 4000000 in
theorem named7_any {A : Option Addr} {n c : Nat} {l : List UInt8} {w : World} (h : Inp w A n c l) (hsg : bg [91, 58] l = true) :
    Calls Try.prog 80 #[.slice A n c] w fun e w' => e = .returned (.tuple #[.agg (setC (told (namedR l)).1), .int .i64 ((told (namedR l)).2.1 : Int), .int .i64 ((told (namedR l)).2.2 : Int)]) ∧ Below w.heap.size w w' := by
  have hsg' := (bg_second hsg).2
  have hz := build_set
  have hW : Below w.heap.size w (w.alloc (.cells #[.int .u64 0, .int .u64 0, .int .u64 0, .int .u64 0] 32)) := (Below.refl _ _).alloc (Nat.le_refl _) _
  have hS := Lib.hid (set_zero' w)
  have h1 := h.grow hW
  replace hW := Lib.hid hW
  cases hb : betw 58 (l.drop 2) with
  | none =>
    rw [namedR_none hb]
    have hI := Lib.hid (between_none h1 58 hsg' hb)
    clear h h1 hsg hsg' hb
    go_enter Try.func80, Try.ntmps80
    go_wp2_with (first
      | (go_at_call 85; refine (hI.out).mono ?_; rintro e w1 ⟨rfl, hb1⟩; have hS1 := Lib.hid (hS.out.below hb1 hS.out.lt); have hW1 := Lib.hid (hW.out.trans (hb1.mono hW.out.size)))
      | (refine wpList_store_row rfl 32 (.tmp 2) (.tmp 18) rfl w.heap.size (setC noneF) rfl (by rw [setC_noneF]; rfl) 32 _ hS1.out (set_size _) (set_hold _ _) (set_cells _) ?_))
    exact bodyPost_ret (v := .tuple #[.agg (setC noneF), .int .i64 0, .int .i64 11]) (results_cell_three Try.results80 _ _ w.heap.size 32 (setC noneF) (0, 0) _ rfl rfl rfl (hS1.out.put _) Try.underlying32 rfl (set_size _)) rfl ⟨rfl, below_put hW1.out (Nat.le_refl _) _⟩
  | some i =>
    have hl2 : 2 ≤ l.length := (List.getElem?_eq_some_iff.1 hsg').1
    obtain ⟨ad, rfl⟩ := h.some_ (by omega)
    have hi := betw_len hb
    rw [List.length_drop] at hi
    have hn := h.len
    have hI := between_some h1 58 hsg' i hb
    have hcut := h.cut (i := 2) (j := i + 2) (by omega) (by omega)
    rw [List.drop_take, show i + 2 - 2 = i by omega, if_neg (by have := h.2.1; omega), Option.map_some, add_succ ad 1] at hcut
    have hdr := h.drop (i := i + 4) (by omega)
    rw [namedR_some hb]
    obtain ⟨N, hN⟩ : ∃ N, N = i + 4 := ⟨_, rfl⟩
    rw [show (i : Int) + 4 = (N : Int) by omega] at hI
    rw [← hN] at hdr
    have hNn : N ≤ n := by omega
    have hns : n ≤ 100000 := h.2.2.2.1
    have hnc := h.2.1
    have hcm := h.2.2.1
    unfold maxLen at hcm
    replace hI := Lib.hid hI
    have hcvF : Hid (∀ w1, Below w.heap.size w w1 → (convert 22 9 (.slice (some ⟨ad.block, ad.off + 2, none⟩) i (c - 2))).run Try.prog w1 = .ok (.string ⟨((l.drop 2).take i).toArray⟩) w1) := Lib.hid fun w1 hW1 => convB (hcut.grow hW1).2.2.2.2.1 hcut.1
    clear hcut
    replace hdr := Lib.hid hdr
    rw [← hN]
    generalize (l.drop 2).take i = nm at *
    clear h h1 hsg hsg' hb hi hn hl2 hN
    have hNm := Lib.hid (named_at nm)
    cases hk : known nm with
    | false =>
      rw [hk] at hNm
      replace hk := Lib.hid hk
      go_enter Try.func80, Try.ntmps80
      go_wp2_with (first
        | (go_at_call 85; refine (hI.out).mono ?_; rintro e w1 ⟨rfl, hb1⟩; have hW1 := Lib.hid (hW.out.trans (hb1.mono hW.out.size)); have hcv := hcvF.out _ hW1.out)
        | (go_at_call 86; refine (hNm.out _).mono ?_; rintro e w2 ⟨rfl, hb2⟩; have hB2 := Lib.hid (hb1.trans (hb2.mono hb1.size)))
        | (refine wpList_store_row rfl 32 (.tmp 8) (.tmp 24) rfl w2.heap.size (setC (clsF nm)) rfl rfl 32 _ (set_zero w2) (set_size _) (set_hold (fun _ => false) (clsF nm) |> fun h => by rw [← h, setC_none]) (set_cells _) ?_; rw [World.setRow_alloc_new]; have hW2 := Lib.hid (((hW.out.trans (hB2.out.mono hW.out.size)).alloc ((hW.out.trans (hB2.out.mono hW.out.size)).size) (.cells (setC (clsF nm)) 32))); have hS2 := Lib.hid ((hS.out.below hB2.out hS.out.lt).alloc (.cells (setC (clsF nm)) 32)))
        | (refine wpList_store_row rfl 32 (.tmp 2) (.tmp 28) rfl w.heap.size (setC noneF) rfl (by rw [setC_noneF]; rfl) 32 _ hS2.out (set_size _) (set_hold _ _) (set_cells _) ?_))
      exact bodyPost_ret (v := .tuple #[.agg (setC noneF), .int .i64 0, .int .i64 12]) (results_cell_three Try.results80 _ _ w.heap.size 32 (setC noneF) (0, 0) _ rfl rfl rfl (hS2.out.put _) Try.underlying32 rfl (set_size _)) rfl ⟨rfl, below_put hW2.out (Nat.le_refl _) _⟩
    | true =>
      rw [hk] at hNm
      replace hk := Lib.hid hk
      rw [if_pos rfl]
      have hJ := fun w2 (hb : Below w.heap.size w w2) => joins_any (hdr.out.grow hb)
      cases hj : joins (l.drop N) with
      | true =>
        rw [hj] at hJ
        rw [if_pos rfl]
        replace hJ := Lib.hid hJ
        replace hj := Lib.hid hj
        by_cases hcN : c = N
        · subst hcN
          obtain rfl : n = c := by omega
          rw [if_pos rfl, Nat.sub_self] at hJ
          go_enter Try.func80, Try.ntmps80
          go_wp2_with (first
            | (go_at_call 85; refine (hI.out).mono ?_; rintro e w1 ⟨rfl, hb1⟩; have hW1 := Lib.hid (hW.out.trans (hb1.mono hW.out.size)); have hcv := hcvF.out _ hW1.out)
            | (go_at_call 86; refine (hNm.out _).mono ?_; rintro e w2 ⟨rfl, hb2⟩; have hB2 := Lib.hid (hb1.trans (hb2.mono hb1.size)))
            | (refine wpList_store_row rfl 32 (.tmp 8) (.tmp 24) rfl w2.heap.size (setC (clsF nm)) rfl rfl 32 _ (set_zero w2) (set_size _) (set_hold (fun _ => false) (clsF nm) |> fun h => by rw [← h, setC_none]) (set_cells _) ?_; rw [World.setRow_alloc_new]; have hW2 := Lib.hid (((hW.out.trans (hB2.out.mono hW.out.size)).alloc ((hW.out.trans (hB2.out.mono hW.out.size)).size) (.cells (setC (clsF nm)) 32))); have hS2 := Lib.hid ((hS.out.below hB2.out hS.out.lt).alloc (.cells (setC (clsF nm)) 32)); have hR2 := Lib.hid (set_new w2 (clsF nm)))
            | (go_at_call 82; with_reducible refine (hJ.out _ hW2.out).mono ?_; rintro e w3 ⟨rfl, hb3⟩; have hW3 := Lib.hid (hW2.out.trans (hb3.mono hW2.out.size)); have hS3 := Lib.hid (hS2.out.below hb3 hS2.out.lt); have hR3 := Lib.hid (hR2.out.below hb3 hR2.out.lt))
            | (refine wpList_store_row rfl 32 (.tmp 2) (.tmp 33) rfl w.heap.size (setC noneF) rfl (by rw [setC_noneF]; rfl) 32 _ hS3.out (set_size _) (set_hold _ _) (set_cells _) ?_))
          exact bodyPost_ret (v := .tuple #[.agg (setC noneF), .int .i64 0, .int .i64 3]) (results_cell_three Try.results80 _ _ w.heap.size 32 (setC noneF) (0, 0) _ rfl rfl rfl (hS3.out.put _) Try.underlying32 rfl (set_size _)) rfl ⟨rfl, below_put hW3.out (Nat.le_refl _) _⟩
        · rw [if_neg hcN, Option.map_some] at hJ
          go_enter Try.func80, Try.ntmps80
          go_wp2_with (first
            | (go_at_call 85; refine (hI.out).mono ?_; rintro e w1 ⟨rfl, hb1⟩; have hW1 := Lib.hid (hW.out.trans (hb1.mono hW.out.size)); have hcv := hcvF.out _ hW1.out)
            | (go_at_call 86; refine (hNm.out _).mono ?_; rintro e w2 ⟨rfl, hb2⟩; have hB2 := Lib.hid (hb1.trans (hb2.mono hb1.size)))
            | (refine wpList_store_row rfl 32 (.tmp 8) (.tmp 24) rfl w2.heap.size (setC (clsF nm)) rfl rfl 32 _ (set_zero w2) (set_size _) (set_hold (fun _ => false) (clsF nm) |> fun h => by rw [← h, setC_none]) (set_cells _) ?_; rw [World.setRow_alloc_new]; have hW2 := Lib.hid (((hW.out.trans (hB2.out.mono hW.out.size)).alloc ((hW.out.trans (hB2.out.mono hW.out.size)).size) (.cells (setC (clsF nm)) 32))); have hS2 := Lib.hid ((hS.out.below hB2.out hS.out.lt).alloc (.cells (setC (clsF nm)) 32)); have hR2 := Lib.hid (set_new w2 (clsF nm)))
            | (go_at_call 82; with_reducible refine (hJ.out _ hW2.out).mono ?_; rintro e w3 ⟨rfl, hb3⟩; have hW3 := Lib.hid (hW2.out.trans (hb3.mono hW2.out.size)); have hS3 := Lib.hid (hS2.out.below hb3 hS2.out.lt); have hR3 := Lib.hid (hR2.out.below hb3 hR2.out.lt))
            | (refine wpList_store_row rfl 32 (.tmp 2) (.tmp 33) rfl w.heap.size (setC noneF) rfl (by rw [setC_noneF]; rfl) 32 _ hS3.out (set_size _) (set_hold _ _) (set_cells _) ?_))
          exact bodyPost_ret (v := .tuple #[.agg (setC noneF), .int .i64 0, .int .i64 3]) (results_cell_three Try.results80 _ _ w.heap.size 32 (setC noneF) (0, 0) _ rfl rfl rfl (hS3.out.put _) Try.underlying32 rfl (set_size _)) rfl ⟨rfl, below_put hW3.out (Nat.le_refl _) _⟩
      | false =>
        rw [hj] at hJ
        rw [if_neg (by decide)]
        replace hJ := Lib.hid hJ
        replace hj := Lib.hid hj
        by_cases hcN : c = N
        · subst hcN
          obtain rfl : n = c := by omega
          rw [if_pos rfl, Nat.sub_self] at hJ
          go_enter Try.func80, Try.ntmps80
          go_wp2_with (first
            | (go_at_call 85; refine (hI.out).mono ?_; rintro e w1 ⟨rfl, hb1⟩; have hW1 := Lib.hid (hW.out.trans (hb1.mono hW.out.size)); have hcv := hcvF.out _ hW1.out)
            | (go_at_call 86; refine (hNm.out _).mono ?_; rintro e w2 ⟨rfl, hb2⟩; have hB2 := Lib.hid (hb1.trans (hb2.mono hb1.size)))
            | (refine wpList_store_row rfl 32 (.tmp 8) (.tmp 24) rfl w2.heap.size (setC (clsF nm)) rfl rfl 32 _ (set_zero w2) (set_size _) (set_hold (fun _ => false) (clsF nm) |> fun h => by rw [← h, setC_none]) (set_cells _) ?_; rw [World.setRow_alloc_new]; have hW2 := Lib.hid (((hW.out.trans (hB2.out.mono hW.out.size)).alloc ((hW.out.trans (hB2.out.mono hW.out.size)).size) (.cells (setC (clsF nm)) 32))); have hS2 := Lib.hid ((hS.out.below hB2.out hS.out.lt).alloc (.cells (setC (clsF nm)) 32)); have hR2 := Lib.hid (set_new w2 (clsF nm)))
            | (go_at_call 82; with_reducible refine (hJ.out _ hW2.out).mono ?_; rintro e w3 ⟨rfl, hb3⟩; have hW3 := Lib.hid (hW2.out.trans (hb3.mono hW2.out.size)); have hS3 := Lib.hid (hS2.out.below hb3 hS2.out.lt); have hR3 := Lib.hid (hR2.out.below hb3 hR2.out.lt))
            | (refine wpList_load_row rfl 32 (.tmp 8) rfl w2.heap.size rfl 32 _ (0, 0) _ hR3.out Try.underlying32 rfl (set_size _) ?_)
            | (refine wpList_store_row rfl 32 (.tmp 2) (.tmp 34) rfl w.heap.size (setC (clsF nm)) rfl rfl 32 _ hS3.out (set_size _) (set_hold _ _) (set_cells _) ?_))
          exact bodyPost_ret (v := .tuple #[.agg (setC (clsF nm)), .int .i64 (n : Int), .int .i64 0]) (results_cell_three Try.results80 _ _ w.heap.size 32 (setC (clsF nm)) (0, 0) _ rfl rfl rfl (hS3.out.put _) Try.underlying32 rfl (set_size _)) rfl ⟨rfl, below_put hW3.out (Nat.le_refl _) _⟩
        · rw [if_neg hcN, Option.map_some] at hJ
          go_enter Try.func80, Try.ntmps80
          go_wp2_with (first
            | (go_at_call 85; refine (hI.out).mono ?_; rintro e w1 ⟨rfl, hb1⟩; have hW1 := Lib.hid (hW.out.trans (hb1.mono hW.out.size)); have hcv := hcvF.out _ hW1.out)
            | (go_at_call 86; refine (hNm.out _).mono ?_; rintro e w2 ⟨rfl, hb2⟩; have hB2 := Lib.hid (hb1.trans (hb2.mono hb1.size)))
            | (refine wpList_store_row rfl 32 (.tmp 8) (.tmp 24) rfl w2.heap.size (setC (clsF nm)) rfl rfl 32 _ (set_zero w2) (set_size _) (set_hold (fun _ => false) (clsF nm) |> fun h => by rw [← h, setC_none]) (set_cells _) ?_; rw [World.setRow_alloc_new]; have hW2 := Lib.hid (((hW.out.trans (hB2.out.mono hW.out.size)).alloc ((hW.out.trans (hB2.out.mono hW.out.size)).size) (.cells (setC (clsF nm)) 32))); have hS2 := Lib.hid ((hS.out.below hB2.out hS.out.lt).alloc (.cells (setC (clsF nm)) 32)); have hR2 := Lib.hid (set_new w2 (clsF nm)))
            | (go_at_call 82; with_reducible refine (hJ.out _ hW2.out).mono ?_; rintro e w3 ⟨rfl, hb3⟩; have hW3 := Lib.hid (hW2.out.trans (hb3.mono hW2.out.size)); have hS3 := Lib.hid (hS2.out.below hb3 hS2.out.lt); have hR3 := Lib.hid (hR2.out.below hb3 hR2.out.lt))
            | (refine wpList_load_row rfl 32 (.tmp 8) rfl w2.heap.size rfl 32 _ (0, 0) _ hR3.out Try.underlying32 rfl (set_size _) ?_)
            | (refine wpList_store_row rfl 32 (.tmp 2) (.tmp 34) rfl w.heap.size (setC (clsF nm)) rfl rfl 32 _ hS3.out (set_size _) (set_hold _ _) (set_cells _) ?_))
          exact bodyPost_ret (v := .tuple #[.agg (setC (clsF nm)), .int .i64 (N : Int), .int .i64 0]) (results_cell_three Try.results80 _ _ w.heap.size 32 (setC (clsF nm)) (0, 0) _ rfl rfl rfl (hS3.out.put _) Try.underlying32 rfl (set_size _)) rfl ⟨rfl, below_put hW3.out (Nat.le_refl _) _⟩
end Go.Proofs.Ytnfbgpjadnlgbab
