/- The reference's at; items of the reference in memory. The contract of the reference's read. -/
import Derived.Test.YtnfbgpjadnlgbaaGreatM10
import Derived.Test.YtnfbgpjadnlgbaaGreatM32
import Derived.Deep.RegionWith
import Derived.Test.YtnfbgpjadnlgbaaGreatM03
import Derived.Lib.Hide
import Derived.Lib.SlBytesConst
import Derived.Shelf.Bytes.SlSmallAll
set_option maxRecDepth 100000
namespace Go.Proofs.YtnfbgpjadnlgbaaGreat
open Go.RowKit

/-- The byte at a place, -1 if there is none. -/
def atV (l : List UInt8) (k : Nat) : Int := match l[k]? with | some x => (x.toNat : Int) | none => -1
theorem atV_in {l : List UInt8} {k : Nat} (h : k < l.length) : atV l k = ((l[k]'h).toNat : Int) := by unfold atV; rw [List.getElem?_eq_getElem h]
theorem atV_out {l : List UInt8} {k : Nat} (h : l.length ≤ k) : atV l k = -1 := by unfold atV; rw [List.getElem?_eq_none h]
theorem atV_is {l : List UInt8} {k : Nat} {x : UInt8} : (atV l k = (x.toNat : Int)) ↔ bg [x] (l.drop k) = true := by
  by_cases h : k < l.length
  · rw [atV_in h, List.drop_eq_getElem_cons h, bg_cons, bg_nil, Bool.and_true, beq_iff_eq]
    constructor
    · intro e; exact UInt8.toNat_inj.1 (by omega)
    · intro e; rw [e]
  · rw [atV_out (by omega), List.drop_of_length_le (by omega)]
    constructor
    · intro e; omega
    · intro e; cases e
theorem bg_two (x y : UInt8) (l : List UInt8) (k : Nat) : bg [x, y] (l.drop k) = (bg [x] (l.drop k) && bg [y] (l.drop (k + 1))) := by
  by_cases h : k < l.length
  · rw [List.drop_eq_getElem_cons h, bg_cons, bg_cons, bg_nil, Bool.and_true]
  · rw [List.drop_of_length_le (show l.length ≤ k by omega)]; rfl

set_option maxRecDepth 100000 in
theorem at_any (A : Option Addr) (n c : Nat) (l : List UInt8) (B : Nat) (w : World) (hn : n = l.length) (h : Byt w B A l) (k : Nat) (hk : k ≤ 9223372036854775807) :
    Calls Tryz.prog 88 #[.slice A n c, .int .i64 (k : Int)] w fun e w' => e = .returned (.int .i64 (atV l k)) ∧ w = w' := by
  by_cases hlt : k < l.length
  · obtain ⟨ad, rfl, _, hd⟩ := h.at_ hlt
    rw [atV_in hlt]
    have hc : (l[k]'hlt).toNat < 256 := UInt8.toNat_lt _
    generalize (l[k]'hlt).toNat = x at hd hc ⊢
    replace hn := Lib.hid hn
    have hkn : k < n := by have := hn.out; omega
    go_enter Tryz.func88, Tryz.ntmps88
    go_wp2
    go_ret
    exact ⟨rfl, rfl⟩
  · rw [atV_out (by omega)]
    have hkn : n ≤ k := by omega
    replace hn := Lib.hid hn
    go_enter Tryz.func88, Tryz.ntmps88
    go_wp2
    go_ret
    exact ⟨rfl, rfl⟩

/-! ### Items -/
def itmL (C : Int) (f : Nat → Bool) (cl : Bool) (nx E : Int) : List Value := .int .i64 C :: (boolsL f ++ [.bool cl, .int .i64 nx, .int .i64 E])
def itmC (C : Int) (f : Nat → Bool) (cl : Bool) (nx E : Int) : Array Value := (itmL C f cl nx E).toArray
theorem itm_len (C : Int) (f : Nat → Bool) (cl : Bool) (nx E : Int) : (itmL C f cl nx E).length = 260 := by simp [itmL, boolsL_len]
theorem itm_size (C : Int) (f : Nat → Bool) (cl : Bool) (nx E : Int) : (itmC C f cl nx E).size = 260 := by simp [itmC, itm_len]
theorem itm_0 (C : Int) (f : Nat → Bool) (cl : Bool) (nx E : Int) : (itmC C f cl nx E)[0]? = some (.int .i64 C) := by simp [itmC, itmL]
theorem itm_in (C : Int) (f : Nat → Bool) (cl : Bool) (nx E : Int) {k : Nat} (h : k < 256) : (itmC C f cl nx E)[k + 1]? = some (.bool (f k)) := by
  unfold itmC itmL
  rw [List.getElem?_toArray, List.getElem?_cons_succ, List.getElem?_append_left (by rw [boolsL_len]; exact h)]
  unfold boolsL
  rw [List.getElem?_map, List.getElem?_range h]; rfl
theorem itm_hi (C : Int) (f : Nat → Bool) (cl : Bool) (nx E : Int) (k : Nat) : (itmC C f cl nx E)[k + 257]? = [Value.bool cl, .int .i64 nx, .int .i64 E][k]? := by
  unfold itmC itmL
  rw [List.getElem?_toArray, show k + 257 = (k + 256) + 1 by omega, List.getElem?_cons_succ, List.getElem?_append_right (by rw [boolsL_len]; omega), boolsL_len, Nat.add_sub_cancel]
theorem itm_one (C : Int) (f : Nat → Bool) (cl : Bool) (nx E : Int) : ∀ v ∈ itmL C f cl nx E, v.oneCell' = true := by
  intro v hv
  simp only [itmL, List.mem_cons, List.mem_append, List.not_mem_nil, or_false] at hv
  rcases hv with rfl | hv | rfl | rfl | rfl
  · rfl
  · exact bools_one f v hv
  · rfl
  · rfl
  · rfl
/-- An item's block. -/
def ItmAt (w : World) (g : Nat) (C : Int) (f : Nat → Bool) (cl : Bool) (nx E : Int) : Prop := w.heap[g]? = some (.cells (itmC C f cl nx E) 109 (0, 0))
section
variable {w w' : World} {g : Nat} {C : Int} {f : Nat → Bool} {cl : Bool} {nx E : Int}
theorem ItmAt.lt (h : ItmAt w g C f cl nx E) : g < w.heap.size := by
  unfold ItmAt at h
  exact (Array.getElem?_eq_some_iff.1 h).1
theorem ItmAt.c0 (h : ItmAt w g C f cl nx E) : w.cell? ⟨g, 0, none⟩ = some (.int .i64 C) := by rw [cell_of_row w g 0 _ _ _ h, itm_0]
theorem ItmAt.cin (h : ItmAt w g C f cl nx E) {k : Nat} (hk : k < 256) : w.cell? ⟨g, 1 + k, none⟩ = some (.bool (f k)) := by rw [Nat.add_comm, cell_of_row w g (k + 1) _ _ _ h, itm_in _ _ _ _ _ hk]
theorem ItmAt.c2 (h : ItmAt w g C f cl nx E) : w.cell? ⟨g, 257, none⟩ = some (.bool cl) := by rw [cell_of_row w g 257 _ _ _ h, itm_hi _ _ _ _ _ 0]; rfl
theorem ItmAt.c3 (h : ItmAt w g C f cl nx E) : w.cell? ⟨g, 258, none⟩ = some (.int .i64 nx) := by rw [cell_of_row w g 258 _ _ _ h, itm_hi _ _ _ _ _ 1]; rfl
theorem ItmAt.c4 (h : ItmAt w g C f cl nx E) : w.cell? ⟨g, 259, none⟩ = some (.int .i64 E) := by rw [cell_of_row w g 259 _ _ _ h, itm_hi _ _ _ _ _ 2]; rfl
theorem ItmAt.thawed (h : ItmAt w g C f cl nx E) (k : Nat) : w.frozen? ⟨g, k, none⟩ = false := frozen_of_row w g k _ _ h
theorem ItmAt.below {B : Nat} (h : ItmAt w g C f cl nx E) (hb : Below B w w') (hg : g < B) : ItmAt w' g C f cl nx E := by
  unfold ItmAt at h ⊢; rw [hb.block g hg]; exact h
theorem ItmAt.set_other {a : Addr} {v : Value} (h : ItmAt w g C f cl nx E) (hne : g ≠ a.block) : ItmAt (w.setCell a v) g C f cl nx E := by
  unfold ItmAt at h ⊢; rw [heap_setCell_other w a g v hne]; exact h
theorem ItmAt.alloc (h : ItmAt w g C f cl nx E) (o : Obj) : ItmAt (w.alloc o) g C f cl nx E := by
  have hl := h.lt
  unfold ItmAt at h ⊢; rw [Below.heap_alloc w o g hl]; exact h
theorem itm_new (w : World) (C : Int) (f : Nat → Bool) (cl : Bool) (nx E : Int) : ItmAt (w.alloc (.cells (itmC C f cl nx E) 109)) w.heap.size C f cl nx E := heap_alloc_new _ _
theorem ItmAt.range (h : ItmAt w g C f cl nx E) : w.rangeAt g 0 (itmL C f cl nx E) := by
  intro j v hj
  rw [Nat.zero_add, cell_of_row w g j _ _ _ h]
  unfold itmC
  rw [List.getElem?_toArray]; exact hj
end
theorem size_itm : (Tryz.prog.info? 109).map (·.size) = some 260 := by kernel_rfl
theorem itm_info (C : Int) (f : Nat → Bool) (cl : Bool) (nx E : Int) : (Tryz.prog.info? 109).map (·.size) = some (itmL C f cl nx E).length := by rw [itm_len]; exact size_itm
theorem zero_itm' : (Tryz.prog.info? 109).map (fun i => (i.zero, i.size)) = some (some (.agg (itmC 0 noneF false 0 0)), 260) := by kernel_rfl
theorem zero_itm (w : World) : (zeroValue 109).run Tryz.prog w = .ok (.agg (itmC 0 noneF false 0 0)) w := (zero_of_info zero_itm').1 w
theorem build_E (e : Int) (w : World) : (Instr.build 109 #[(4, .int .i64 e)]).run Tryz.prog w = .ok (.agg (itmC 0 noneF false 0 e)) w := run_build w _ _ _ (by kernel_rfl)
theorem build_CN (c k : Int) (w : World) : (Instr.build 109 #[(0, .int .i64 c), (3, .int .i64 k)]).run Tryz.prog w = .ok (.agg (itmC c noneF false k 0)) w := run_build w _ _ _ (by kernel_rfl)
theorem build_N (k : Int) (w : World) : (Instr.build 109 #[(3, .int .i64 k)]).run Tryz.prog w = .ok (.agg (itmC 0 noneF false k 0)) w := run_build w _ _ _ (by kernel_rfl)
end Go.Proofs.YtnfbgpjadnlgbaaGreat

set_option maxRecDepth 100000
namespace Go.Proofs.YtnfbgpjadnlgbaaGreat
open Go.RowKit

theorem ba_toList (l : List UInt8) : (⟨l.toArray⟩ : ByteArray).toList = l := by rw [ByteArray.toList_eq]
theorem conv_any {w : World} {B : Nat} {A : Option Addr} {l : List UInt8} {n c : Nat} (h : Byt w B A l) (hn : n = l.length) :
    (convert 22 9 (.slice A n c)).run Tryz.prog w = .ok (.string ⟨l.toArray⟩) w := by
  subst hn
  cases hl : l with
  | nil => exact run_convert_bytes_zero (P := Tryz.prog) w 22 5 Tryz.underlying22 Tryz.underlying5 A c 9 Tryz.underlying9
  | cons x r =>
    obtain ⟨ad, rfl, _, _⟩ := h.at_ (k := 0) (by rw [hl]; simp)
    rw [← hl]
    exact run_convert_bytes_back (P := Tryz.prog) w 22 9 5 ad c l Tryz.underlying22 Tryz.underlying5 Tryz.underlying9 (fun j hj => by
      obtain ⟨ad', he, _, hc⟩ := h.at_ hj
      obtain rfl := Option.some.inj he
      exact hc)

theorem boolsL_alike {f g : Nat → Bool} (h : alike f g) : boolsL f = boolsL g := by
  unfold boolsL
  refine List.map_congr_left fun c hc => ?_
  rw [h c (List.mem_range.1 hc)]
theorem itm_alike {C : Int} {f g : Nat → Bool} {cl : Bool} {nx E : Int} (h : alike f g) : itmC C f cl nx E = itmC C g cl nx E := by
  unfold itmC itmL; rw [boolsL_alike h]
/-- What the reference tells of a piece that begins at k. -/
def pcC (p : Pc) (k : Nat) : Array Value :=
  match p with
  | .bad e => itmC 0 noneF false 0 e
  | .one c n => itmC (c.toNat : Int) noneF false ((k + n : Nat) : Int) 0
  | .cls nm n => itmC 0 (clsF nm) true ((k + n : Nat) : Int) 0

theorem itm_hold (C C' : Int) (f f' : Nat → Bool) (cl cl' : Bool) (nx nx' E E' : Int) : (itmC C f cl nx E).size = (itmC C' f' cl' nx' E').size := by rw [itm_size, itm_size]
theorem itm_cells (C : Int) (f : Nat → Bool) (cl : Bool) (nx E : Int) : (itmC C f cl nx E).all (·.oneCell') = true := by
  unfold itmC
  rw [List.all_toArray, List.all_eq_true]
  exact itm_one C f cl nx E
theorem itm_sz (C : Int) (f : Nat → Bool) (cl : Bool) (nx E : Int) : (Tryz.prog.info? 109).map (·.size) = some (itmC C f cl nx E).size := by rw [itm_size]; exact size_itm
section
variable {w : World} {g : Nat} {C : Int} {f : Nat → Bool} {cl : Bool} {nx E : Int}
theorem ItmAt.put (h : ItmAt w g C f cl nx E) (C' : Int) (f' : Nat → Bool) (cl' : Bool) (nx' E' : Int) : ItmAt (w.setRow g (itmC C' f' cl' nx' E')) g C' f' cl' nx' E' := setRow_heap w g _ _ _ _ h
end

set_option maxRecDepth 100000 in
set_option maxHeartbeats 1000000 in
theorem read_out (A : Option Addr) (n c : Nat) (l : List UInt8) (w : World) (hn : n = l.length) (k : Nat) (hk : l.length ≤ k) :
    Calls Tryz.prog 89 #[.slice A n c, .int .i64 (k : Int)] w fun e w' => e = .returned (.agg (pcC (piece (l.drop k)) k)) ∧ Below w.heap.size w w' := by
  have hp : piece (l.drop k) = .bad 11 := by rw [List.drop_of_length_le hk]; rfl
  rw [hp]
  have hz := zero_itm
  have hb := build_E 11
  have hkn : n ≤ k := by omega
  clear hp hn hk
  go_enter Tryz.func89, Tryz.ntmps89
  go_wp2_with (refine wpList_store_row rfl 109 (.tmp 4) (.tmp 15) rfl w.heap.size (itmC 0 noneF false 0 11) rfl rfl 109 _ (itm_new w 0 noneF false 0 0) (itm_sz _ _ _ _ _) (itm_hold _ _ _ _ _ _ _ _ _ _) (itm_cells _ _ _ _ _) ?_)
  refine bodyPost_ret (v := .agg (itmC 0 noneF false 0 11)) (results_cell_row Tryz.results89 _ _ w.heap.size 109 (itmC 0 noneF false 0 11) (0, 0) _ rfl ((itm_new w 0 noneF false 0 0).put _ _ _ _ _) Tryz.underlying109 rfl (itm_sz _ _ _ _ _)) rfl ⟨rfl, below_put ((Below.refl _ _).alloc (Nat.le_refl _) _) (Nat.le_refl _) _⟩

theorem bg_at (x y : UInt8) {l : List UInt8} {k : Nat} (h : k < l.length) : bg [x, y] (l.drop k) = (decide (((l[k]'h).toNat : Int) = (x.toNat : Int)) && decide (atV l (k + 1) = (y.toNat : Int))) := by
  rw [bg_two, Bool.eq_iff_iff]
  simp only [Bool.and_eq_true, decide_eq_true_eq, ← atV_is, atV_in h]
/-- What a piece is where no [: [. [= begins. -/
theorem piece_plain {l : List UInt8} {k : Nat} (h : k < l.length) (h1 : ((l[k]'h).toNat : Int) = 91 → atV l (k + 1) ≠ 58 ∧ atV l (k + 1) ≠ 46 ∧ atV l (k + 1) ≠ 61) :
    piece (l.drop k) = if ((l[k]'h).toNat : Int) = 92 ∧ atV l (k + 1) = 110 then .one 10 2 else .one (l[k]'h) 1 := by
  have e1 : bg [91, 58] (l.drop k) = false := by rw [bg_at 91 58 h]; by_cases e : ((l[k]'h).toNat : Int) = 91 <;> simp [e]; exact (h1 e).1
  have e2 : bg [91, 46] (l.drop k) = false := by rw [bg_at 91 46 h]; by_cases e : ((l[k]'h).toNat : Int) = 91 <;> simp [e]; exact (h1 e).2.1
  have e3 : bg [91, 61] (l.drop k) = false := by rw [bg_at 91 61 h]; by_cases e : ((l[k]'h).toNat : Int) = 91 <;> simp [e]; exact (h1 e).2.2
  have e4 : bg [92, 110] (l.drop k) = decide (((l[k]'h).toNat : Int) = 92 ∧ atV l (k + 1) = 110) := by rw [bg_at 92 110 h]; simp
  unfold piece endP
  rw [e1, e2, e3, e4]
  simp only [Bool.false_eq_true, if_false, decide_eq_true_eq]
  split
  · rfl
  · rw [List.drop_eq_getElem_cons h]

set_option maxRecDepth 100000 in
set_option maxHeartbeats 1000000 in
theorem read_nl (A : Option Addr) (n c : Nat) (l : List UInt8) (B : Nat) (w : World) (hn : n = l.length) (hB : B ≤ w.heap.size) (hbt : Byt w B A l) (k : Nat) (hk : k < l.length) (hs : l.length ≤ 100000) (hx : ((l[k]'hk).toNat : Int) = 92) (hy : atV l (k + 1) = 110) :
    Calls Tryz.prog 89 #[.slice A n c, .int .i64 (k : Int)] w fun e w' => e = .returned (.agg (pcC (piece (l.drop k)) k)) ∧ Below w.heap.size w w' := by
  have hp : piece (l.drop k) = .one 10 2 := by rw [piece_plain hk (fun e => by omega), if_pos ⟨hx, hy⟩]
  rw [hp]
  have hz := zero_itm
  have hb := build_CN 10 ((k : Int) + 2)
  replace hbt := (hbt.more hB).below ((Below.refl _ _).alloc (Nat.le_refl _) (.cells (itmC 0 noneF false 0 0) 109))
  have hat := at_any A n c l w.heap.size _ hn hbt (k + 1) (by omega)
  rw [hy] at hat
  replace hat := Lib.hid hat
  obtain ⟨ad, rfl, hadB, hd⟩ := hbt.at_ hk
  rw [hx] at hd
  have hkn : k < n := by omega
  have hks : k < 100000 := by omega
  clear hp hn hk hx hy hbt hs hB
  go_enter Tryz.func89, Tryz.ntmps89
  go_wp2_with (first
    | (go_at_call 88; refine (hat.out).mono ?_; rintro e w' ⟨rfl, rfl⟩)
    | (refine wpList_store_row rfl 109 (.tmp 4) (.tmp 31) rfl w.heap.size (itmC 10 noneF false ((k : Int) + 2) 0) rfl rfl 109 _ (itm_new w 0 noneF false 0 0) (itm_sz _ _ _ _ _) (itm_hold _ _ _ _ _ _ _ _ _ _) (itm_cells _ _ _ _ _) ?_))
  refine bodyPost_ret (v := .agg (itmC 10 noneF false ((k : Int) + 2) 0)) (results_cell_row Tryz.results89 _ _ w.heap.size 109 (itmC 10 noneF false ((k : Int) + 2) 0) (0, 0) _ rfl ((itm_new w 0 noneF false 0 0).put _ _ _ _ _) Tryz.underlying109 rfl (itm_sz _ _ _ _ _)) rfl ⟨rfl, below_put ((Below.refl _ _).alloc (Nat.le_refl _) _) (Nat.le_refl _) _⟩

set_option maxRecDepth 100000 in
set_option maxHeartbeats 1000000 in
theorem read_one (A : Option Addr) (n c : Nat) (l : List UInt8) (B : Nat) (w : World) (hn : n = l.length) (hB : B ≤ w.heap.size) (hbt : Byt w B A l) (k : Nat) (hk : k < l.length) (hs : l.length ≤ 100000)
    (h1 : ((l[k]'hk).toNat : Int) = 91 → atV l (k + 1) ≠ 58 ∧ atV l (k + 1) ≠ 46 ∧ atV l (k + 1) ≠ 61) (h2 : ¬ (((l[k]'hk).toNat : Int) = 92 ∧ atV l (k + 1) = 110)) :
    Calls Tryz.prog 89 #[.slice A n c, .int .i64 (k : Int)] w fun e w' => e = .returned (.agg (pcC (piece (l.drop k)) k)) ∧ Below w.heap.size w w' := by
  have hp : piece (l.drop k) = .one (l[k]'hk) 1 := by rw [piece_plain hk h1, if_neg h2]
  rw [hp]
  show Calls _ _ _ _ fun e w' => e = .returned (.agg (itmC ((l[k]'hk).toNat : Int) noneF false ((k : Int) + 1) 0)) ∧ Below w.heap.size w w'
  have hz := zero_itm
  have hb := build_CN ((l[k]'hk).toNat : Int) ((k : Int) + 1)
  replace hbt := (hbt.more hB).below ((Below.refl _ _).alloc (Nat.le_refl _) (.cells (itmC 0 noneF false 0 0) 109))
  have hat := at_any A n c l w.heap.size _ hn hbt (k + 1) (by omega)
  have hX : (l[k]'hk).toNat < 256 := UInt8.toNat_lt _
  obtain ⟨ad, rfl, hadB, hd⟩ := hbt.at_ hk
  generalize (l[k]'hk).toNat = X at *
  generalize atV l (k + 1) = y at *
  replace hat := Lib.hid hat
  have hkn : k < n := by omega
  have hks : k < 100000 := by omega
  have fin : ∀ w' v, w' = (w.alloc (.cells (itmC 0 noneF false 0 0) 109)).setRow w.heap.size (itmC (X : Int) noneF false ((k : Int) + 1) 0) → v = .agg (itmC (X : Int) noneF false ((k : Int) + 1) 0) → Ending.returned v = .returned (.agg (itmC (X : Int) noneF false ((k : Int) + 1) 0)) ∧ Below w.heap.size w w' := by
    rintro w' v rfl rfl
    exact ⟨rfl, below_put ((Below.refl _ _).alloc (Nat.le_refl _) _) (Nat.le_refl _) _⟩
  clear hp hn hk hbt hs hB
  by_cases h92 : X = 92
  · subst h92
    have g1 : (y == 110) = false := by simpa using fun e => h2 ⟨rfl, e⟩
    clear h1 h2
    go_enter Tryz.func89, Tryz.ntmps89
    go_wp2_with (first
      | (go_at_call 88; refine (hat.out).mono ?_; rintro e w' ⟨rfl, rfl⟩)
      | (refine wpList_store_row rfl 109 (.tmp 4) (.tmp 56) rfl w.heap.size (itmC 92 noneF false ((k : Int) + 1) 0) rfl rfl 109 _ (itm_new w 0 noneF false 0 0) (itm_sz _ _ _ _ _) (itm_hold _ _ _ _ _ _ _ _ _ _) (itm_cells _ _ _ _ _) ?_))
    exact bodyPost_ret (v := .agg (itmC 92 noneF false ((k : Int) + 1) 0)) (results_cell_row Tryz.results89 _ _ w.heap.size 109 (itmC 92 noneF false ((k : Int) + 1) 0) (0, 0) _ rfl ((itm_new w 0 noneF false 0 0).put _ _ _ _ _) Tryz.underlying109 rfl (itm_sz _ _ _ _ _)) rfl (fin _ _ rfl rfl)
  · by_cases h91 : X = 91
    · subst h91
      obtain ⟨m1, m2, m3⟩ := h1 rfl
      have g2 : (y != 58) = true := by simpa using m1
      have g3 : (y != 46) = true := by simpa using m2
      have g4 : (y != 61) = true := by simpa using m3
      clear h1 h2 h92 m1 m2 m3
      go_enter Tryz.func89, Tryz.ntmps89
      go_wp2_with (first
        | (go_at_call 88; refine (hat.out).mono ?_; rintro e w' ⟨rfl, rfl⟩)
        | (refine wpList_store_row rfl 109 (.tmp 4) (.tmp 56) rfl w.heap.size (itmC 91 noneF false ((k : Int) + 1) 0) rfl rfl 109 _ (itm_new w 0 noneF false 0 0) (itm_sz _ _ _ _ _) (itm_hold _ _ _ _ _ _ _ _ _ _) (itm_cells _ _ _ _ _) ?_))
      exact bodyPost_ret (v := .agg (itmC 91 noneF false ((k : Int) + 1) 0)) (results_cell_row Tryz.results89 _ _ w.heap.size 109 (itmC 91 noneF false ((k : Int) + 1) 0) (0, 0) _ rfl ((itm_new w 0 noneF false 0 0).put _ _ _ _ _) Tryz.underlying109 rfl (itm_sz _ _ _ _ _)) rfl (fin _ _ rfl rfl)
    · have g0 : ((X : Int) == 92) = false := by simp; omega
      have g1 : ((X : Int) != 91) = true := by simp; omega
      clear h1 h2 h92 h91
      go_enter Tryz.func89, Tryz.ntmps89
      go_wp2_with (first
        | (go_at_call 88; refine (hat.out).mono ?_; rintro e w' ⟨rfl, rfl⟩)
        | (refine wpList_store_row rfl 109 (.tmp 4) (.tmp 56) rfl w.heap.size (itmC X noneF false ((k : Int) + 1) 0) rfl rfl 109 _ (itm_new w 0 noneF false 0 0) (itm_sz _ _ _ _ _) (itm_hold _ _ _ _ _ _ _ _ _ _) (itm_cells _ _ _ _ _) ?_))
      exact bodyPost_ret (v := .agg (itmC X noneF false ((k : Int) + 1) 0)) (results_cell_row Tryz.results89 _ _ w.heap.size 109 (itmC X noneF false ((k : Int) + 1) 0) (0, 0) _ rfl ((itm_new w 0 noneF false 0 0).put _ _ _ _ _) Tryz.underlying109 rfl (itm_sz _ _ _ _ _)) rfl (fin _ _ rfl rfl)
end Go.Proofs.YtnfbgpjadnlgbaaGreat
