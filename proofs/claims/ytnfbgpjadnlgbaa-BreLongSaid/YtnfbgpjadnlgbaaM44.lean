/- Plain facts for the laws of stage 8: one byte again and again. Contracts of the reference: Alnum, One. -/
import Derived.Test.YtnfbgpjadnlgbaaM43
import Derived.Test.YtnfbgpjadnlgbaaM26
import Derived.Test.YtnfbgpjadnlgbaaM17
set_option linter.unusedVariables false
set_option maxRecDepth 100000
namespace Go.Proofs.Ytnfbgpjadnlgbaa
open Go.RowKit

def lP (i : Nat) : List Int := (List.range i).map fun (j : Nat) => (j : Int)
theorem lP_succ (i : Nat) : lP (i + 1) = lP i ++ [(i : Int)] := by simp [lP, List.range_succ]
theorem drop_rep (k i : Nat) (c : UInt8) : (List.replicate k c).drop i = List.replicate (k - i) c := by simp
theorem bg_rep {x : UInt8} {p : List UInt8} {c : UInt8} (h : c ≠ x) (m : Nat) : bg (x :: p) (List.replicate m c) = false := by
  cases m with
  | zero => rfl
  | succ m =>
    rw [List.replicate_succ, bg_cons]
    have : (x == c) = false := by rw [beq_eq_false_iff_ne]; exact fun e => h e.symm
    rw [this]; rfl
/-- A byte that means itself wherever it stands. -/
def plainB (c : UInt8) : Prop := c ≠ 92 ∧ c ≠ 91 ∧ c ≠ 42 ∧ c ≠ 36 ∧ c ≠ 94 ∧ c ≠ 46
theorem atom_rep {c : UInt8} (h : plainB c) {k i : Nat} (hi : i < k) : atomA (List.replicate k c) i = .nod (i + 1) (setN (oneF c)) := by
  obtain ⟨h1, h2, h3, h4, h5, h6⟩ := h
  have hd : (List.replicate k c).drop i = c :: List.replicate (k - i - 1) c := by
    rw [drop_rep, show k - i = (k - i - 1) + 1 by omega, List.replicate_succ]; rfl
  rw [atom_at hd]
  simp only [atomR, ofL_one]
  rw [if_neg h1, if_neg h2, if_neg h6, if_neg (fun e => h4 e.1)]
theorem long_steps {c : UInt8} (h : plainB c) (k : Nat) : ∀ i, i ≤ k → i ≤ 1000 → Steps (List.replicate k c) cf0 ⟨.L, i, List.replicate i (setN (oneF c)), 0, fun _ => false, lP i, []⟩
  | 0, _, _ => .one (show step (List.replicate k c) ⟨.B, 0, [], 0, fun _ => false, [], []⟩ = _ from step_plain (by rw [drop_rep]; exact bg_rep h.2.2.2.2.1 _))
  | i + 1, hi, hl => by
    refine (long_steps h k i (by omega) (by omega)).trans (.head (c1 := ⟨.P (i : Int), i + 1, List.replicate (i + 1) (setN (oneF c)), 0, fun _ => false, lP i, []⟩) ?_ (.one ?_))
    · rw [step_atom (inG := false) (by rw [List.length_replicate]; omega) (fun e => by cases e) rfl, atom_rep h (by omega)]
      simp only [stepA, putS]
      rw [if_pos (by rw [List.length_replicate]; omega), List.length_replicate, List.replicate_succ']
    · rw [lP_succ]
      exact step_off (by rw [drop_rep]; exact bg_rep h.2.2.1 _) (by rw [drop_rep]; exact bg_rep h.1 _)
theorem catGo_len : ∀ (r : List Int) (x : Int) (ns : List Nod), ns.length + r.length ≤ 1000 → ∃ y ns', catGo x ns r = some (y, ns') ∧ ns'.length = ns.length + r.length
  | [], x, ns, _ => ⟨x, ns, rfl, rfl⟩
  | p :: r, x, ns, h => by
    rw [List.length_cons] at h
    obtain ⟨y, ns', h1, h2⟩ := catGo_len r (ns.length : Int) (ns ++ [twoN 2 x p]) (by rw [List.length_append, List.length_singleton]; omega)
    rw [List.length_append, List.length_singleton] at h2
    exact ⟨y, ns', by rw [catGo_cons, if_pos (by omega)]; exact h1, by rw [List.length_cons]; omega⟩
theorem catGo_over : ∀ (r : List Int) (x : Int) (ns : List Nod), ns.length ≤ 1000 → 1000 < ns.length + r.length → catGo x ns r = none
  | [], x, ns, h, h2 => by simp at h2; omega
  | p :: r, x, ns, h, h2 => by
    rw [List.length_cons] at h2
    rw [catGo_cons]
    split
    · exact catGo_over r _ _ (by rw [List.length_append, List.length_singleton]; omega) (by rw [List.length_append, List.length_singleton]; omega)
    · rfl
theorem lP_cons (k : Nat) : ∃ r, lP (k + 1) = 0 :: r ∧ r.length = k := by
  refine ⟨(lP (k + 1)).tail, ?_, by simp [lP]⟩
  have : lP (k + 1) ≠ [] := by simp [lP]
  cases h : lP (k + 1) with
  | nil => exact absurd h this
  | cons x r =>
    have h0 : (lP (k + 1))[0]? = some 0 := by simp [lP]
    rw [h] at h0
    simp at h0
    rw [h0]; rfl
theorem long_end {c : UInt8} (h : plainB c) {k : Nat} (hk : 1 ≤ k) (hl : k ≤ 1000) :
    (2 * k - 1 ≤ 1000 → ∃ ns, ns.length = 2 * k - 1 ∧ Ends (List.replicate k c) cf0 (.fin ns 0)) ∧ (1000 < 2 * k - 1 → Ends (List.replicate k c) cf0 (.bad k 8)) := by
  have hs := long_steps h k k (Nat.le_refl _) hl
  obtain ⟨j, rfl⟩ : ∃ j, k = j + 1 := ⟨k - 1, by omega⟩
  obtain ⟨r, hr, hrl⟩ := lP_cons j
  have hst : step (List.replicate (j + 1) c) ⟨.L, j + 1, List.replicate (j + 1) (setN (oneF c)), 0, fun _ => false, lP (j + 1), []⟩ = match catS (List.replicate (j + 1) (setN (oneF c))) (lP (j + 1)) with | none => .bad (j + 1) 8 | some (_, ns) => .fin ns 0 := by
    show stepL _ ⟨.L, j + 1, List.replicate (j + 1) (setN (oneF c)), 0, fun _ => false, lP (j + 1), []⟩ = _
    simp only [stepL]
    rw [if_pos (by rw [List.length_replicate]; exact Nat.le_refl _)]
    rfl
  rw [hr, catS_cons] at hst
  rw [hr] at hs
  refine ⟨fun h1 => ?_, fun h1 => ?_⟩
  · obtain ⟨y, ns', e1, e2⟩ := catGo_len r 0 (List.replicate (j + 1) (setN (oneF c))) (by rw [List.length_replicate, hrl]; omega)
    rw [e1] at hst
    exact ⟨ns', by rw [e2, List.length_replicate, hrl]; omega, hs.ends (.fin hst)⟩
  · rw [catGo_over r 0 _ (by rw [List.length_replicate]; omega) (by rw [List.length_replicate, hrl]; omega)] at hst
    exact hs.ends (.bad hst)

/-! ### A row of bytes, by a function -/
def rowU (m : Nat) (f : Nat → Int) : Array Value := ((List.range m).map fun i => Value.int .u8 (f i)).toArray
theorem rowU_get (m : Nat) (f : Nat → Int) (i : Nat) (h : i < m) : (rowU m f)[i]? = some (.int .u8 (f i)) := by
  unfold rowU
  rw [List.getElem?_toArray, List.getElem?_map, List.getElem?_range h]; rfl
theorem rowU_size (m : Nat) (f : Nat → Int) : (rowU m f).size = m := by simp [rowU]
theorem rowU_congr {m : Nat} {f g : Nat → Int} (h : ∀ i, i < m → f i = g i) : rowU m f = rowU m g := by
  unfold rowU
  congr 1
  exact List.map_congr_left fun i hi => by rw [h i (List.mem_range.1 hi)]
theorem rowU_set (m : Nat) (f : Nat → Int) (p : Nat) (x : Int) : (rowU m f).setIfInBounds p (.int .u8 x) = rowU m (fun i => if i = p then x else f i) := by
  apply Array.ext_getElem?
  intro i
  rw [Array.getElem?_setIfInBounds]
  by_cases hi : p = i
  · subst hi
    rw [if_pos rfl, rowU_size]
    by_cases hp : p < m
    · rw [if_pos hp, rowU_get _ _ _ hp]; simp
    · rw [if_neg hp, Array.getElem?_eq_none (by rw [rowU_size]; omega)]
  · rw [if_neg hi]
    by_cases hl : i < m
    · have : ¬ i = p := fun e => hi e.symm
      rw [rowU_get _ _ _ hl, rowU_get _ _ _ hl]; simp [this]
    · rw [Array.getElem?_eq_none (by rw [rowU_size]; omega), Array.getElem?_eq_none (by rw [rowU_size]; omega)]
theorem rowU_zero (m : Nat) : (madeCells #[.int .u8 0] m) = rowU m (fun _ => 0) := by
  apply Array.toList_inj.1
  rw [toList_madeCells_one]
  simp [rowU, List.map_const']
theorem u8_info : (Try.prog.info? 5).map (fun i => (i.zero, i.size, i.bytes)) = some (some (.int .u8 0), 1, 1) := by kernel_rfl
/-- make([]byte, m). -/
theorem make_bytes (m : Nat) (h : m ≤ 1000000) (w : World) :
    (Instr.makeSlice 24 (.int .i64 (m : Int)) (.int .i64 (m : Int))).run Try.prog w = .ok (.slice (some ⟨w.heap.size, 0, none⟩) m m) (w.alloc (.cells (rowU m (fun _ => 0)) 5)) := by
  obtain ⟨i, hi, hh⟩ := Option.map_eq_some_iff.1 u8_info
  simp only [Prod.mk.injEq] at hh
  obtain ⟨h1, h2, h3⟩ := hh
  have hr := run_make (P := Try.prog) w 24 5 i (.int .u8 0) Try.underlying24 hi h1 .i64 .i64 (m : Int) (m : Int) (by omega) (Int.le_refl _) (by rw [h3]; omega) (by omega)
  rw [hr, h2]
  simp only [Int.toNat_natCast, Nat.mul_one]
  rw [show (Value.int .u8 0).cells = #[.int .u8 0] from rfl, rowU_zero]
def fillF (c : UInt8) (i : Nat) : Nat → Int := fun j => if j < i then (c.toNat : Int) else 0
theorem Held.fill {w : World} {g m i : Nat} {t : TypeId} {c : UInt8} (h : Held w g t (rowU m (fillF c i))) : Held (w.setCell ⟨g, i, none⟩ (.int .u8 (c.toNat : Int))) g t (rowU m (fillF c (i + 1))) := by
  have := h.put i (.int .u8 (c.toNat : Int))
  rw [rowU_set] at this
  rwa [rowU_congr (g := fillF c (i + 1)) fun j hj => by
    unfold fillF
    by_cases e : j = i
    · subst e; simp
    · by_cases e2 : j < i
      · rw [if_neg e, if_pos e2, if_pos (by omega)]
      · rw [if_neg e, if_neg e2, if_neg (by omega)]] at this
theorem Held.byt_fill {w : World} {g m : Nat} {t : TypeId} {c : UInt8} (h : Held w g t (rowU m (fillF c m))) : Byt w (g + 1) (some ⟨g, 0, none⟩) (List.replicate m c) := by
  intro j hj
  have hj' : j < m := by simpa using hj
  refine ⟨_, rfl, Nat.lt_succ_self _, ?_⟩
  rw [add_zero_off, h.at_ (rowU_get m _ j hj')]
  simp [fillF, hj']
end Go.Proofs.Ytnfbgpjadnlgbaa

set_option linter.unusedVariables false
set_option maxRecDepth 100000
namespace Go.Proofs.Ytnfbgpjadnlgbaa
open Go.RowKit

theorem inRow_al (c : UInt8) : inRow [65, 90, 97, 122, 48, 57] (c.toNat : Int) = isAl c := by
  unfold isAl cAlnum cAlpha cUpper cLower cDigit
  rw [Bool.eq_iff_iff]
  simp [inRow, isW]
  omega
theorem refAlnum_any (c : UInt8) (w : World) : Calls Try.prog 9 #[.int .i64 (c.toNat : Int)] w fun e w' => e = .returned (.bool (isAl c)) ∧ w = w' := by
  have h0 : (0 : Int) ≤ (c.toNat : Int) := by omega
  have h1 : (c.toNat : Int) < 256 := by have := UInt8.toNat_lt c; omega
  have hw : IntKind.u8.wrap (c.toNat : Int) = (c.toNat : Int) := IntWalk.u8_in _ (by omega)
  have hI := Lib.hid (in_any ⟨#[65, 90, 97, 122, 48, 57]⟩ (c.toNat : Int) w (by decide))
  rw [show inRow (ByteArray.mk #[65, 90, 97, 122, 48, 57]).data.toList (c.toNat : Int) = isAl c from inRow_al c] at hI
  generalize isAl c = r at *
  generalize (c.toNat : Int) = d at *
  go_enter Try.func9, Try.ntmps9
  go_wp2_with (go_at_call 17; refine (hI.out).mono ?_; rintro e w' ⟨rfl, rfl⟩)
  go_ret
  exact ⟨rfl, rfl⟩
theorem oneF_more (c : UInt8) : (fun x => noneF x || decide (x = c.toNat)) = oneF c := by
  funext x
  simp [noneF, oneF, oneF.ofB, eq_comm]
theorem or_zero_u64 (n : Nat) (hn : n < 18446744073709551616) : bits .or .u64 ((0 : Nat) : Int) (n : Int) = (n : Int) := by
  rw [bits_or_u64_nat 0 n (by decide) hn, Nat.zero_or]
theorem one_cells (c : UInt8) {K i : Nat} (he : c.toNat = 64 * K + i) (hi : i < 64) (hK : K = 0 ∨ K = 1 ∨ K = 2 ∨ K = 3) (w : World) : setC (oneF c) = (setC noneF).setIfInBounds K (.int .u64 ((bitN c.toNat : Nat) : Int)) := by
  have hz := set_new w noneF
  have hs := hz.more he hi hK
  rw [oneF_more, show wd noneF K = 0 from wd_none K, or_zero_u64 _ (bitN_lt _)] at hs
  have h2 := heap_setCell_same _ w.heap.size K _ _ (.int .u64 ((bitN c.toNat : Nat) : Int)) hz
  unfold SetAt at hs
  rw [hs] at h2
  injection h2 with h2
  injection h2
set_option maxHeartbeats 4000000 in
theorem refOne_any (c : UInt8) (w : World) : Calls Try.prog 10 #[.int .u8 (c.toNat : Int)] w fun e w' => e = .returned (.agg (setC (oneF c))) ∧ Below w.heap.size w w' := by
  have hc : c.toNat < 256 := UInt8.toNat_lt c
  obtain ⟨K, i, he, hi, hK⟩ := byte_parts c.toNat hc
  have h0 := tdiv_of he hi
  have h1 := ediv_of he hi
  have hset := one_cells c he hi hK w
  rw [hset, setC_noneF]
  have m1 : (0 : Int) ≤ (c.toNat : Int) % 64 := by omega
  have m2 : (c.toNat : Int) % 64 ≤ 64 := by omega
  have mt : ((c.toNat : Int) % 64).toNat = c.toNat % 64 := by omega
  have hpw : IntKind.u64.wrap ((2 : Int) ^ (c.toNat % 64)) = ((bitN c.toNat : Nat) : Int) := by
    rw [show (2 : Int) ^ (c.toNat % 64) = ((bitN c.toNat : Nat) : Int) by simp [bitN]]
    exact IntWalk.u64_in _ (by have := bitN_lt c.toNat; omega)
  clear he hi hc hset
  generalize c.toNat = x at *
  generalize bitN x = bt at *
  rcases hK with rfl | rfl | rfl | rfl
  all_goals
    go_enter Try.func10, Try.ntmps10
    go_wp2
  all_goals
    exact bodyPost_ret (results_cell_row Try.results10 _ _ w.heap.size 35 _ (0, 0) _ rfl ((held_new w 35 _).alloc _) Try.underlying35 rfl (by kernel_rfl)) rfl ⟨rfl, ((Below.refl w.heap.size w).alloc (Nat.le_refl _) _).alloc (by simp) _⟩
end Go.Proofs.Ytnfbgpjadnlgbaa
