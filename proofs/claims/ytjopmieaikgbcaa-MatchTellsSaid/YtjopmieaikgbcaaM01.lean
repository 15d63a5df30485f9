/- What every law of this seat shares: how a law's end gives the row's 'post', what the listed tables give, how arguments are opened. Words on memory that all seats share; nothing here speaks of a program. Sets of bytes as functions Nat → Bool, and the four numbers that hold them. Nothing here speaks of a program. -/
import Derived.Test.YtjopmieaikgbcaaRows
import Derived.WalkKit
import Derived.ProofKit
import Derived.OpenShut
import Derived.ShutString
import Derived.LaidMore
import Derived.Deep.DeepHandedRow
import Derived.Lib.LaidTab
import Derived.Stop.LaidErr
import Derived.Lib.ItoaNum
import Derived.Below
import Derived.Deep.Draws
import Derived.WalkSmall
import Derived.Lib.Hide
import Derived.SliceStrings
import Derived.Sort.Grow
import Derived.Laws.BitsAllLaws
set_option maxRecDepth 100000
namespace Go.Proofs.Ytjopmieaikgbcaa
open Go.ChangeShapes Go.WideShapes Go.ChangeAt Go.RowKit

theorem own : ownKnob Try.prog.godebug = none := by kernel_rfl
theorem laidOut_ : laidOutB Try.prog = true := by kernel_rfl

theorem trodAll_stays {H : Type} {enc : TypeId × Value → H} {P : Program} (hl : laidOutB P = true) {W W' : World} (hb : Below W.heap.size W W') (ts : List TypeId) :
    ∀ (vs : List Value) (ds : List (DataW H)) (ps : List MemPlace),
    (ts.all fun t => P.readableRec t && decide (t < P.types.size)) = true → (∀ x ∈ ps, x.block < W.heap.size) →
    DataW.TrodAll enc P W 0 (fun _ => true) true ts vs ds ps → DataW.TrodAll enc P W' 0 (fun b => decide (b < W.heap.size)) true ts vs ds ps := by
  induction ts with
  | nil =>
    intro vs ds ps _ _ h
    obtain ⟨rfl, rfl, rfl⟩ := trodAll_nil h
    exact trodAll_mk0
  | cons t ts ih =>
    intro vs ds ps hr hlt h
    obtain ⟨v, vs, d, ds, p, q, rfl, rfl, rfl, hp, hq⟩ := trodAll_cons h
    rw [List.all_cons, Bool.and_eq_true, Bool.and_eq_true] at hr
    exact trodAll_cons_mk (Below.trod hl hr.1.1 (of_decide_eq_true hr.1.2) hp hb (fun x hx => hlt x (List.mem_append_left _ hx)))
      (ih vs ds q hr.2 (fun x hx => hlt x (List.mem_append_right _ hx)) hq)

/-- A law that has answered true, below whose old blocks nothing has turned, gives what its row asks. -/
theorem law_post {H : Type} {enc : TypeId × Value → H} {f : Func} {s : ChangeSpec} {W W' : World} {args : Array Value} {ds gs : List (DataW H)} {before : List MemPlace}
    (hW : DataW.Whole enc Try.prog f.params.toList s.vars false W args.toList ds gs before) (hvars : s.vars = []) (hres : f.resultTypes = #[4])
    (hr : (f.params.toList.all fun t => Try.prog.readableRec t && decide (t < Try.prog.types.size)) = true)
    (hs : s.fn H (ds ++ gs) = { results := [.lit (.bool true)], args := ds }) (hb : Below W.heap.size W W') :
    s.post enc Try.prog f false true false false W args (.bool true) W' := by
  have hlt : ∀ x ∈ before, x.block < W.heap.size := fun x hx => hW.lt x hx
  have hW0 := hW
  obtain ⟨p, q, hA, hV, rfl, hfz, hnd⟩ := hW
  rw [hvars] at hV
  obtain ⟨rfl, rfl⟩ := trodVars_none hV
  refine ⟨ds, [], p ++ [], [], p, [], hW0, ?_, ?_, ?_, ?_, fun h => by cases h⟩
  · rw [hs, hres]; exact trodAll_mk1 (shut_bool Try.underlying4 _)
  · rw [hs]; exact trodAll_stays laidOut_ hb _ _ _ _ hr (fun x hx => hlt x (by simpa using hx)) hA
  · rw [hs, hvars]; exact rfl
  · exact World.keptBut_mono (fun x hx => ⟨hx, .inr (.inl (by simpa using hx))⟩) (hb.frame (· ∈ p ++ []))
end Go.Proofs.Ytjopmieaikgbcaa

set_option maxRecDepth 100000
namespace Go.Proofs.Ytjopmieaikgbcaa
open Go.RowKit Go.ChangeShapes Go.WideShapes

theorem ret_bool {a b : Bool} (h : a = b) : Ending.returned (.bool a) = .returned (.bool b) := by rw [h]
theorem ret_bools {a b c d : Bool} (h : a = b) (k : c = d) : Ending.returned (.tuple #[.bool a, .bool c]) = .returned (.tuple #[.bool b, .bool d]) := by rw [h, k]
theorem ret_int {k : IntKind} {a b : Int} (h : a = b) : Ending.returned (.int k a) = .returned (.int k b) := by rw [h]
theorem ret_str {a b : List UInt8} (h : a = b) : Ending.returned (.string ⟨a.toArray⟩) = .returned (.string ⟨b.toArray⟩) := by rw [h]
theorem len_toList (s : ByteArray) : s.data.toList.length = s.size := rfl
theorem bytes_ext {s t : ByteArray} (h : s.data.toList = t.data.toList) : s = t := by
  cases s; cases t; simp at h; rw [h]
theorem mk_toList (s : ByteArray) : (⟨s.data.toList.toArray⟩ : ByteArray) = s := by cases s; simp
theorem block_add (a : Addr) (n : Nat) : (a.add n).block = a.block := by unfold Addr.add; split <;> rfl
theorem add_zero_off (b k : Nat) : (Addr.add ⟨b, 0, none⟩ k : Addr) = ⟨b, k, none⟩ := by unfold Addr.add; split <;> simp_all
theorem add_two (a : Addr) (i k : Nat) : (a.add i).add k = a.add (i + k) := by unfold Addr.add; split <;> split <;> split <;> simp_all <;> omega

/-- In the world w the slice that begins at A holds the values xs, one cell each, all of them below block B. -/
def Vals (w : World) (B : Nat) (A : Option Addr) (xs : List Value) : Prop :=
  ∀ (k : Nat) (h : k < xs.length), ∃ ad, A = some ad ∧ ad.block < B ∧ w.cell? (ad.add k) = some (xs[k]'h)
section
variable {w w' : World} {B B' : Nat} {A : Option Addr} {xs : List Value}
theorem Vals.at_ (h : Vals w B A xs) {k : Nat} (hk : k < xs.length) : ∃ ad, A = some ad ∧ ad.block < B ∧ w.cell? (ad.add k) = some (xs[k]'hk) := h k hk
theorem Vals.keep (h : Vals w B A xs) (hk : ∀ p : Addr, p.block < B → w'.cell? p = w.cell? p) : Vals w' B A xs := by
  intro k hlt
  obtain ⟨ad, hA, hb, hc⟩ := h k hlt
  exact ⟨ad, hA, hb, (hk _ (by rw [block_add]; exact hb)).trans hc⟩
theorem Vals.below (h : Vals w B A xs) (hb : Below B w w') : Vals w' B A xs := h.keep fun _ hp => hb.cell hp
theorem Vals.more (h : Vals w B A xs) (hB : B ≤ B') : Vals w B' A xs := fun k hk =>
  let ⟨ad, hA, hb, hc⟩ := h k hk; ⟨ad, hA, Nat.lt_of_lt_of_le hb hB, hc⟩
theorem Vals.none_ (w : World) (B : Nat) (A : Option Addr) : Vals w B A [] := fun _ h => absurd h (by simp)
theorem Vals.cut (h : Vals w B A xs) {i j cap : Nat} (hj : j ≤ xs.length) (hc : xs.length ≤ cap) :
    Vals w B (if cap = i then A else A.map (·.add i)) ((xs.take j).drop i) := by
  intro k hk
  rw [List.length_drop, List.length_take] at hk
  obtain ⟨ad, rfl, hb, hcell⟩ := h (i + k) (by omega)
  rw [if_neg (by omega)]
  refine ⟨ad.add i, rfl, by rw [block_add]; exact hb, ?_⟩
  rw [add_two, hcell]
  simp only [List.getElem_drop, List.getElem_take]
theorem vals_new (w : World) (xs : List Value) (t : TypeId) (fr : Nat × Nat) : Vals (w.alloc (.cells xs.toArray t fr)) (w.heap.size + 1) (some ⟨w.heap.size, 0, none⟩) xs := by
  intro k hk
  refine ⟨_, rfl, Nat.lt_succ_self _, ?_⟩
  rw [add_zero_off, cell_of_row _ _ k _ t fr (heap_alloc_new w _)]
  simp [List.getElem?_eq_getElem hk]
end

/-- The bytes l as values. -/
def bv (l : List UInt8) : List Value := l.map fun c => Value.int .u8 (c.toNat : Int)
theorem bv_length (l : List UInt8) : (bv l).length = l.length := by simp [bv]
/-- In the world w the slice that begins at A holds the bytes l, all of them below block B. -/
def Byt (w : World) (B : Nat) (A : Option Addr) (l : List UInt8) : Prop :=
  ∀ (k : Nat) (h : k < l.length), ∃ ad, A = some ad ∧ ad.block < B ∧ w.cell? (ad.add k) = some (.int .u8 ((l[k]'h).toNat : Int))
section
variable {w w' : World} {B B' : Nat} {A : Option Addr} {l : List UInt8}
theorem Byt.at_ (h : Byt w B A l) {k : Nat} (hk : k < l.length) : ∃ ad, A = some ad ∧ ad.block < B ∧ w.cell? (ad.add k) = some (.int .u8 ((l[k]'hk).toNat : Int)) := h k hk
theorem Byt.vals (h : Byt w B A l) : Vals w B A (bv l) := by
  intro k hk
  rw [bv_length] at hk
  obtain ⟨ad, hA, hb, hc⟩ := h k hk
  exact ⟨ad, hA, hb, by rw [hc]; simp [bv]⟩
theorem Vals.byt (h : Vals w B A (bv l)) : Byt w B A l := by
  intro k hk
  obtain ⟨ad, hA, hb, hc⟩ := h k (by rw [bv_length]; exact hk)
  exact ⟨ad, hA, hb, by rw [hc]; simp [bv]⟩
theorem Byt.keep (h : Byt w B A l) (hk : ∀ p : Addr, p.block < B → w'.cell? p = w.cell? p) : Byt w' B A l := (h.vals.keep hk).byt
theorem Byt.below (h : Byt w B A l) (hb : Below B w w') : Byt w' B A l := h.keep fun _ hp => hb.cell hp
theorem Byt.more (h : Byt w B A l) (hB : B ≤ B') : Byt w B' A l := (h.vals.more hB).byt
theorem Byt.none_ (w : World) (B : Nat) (A : Option Addr) : Byt w B A [] := fun _ h => absurd h (by simp)
theorem Byt.cut (h : Byt w B A l) {i j cap : Nat} (hj : j ≤ l.length) (hc : l.length ≤ cap) :
    Byt w B (if cap = i then A else A.map (·.add i)) ((l.take j).drop i) := by
  have h1 := h.vals.cut (i := i) (j := j) (cap := cap) (by rw [bv_length]; exact hj) (by rw [bv_length]; exact hc)
  have e : ((bv l).take j).drop i = bv ((l.take j).drop i) := by simp [bv, List.map_drop, List.map_take]
  rw [e] at h1
  exact h1.byt
theorem byt_new (w : World) (l : List UInt8) (t : TypeId) (fr : Nat × Nat) : Byt (w.alloc (.cells (l.map fun c => Value.int .u8 (c.toNat : Int)).toArray t fr)) (w.heap.size + 1) (some ⟨w.heap.size, 0, none⟩) l :=
  Vals.byt (vals_new w (bv l) t fr)
end

theorem below_grow (w : World) (q : Nat) (os : Array Obj) (B : Nat) (hB : B ≤ w.heap.size) : Below B w (Sort.grow (w.drewN q) os) :=
  ⟨rfl, rfl, rfl, by show w.heap.size ≤ (w.heap ++ os).size; rw [Array.size_append]; omega, fun i hi => by
    show (w.heap ++ os)[i]? = _
    rw [Array.getElem?_append_left (by omega)]⟩
theorem below_cells {W w1 : World} (h : Below W.heap.size W w1) :
    (∀ b o, b < W.heap.size → w1.cell? ⟨b, o, none⟩ = W.cell? ⟨b, o, none⟩) ∧ (∀ b o, b < W.heap.size → w1.frozen? ⟨b, o, none⟩ = W.frozen? ⟨b, o, none⟩) :=
  ⟨fun b o hb => h.cell (p := ⟨b, o, none⟩) hb, fun b o hb => h.frozen (p := ⟨b, o, none⟩) hb⟩
theorem grown_of_below {W W' : World} (hb : Below W.heap.size W W') : W.grownBy W' none := ⟨hb.os, hb.tape, hb.output, hb.size, fun k hk _ => hb.block k hk⟩
theorem own_below {w w' : World} {base : Nat} {e : TypeId} {size : Nat} {v : Value} {n : Nat} {xs : List Value} (h : w.ownsRow base e size v n xs) (hb : Below w.heap.size w w') : w'.ownsRow base e size v n xs := by
  refine h.kept (grown_of_below hb) ?_
  cases hv : v.ownBlock with
  | none => exact .inl rfl
  | some k => exact .inr (by simp)
theorem new_one (w : World) (v : Value) (t : TypeId) : ∀ j u, [v][j]? = some u → (w.alloc (.cells #[v] t)).cell? ((⟨w.heap.size, 0, none⟩ : Addr).add j) = some u := by
  intro j u h
  match j, h with
  | 0, h =>
    simp at h
    subst h
    rw [show (Addr.add ⟨w.heap.size, 0, none⟩ 0) = ⟨w.heap.size, 0, none⟩ from rfl, World.cell?_alloc_at _ _ _ _ (by simp)]; rfl

/-! ### Arguments, opened -/
section
variable {H : Type} {enc : TypeId × Value → H} {P : Program} {W : World}
theorem open_cells {k : IntKind} {t e : TypeId} {v : Value} {d : DataW H} {ps : List MemPlace} {r : Reach} {base : Nat} (ht : P.underlying t = some (.slice e)) (he : P.underlying e = some (.int k)) (hc : P.cellsOf e = 1)
    (hv : Value.okWide P W r base t v) (h : DataW.Trod enc P W 0 (fun _ => true) true t v d ps) :
    ∃ (A : Option Addr) (n cap : Nat) (zs : List Int), v = .slice A n cap ∧ n = zs.length ∧ n ≤ cap ∧ cap ≤ maxLen ∧ (∀ z ∈ zs, (Lit.int k z).wf = true) ∧ Vals W W.heap.size A (zs.map (Value.int k)) := by
  obtain ⟨a0, len, cap, rfl⟩ := okWide_slice ht hv
  obtain ⟨fuel, hf⟩ := h
  rcases open_ints ht he hc hf with ⟨hcs, _⟩ | ⟨a, len', cap', zs, hcs, _, hl, hm, hz, _, hcell, hw⟩
  · have e1 : Value.slice a0 len cap = .slice none 0 0 := by simpa [Value.cells] using hcs
    rw [e1]
    exact ⟨none, 0, 0, [], rfl, rfl, Nat.le_refl _, by simp [maxLen], fun _ h => (by cases h), Vals.none_ _ _ _⟩
  · have e1 : Value.slice a0 len cap = .slice (some a) len' cap' := by simpa [Value.cells] using hcs
    rw [e1]
    simp only [if_true] at hz
    refine ⟨some a, len', cap', zs.take len', rfl, by rw [List.length_take]; omega, hl, hm, fun z h => hw z (List.mem_of_mem_take h), ?_⟩
    intro j hj
    rw [List.length_map, List.length_take] at hj
    have h1 := hcell j (by omega)
    refine ⟨a, rfl, ?_, ?_⟩
    · have := World.block_lt_of_cell? _ _ h1
      rwa [block_add] at this
    · rw [h1]; simp [List.getD, List.getElem?_eq_getElem (show j < zs.length by omega)]
theorem open_byt {t e : TypeId} {v : Value} {d : DataW H} {ps : List MemPlace} {r : Reach} {base : Nat} (ht : P.underlying t = some (.slice e)) (he : P.underlying e = some (.int .u8)) (hc : P.cellsOf e = 1)
    (hv : Value.okWide P W r base t v) (h : DataW.Trod enc P W 0 (fun _ => true) true t v d ps) :
    ∃ (A : Option Addr) (n cap : Nat) (l : List UInt8), v = .slice A n cap ∧ n = l.length ∧ n ≤ cap ∧ cap ≤ maxLen ∧ Byt W W.heap.size A l := by
  obtain ⟨A, n, cap, zs, hv, hn, hcap, hm, hw, hr⟩ := open_cells ht he hc hv h
  have hz : zs.map (Value.int .u8) = bv (zs.map fun z => UInt8.ofNat z.toNat) := by
    unfold bv
    rw [List.map_map]
    refine List.map_congr_left fun z hz => ?_
    have := hw z hz
    have hb : 0 ≤ z ∧ z ≤ 255 := bounds_u8 this
    obtain ⟨y, rfl⟩ := Int.eq_ofNat_of_zero_le hb.1
    simp only [Function.comp_apply, Int.toNat_natCast, UInt8.toNat_ofNat', Value.int.injEq, true_and]
    omega
  rw [hz] at hr
  exact ⟨A, n, cap, zs.map fun z => UInt8.ofNat z.toNat, hv, by rw [List.length_map]; exact hn, hcap, hm, hr.byt⟩
theorem open_strs {t e : TypeId} {v : Value} {d : DataW H} {ps : List MemPlace} {r : Reach} {base : Nat} (ht : P.underlying t = some (.slice e)) (he : P.underlying e = some .string) (hc : P.cellsOf e = 1)
    (hv : Value.okWide P W r base t v) (h : DataW.Trod enc P W 0 (fun _ => true) true t v d ps) :
    ∃ (A : Option Addr) (n cap : Nat) (ss : List ByteArray), v = .slice A n cap ∧ n = ss.length ∧ n ≤ cap ∧ cap ≤ maxLen ∧ (∀ s ∈ ss, s.size ≤ maxLen) ∧ Vals W W.heap.size A (ss.map Value.string) := by
  obtain ⟨a0, len, cap, rfl⟩ := okWide_slice ht hv
  obtain ⟨fuel, hf⟩ := h
  rcases open_strings ht he hc hf with ⟨hcs, _⟩ | ⟨a, len', cap', ss, hcs, _, hl, hm, hz, _, hcell, hw⟩
  · have e1 : Value.slice a0 len cap = .slice none 0 0 := by simpa [Value.cells] using hcs
    rw [e1]
    exact ⟨none, 0, 0, [], rfl, rfl, Nat.le_refl _, by simp [maxLen], fun _ h => (by cases h), Vals.none_ _ _ _⟩
  · have e1 : Value.slice a0 len cap = .slice (some a) len' cap' := by simpa [Value.cells] using hcs
    rw [e1]
    simp only [if_true] at hz
    refine ⟨some a, len', cap', ss.take len', rfl, by rw [List.length_take]; omega, hl, hm, fun z h => hw z (List.mem_of_mem_take h), ?_⟩
    intro j hj
    rw [List.length_map, List.length_take] at hj
    have h1 := hcell j (by omega)
    refine ⟨a, rfl, ?_, ?_⟩
    · have := World.block_lt_of_cell? _ _ h1
      rwa [block_add] at this
    · rw [h1]; simp [List.getD, List.getElem?_eq_getElem (show j < ss.length by omega)]
end
end Go.Proofs.Ytjopmieaikgbcaa

set_option maxRecDepth 100000
namespace Go.Proofs.Ytjopmieaikgbcaa
open Go.RowKit

/-- The number of the first n bits of f. -/
def num (f : Nat → Bool) : Nat → Nat
  | 0 => 0
  | n + 1 => num f n + (if f n then 2 ^ n else 0)
theorem num_lt (f : Nat → Bool) (n : Nat) : num f n < 2 ^ n := by
  induction n with
  | zero => simp [num]
  | succ n ih => simp only [num]; have := Nat.pow_succ 2 n; split <;> omega
theorem num_bit (f : Nat → Bool) (n i : Nat) : (num f n).testBit i = (decide (i < n) && f i) := by
  induction n with
  | zero => simp [num]
  | succ n ih =>
    simp only [num]
    have hl := num_lt f n
    by_cases hf : f n
    · simp only [hf, if_true]
      rw [Nat.add_comm]
      by_cases h1 : i < n
      · rw [Nat.testBit_two_pow_add_gt h1, ih]; simp [h1, Nat.lt_succ_of_lt h1]
      · by_cases h2 : i = n
        · subst h2; rw [Nat.testBit_two_pow_add_eq, ih]; simp [hf]
        · have h3 : n < i := by omega
          have h4 : ¬ i < n + 1 := by omega
          rw [Nat.testBit_lt_two_pow (Nat.lt_of_lt_of_le (show 2 ^ n + num f n < 2 ^ (n + 1) by rw [Nat.pow_succ]; omega) (Nat.pow_le_pow_right (by decide) h3))]
          simp [h4]
    · simp only [hf]
      rw [show num f n + (if false = true then 2 ^ n else 0) = num f n by simp, ih]
      by_cases h2 : i = n
      · subst h2; simp [hf]
      · have : (i < n) = (i < n + 1) := by apply propext; omega
        simp [this]
theorem num_cons (f : Nat → Bool) (n : Nat) : num f (n + 1) = 2 * num (fun i => f (i + 1)) n + (if f 0 then 1 else 0) := by
  induction n with
  | zero => simp [num]
  | succ n ih =>
    rw [num, ih]
    simp only [num, Nat.pow_succ]
    split <;> split <;> omega
theorem num_congr {f g : Nat → Bool} {n : Nat} (h : ∀ i, i < n → f i = g i) : num f n = num g n := by
  induction n with
  | zero => rfl
  | succ n ih => simp only [num]; rw [ih (fun i hi => h i (by omega)), h n (by omega)]
theorem num_inj {f g : Nat → Bool} {n : Nat} (h : num f n = num g n) (i : Nat) (hi : i < n) : f i = g i := by
  have h1 := num_bit f n i
  rw [h, num_bit] at h1
  simpa [hi] using h1.symm
theorem num_of (x n : Nat) (h : x < 2 ^ n) : num (fun i => x.testBit i) n = x := by
  apply Nat.eq_of_testBit_eq
  intro i
  rw [num_bit]
  by_cases hi : i < n
  · simp [hi]
  · simp [hi, Nat.testBit_lt_two_pow (Nat.lt_of_lt_of_le h (Nat.pow_le_pow_right (by decide) (Nat.not_lt.1 hi)))]

/-- The k-th number of a set. -/
def wd (f : Nat → Bool) (k : Nat) : Nat := num (fun i => f (64 * k + i)) 64
theorem wd_lt (f : Nat → Bool) (k : Nat) : wd f k < 18446744073709551616 := num_lt _ 64
theorem wd_bit (f : Nat → Bool) (k i : Nat) (hi : i < 64) : (wd f k).testBit i = f (64 * k + i) := by
  unfold wd; rw [num_bit]; simp [hi]
theorem wd_congr {f g : Nat → Bool} {k : Nat} (h : ∀ i, i < 64 → f (64 * k + i) = g (64 * k + i)) : wd f k = wd g k := num_congr h
theorem wd_inj {f g : Nat → Bool} {k : Nat} (h : wd f k = wd g k) (i : Nat) (hi : i < 64) : f (64 * k + i) = g (64 * k + i) := num_inj h i hi
theorem wd_none (k : Nat) : wd (fun _ => false) k = 0 := by
  apply Nat.eq_of_testBit_eq
  intro i
  unfold wd
  rw [num_bit]; simp

/-- One bit more. -/
theorem wd_or (f : Nat → Bool) (k i : Nat) (hi : i < 64) : wd f k ||| 2 ^ i = wd (fun c => f c || decide (c = 64 * k + i)) k := by
  apply Nat.eq_of_testBit_eq
  intro j
  rw [Nat.testBit_or, Nat.testBit_two_pow]
  unfold wd
  rw [num_bit, num_bit]
  by_cases hj : j < 64
  · have : (i = j) = (64 * k + j = 64 * k + i) := by apply propext; omega
    simp [hj, this]
  · have : ¬ i = j := by omega
    simp [hj, this]
theorem wd_or2 (f g : Nat → Bool) (k : Nat) : wd f k ||| wd g k = wd (fun c => f c || g c) k := by
  apply Nat.eq_of_testBit_eq
  intro j
  rw [Nat.testBit_or]
  unfold wd
  rw [num_bit, num_bit, num_bit]
  by_cases hj : j < 64 <;> simp [hj]
theorem wd_not (f : Nat → Bool) (k : Nat) : 18446744073709551615 - wd f k = wd (fun c => !f c) k := by
  have h := wd_lt f k
  apply Nat.eq_of_testBit_eq
  intro j
  rw [show 18446744073709551615 - wd f k = 2 ^ 64 - (wd f k + 1) by omega, Nat.testBit_two_pow_sub_succ (by omega)]
  unfold wd
  rw [num_bit, num_bit]
  by_cases hj : j < 64 <;> simp [hj]
theorem wd_and (f : Nat → Bool) (k i : Nat) (hi : i < 64) : wd f k &&& 2 ^ i = if f (64 * k + i) then 2 ^ i else 0 := by
  apply Nat.eq_of_testBit_eq
  intro j
  rw [Nat.testBit_and, Nat.testBit_two_pow]
  by_cases hj : i = j
  · subst hj
    rw [wd_bit f k i hi]
    cases f (64 * k + i) <;> simp
  · cases f (64 * k + i) <;> simp [hj]

/-- A byte's bit. -/
def bitN (c : Nat) : Nat := 2 ^ (c % 64)
theorem bitN_lt (c : Nat) : bitN c < 18446744073709551616 := Nat.pow_lt_pow_right (by decide) (show c % 64 < 64 by omega)
theorem bitN_of {c k i : Nat} (h : c = 64 * k + i) (hi : i < 64) : bitN c = 2 ^ i := by unfold bitN; rw [show c % 64 = i by omega]
/-- The test of one bit. -/
theorem and_ne (f : Nat → Bool) (c k i : Nat) (h : c = 64 * k + i) (hi : i < 64) : (bits .and .u64 ((wd f k : Nat) : Int) ((bitN c : Nat) : Int) != 0) = f c := by
  have hb := bitN_lt c
  have hp : 0 < 2 ^ i := Nat.pow_pos (by decide)
  rw [bitN_of h hi] at hb ⊢
  rw [u64_and_nat _ _ (wd_lt f k) hb, wd_and f k i hi, ← h]
  cases f c
  · rfl
  · simp only [if_true]
    rw [bne_iff_ne]
    generalize 2 ^ i = z at hp
    omega
theorem or_bit (f : Nat → Bool) (c k i : Nat) (h : c = 64 * k + i) (hi : i < 64) : bits .or .u64 ((wd f k : Nat) : Int) ((bitN c : Nat) : Int) = ((wd (fun x => f x || decide (x = c)) k : Nat) : Int) := by
  have hb := bitN_lt c
  rw [u64_or_nat _ _ (wd_lt f k) hb, bitN_of h hi, wd_or f k i hi, ← h]
/-- A byte's number and its place there. -/
theorem byte_parts (c : Nat) (hc : c < 256) : ∃ k i : Nat, c = 64 * k + i ∧ i < 64 ∧ (k = 0 ∨ k = 1 ∨ k = 2 ∨ k = 3) := ⟨c / 64, c % 64, by omega, by omega, by omega⟩
theorem tdiv_of {c k i : Nat} (h : c = 64 * k + i) (hi : i < 64) : (c : Int).tdiv 64 = (k : Int) := by
  rw [Int.tdiv_eq_ediv_of_nonneg (by omega)]; omega
theorem ediv_of {c k i : Nat} (h : c = 64 * k + i) (hi : i < 64) : (c : Int) / 64 = (k : Int) := by omega
/-- A byte more changes no other number. -/
theorem wd_more (f : Nat → Bool) (c k k' i : Nat) (h : c = 64 * k + i) (hi : i < 64) (hk : k' ≠ k) : wd (fun x => f x || decide (x = c)) k' = wd f k' :=
  wd_congr fun j hj => by
    have : ¬ 64 * k' + j = c := by omega
    simp [this]

/-- A set's value. -/
def setC (f : Nat → Bool) : Array Value := #[.int .u64 (wd f 0 : Nat), .int .u64 (wd f 1 : Nat), .int .u64 (wd f 2 : Nat), .int .u64 (wd f 3 : Nat)]
def setV (f : Nat → Bool) : Value := .agg (setC f)
/-- Two sets with the same bytes. -/
def alike (f g : Nat → Bool) : Prop := ∀ c, c < 256 → f c = g c
theorem alike.wd {f g : Nat → Bool} (h : alike f g) (k : Nat) (hk : k < 4) : wd f k = wd g k := wd_congr fun i hi => h _ (by omega)
theorem alike.setV {f g : Nat → Bool} (h : alike f g) : setV f = setV g := by
  unfold Go.Proofs.Ytjopmieaikgbcaa.setV setC; rw [h.wd 0 (by decide), h.wd 1 (by decide), h.wd 2 (by decide), h.wd 3 (by decide)]
theorem alike_of {f g : Nat → Bool} (h0 : Go.Proofs.Ytjopmieaikgbcaa.wd f 0 = Go.Proofs.Ytjopmieaikgbcaa.wd g 0) (h1 : Go.Proofs.Ytjopmieaikgbcaa.wd f 1 = Go.Proofs.Ytjopmieaikgbcaa.wd g 1) (h2 : Go.Proofs.Ytjopmieaikgbcaa.wd f 2 = Go.Proofs.Ytjopmieaikgbcaa.wd g 2) (h3 : Go.Proofs.Ytjopmieaikgbcaa.wd f 3 = Go.Proofs.Ytjopmieaikgbcaa.wd g 3) : alike f g := fun c hc => by
  have e : 64 * (c / 64) + c % 64 = c := by omega
  have hi : c % 64 < 64 := by omega
  have hk : c / 64 = 0 ∨ c / 64 = 1 ∨ c / 64 = 2 ∨ c / 64 = 3 := by omega
  rw [← e]
  rcases hk with h | h | h | h <;> rw [h]
  · exact wd_inj h0 _ hi
  · exact wd_inj h1 _ hi
  · exact wd_inj h2 _ hi
  · exact wd_inj h3 _ hi
/-- Every four numbers are a set. -/
theorem set_of (a b c d : Nat) (ha : a < 18446744073709551616) (hb : b < 18446744073709551616) (hc : c < 18446744073709551616) (hd : d < 18446744073709551616) :
    ∃ f, wd f 0 = a ∧ wd f 1 = b ∧ wd f 2 = c ∧ wd f 3 = d := by
  refine ⟨fun x => if x < 64 then a.testBit x else if x < 128 then b.testBit (x - 64) else if x < 192 then c.testBit (x - 128) else d.testBit (x - 192), ?_, ?_, ?_, ?_⟩
  · rw [← num_of a 64 ha]
    exact num_congr fun i hi => by simp [hi, num_of a 64 ha]
  · rw [← num_of b 64 hb]
    exact num_congr fun i hi => by
      have h1 : ¬ 64 * 1 + i < 64 := by omega
      have h2 : 64 * 1 + i < 128 := by omega
      simp only [h1, h2, if_true, if_false, num_of b 64 hb]
      rw [show 64 * 1 + i - 64 = i by omega]
  · rw [← num_of c 64 hc]
    exact num_congr fun i hi => by
      have h1 : ¬ 64 * 2 + i < 64 := by omega
      have h2 : ¬ 64 * 2 + i < 128 := by omega
      have h3 : 64 * 2 + i < 192 := by omega
      simp only [h1, h2, h3, if_true, if_false, num_of c 64 hc]
      rw [show 64 * 2 + i - 128 = i by omega]
  · rw [← num_of d 64 hd]
    exact num_congr fun i hi => by
      have h1 : ¬ 64 * 3 + i < 64 := by omega
      have h2 : ¬ 64 * 3 + i < 128 := by omega
      have h3 : ¬ 64 * 3 + i < 192 := by omega
      simp only [h1, h2, h3, if_false, num_of d 64 hd]
      rw [show 64 * 3 + i - 192 = i by omega]

/-- How many of the first n are in. -/
def cnt (f : Nat → Bool) : Nat → Nat
  | 0 => 0
  | n + 1 => cnt f n + (if f n then 1 else 0)
theorem cnt_le (f : Nat → Bool) (n : Nat) : cnt f n ≤ n := by
  induction n with
  | zero => simp [cnt]
  | succ n ih => simp only [cnt]; split <;> omega
theorem cnt_add (f : Nat → Bool) (n m : Nat) : cnt f (n + m) = cnt f n + cnt (fun i => f (n + i)) m := by
  induction m with
  | zero => simp [cnt]
  | succ m ih => rw [Nat.add_succ]; simp only [cnt]; rw [ih]; omega
theorem cnt_not (f : Nat → Bool) (n : Nat) : cnt (fun i => !f i) n = n - cnt f n := by
  induction n with
  | zero => simp [cnt]
  | succ n ih =>
    simp only [cnt, ih]
    have := cnt_le f n
    by_cases h : f n = true <;> simp [h] <;> omega
theorem cnt_congr {f g : Nat → Bool} {n : Nat} (h : ∀ i, i < n → f i = g i) : cnt f n = cnt g n := by
  induction n with
  | zero => rfl
  | succ n ih => simp only [cnt]; rw [ih (fun i hi => h i (by omega)), h n (by omega)]
/-- The bytes of a set below n. -/
def elems (f : Nat → Bool) : Nat → List UInt8
  | 0 => []
  | n + 1 => elems f n ++ (if f n then [UInt8.ofNat n] else [])
theorem elems_len (f : Nat → Bool) (n : Nat) : (elems f n).length = cnt f n := by
  induction n with
  | zero => rfl
  | succ n ih => simp only [elems, cnt, List.length_append, ih]; split <;> simp
theorem elems_any (f : Nat → Bool) (n c : Nat) (hn : n ≤ 256) (hc : c < n) : (elems f n).any (fun x => decide (x.toNat = c)) = f c := by
  induction n with
  | zero => omega
  | succ n ih =>
    have hz : ∀ m, m ≤ n → (elems f m).any (fun x => decide (x.toNat = n)) = false := by
      intro m hm
      induction m with
      | zero => rfl
      | succ m ihm =>
        simp only [elems, List.any_append, ihm (by omega), Bool.false_or]
        split
        · simp; omega
        · rfl
    simp only [elems, List.any_append]
    by_cases h : c = n
    · subst h
      rw [hz c (Nat.le_refl _)]
      split
      · simp [*]; omega
      · simp [*]
    · rw [ih (by omega) (by omega)]
      split
      · simp; intro h1; omega
      · simp
/-- They rise. -/
theorem elems_bound (f : Nat → Bool) (n : Nat) (hn : n ≤ 256) : ∀ x ∈ elems f n, x.toNat < n := by
  induction n with
  | zero => intro x hx; cases hx
  | succ n ih =>
    intro x hx
    simp only [elems, List.mem_append] at hx
    rcases hx with hx | hx
    · have := ih (by omega) x hx; omega
    · split at hx
      · simp at hx; subst hx; simp; omega
      · cases hx
theorem elems_rise (f : Nat → Bool) (n : Nat) (hn : n ≤ 256) : (elems f n).Pairwise (fun a b => a.toNat < b.toNat) := by
  induction n with
  | zero => exact List.Pairwise.nil
  | succ n ih =>
    simp only [elems]
    rw [List.pairwise_append]
    refine ⟨ih (by omega), ?_, ?_⟩
    · split <;> simp
    · intro a ha b hb
      have h1 := elems_bound f n (by omega) a ha
      split at hb
      · simp at hb; subst hb; simp; omega
      · cases hb
theorem elems_congr {f g : Nat → Bool} {n : Nat} (h : ∀ i, i < n → f i = g i) : elems f n = elems g n := by
  induction n with
  | zero => rfl
  | succ n ih => simp only [elems]; rw [ih (fun i hi => h i (by omega)), h n (by omega)]
theorem elems_inj {f g : Nat → Bool} (h : elems f 256 = elems g 256) : alike f g := fun c hc => by
  rw [← elems_any f 256 c (by decide) hc, h, elems_any g 256 c (by decide) hc]
end Go.Proofs.Ytjopmieaikgbcaa
