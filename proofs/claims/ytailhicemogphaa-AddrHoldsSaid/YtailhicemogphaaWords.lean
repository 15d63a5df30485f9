/- Words on memory that all seats share; nothing here speaks of a program. -/
import Derived.WalkKit
import Derived.ProofKit
import Derived.Below
import Derived.Deep.Draws
import Derived.WalkSmall
import Derived.Lib.Hide
import Derived.OpenShut
import Derived.SliceStrings
import Derived.Sort.Grow
set_option maxRecDepth 100000
namespace Go.Proofs.Ytailhicemogphaa
open Go.RowKit Go.ChangeShapes Go.WideShapes

theorem ret_bool {a b : Bool} (h : a = b) : Ending.returned (.bool a) = .returned (.bool b) := by rw [h]
theorem ret_bools {a b c d : Bool} (h : a = b) (k : c = d) : Ending.returned (.tuple #[.bool a, .bool c]) = .returned (.tuple #[.bool b, .bool d]) := by rw [h, k]
theorem ret_int {k : IntKind} {a b : Int} (h : a = b) : Ending.returned (.int k a) = .returned (.int k b) := by rw [h]
theorem ret_str {a b : List UInt8} (h : a = b) : Ending.returned (.string ⟨a.toArray⟩) = .returned (.string ⟨b.toArray⟩) := by rw [h]
theorem len_toList (s : ByteArray) : s.data.toList.length = s.size := rfl
theorem bytes_ext {s t : ByteArray} (h : s.data.toList = t.data.toList) : s = t := by
  cases s; cases t; simp at h; rw [h]
theorem mk_toList (s : ByteArray) : (⟨s.data.toList.toArray⟩ : ByteArray) = s := by cases s; simp
theorem block_add (a : Addr) (n : Nat) : (a.add n).block = a.block := by unfold Addr.add; split <;> rfl
theorem add_zero_off (b k : Nat) : (Addr.add ⟨b, 0, none⟩ k : Addr) = ⟨b, k, none⟩ := by unfold Addr.add; split <;> simp_all
theorem add_two (a : Addr) (i k : Nat) : (a.add i).add k = a.add (i + k) := by unfold Addr.add; split <;> split <;> split <;> simp_all <;> omega

/-- In the world w the slice that begins at A holds the values xs, one cell each, all of them below block B. -/
def Vals (w : World) (B : Nat) (A : Option Addr) (xs : List Value) : Prop :=
  ∀ (k : Nat) (h : k < xs.length), ∃ ad, A = some ad ∧ ad.block < B ∧ w.cell? (ad.add k) = some (xs[k]'h)
section
variable {w w' : World} {B B' : Nat} {A : Option Addr} {xs : List Value}
theorem Vals.at_ (h : Vals w B A xs) {k : Nat} (hk : k < xs.length) : ∃ ad, A = some ad ∧ ad.block < B ∧ w.cell? (ad.add k) = some (xs[k]'hk) := h k hk
theorem Vals.keep (h : Vals w B A xs) (hk : ∀ p : Addr, p.block < B → w'.cell? p = w.cell? p) : Vals w' B A xs := by
  intro k hlt
  obtain ⟨ad, hA, hb, hc⟩ := h k hlt
  exact ⟨ad, hA, hb, (hk _ (by rw [block_add]; exact hb)).trans hc⟩
theorem Vals.below (h : Vals w B A xs) (hb : Below B w w') : Vals w' B A xs := h.keep fun _ hp => hb.cell hp
theorem Vals.more (h : Vals w B A xs) (hB : B ≤ B') : Vals w B' A xs := fun k hk =>
  let ⟨ad, hA, hb, hc⟩ := h k hk; ⟨ad, hA, Nat.lt_of_lt_of_le hb hB, hc⟩
theorem Vals.none_ (w : World) (B : Nat) (A : Option Addr) : Vals w B A [] := fun _ h => absurd h (by simp)
theorem Vals.cut (h : Vals w B A xs) {i j cap : Nat} (hj : j ≤ xs.length) (hc : xs.length ≤ cap) :
    Vals w B (if cap = i then A else A.map (·.add i)) ((xs.take j).drop i) := by
  intro k hk
  rw [List.length_drop, List.length_take] at hk
  obtain ⟨ad, rfl, hb, hcell⟩ := h (i + k) (by omega)
  rw [if_neg (by omega)]
  refine ⟨ad.add i, rfl, by rw [block_add]; exact hb, ?_⟩
  rw [add_two, hcell]
  simp only [List.getElem_drop, List.getElem_take]
theorem vals_new (w : World) (xs : List Value) (t : TypeId) (fr : Nat × Nat) : Vals (w.alloc (.cells xs.toArray t fr)) (w.heap.size + 1) (some ⟨w.heap.size, 0, none⟩) xs := by
  intro k hk
  refine ⟨_, rfl, Nat.lt_succ_self _, ?_⟩
  rw [add_zero_off, cell_of_row _ _ k _ t fr (heap_alloc_new w _)]
  simp [List.getElem?_eq_getElem hk]
end

/-- The bytes l as values. -/
def bv (l : List UInt8) : List Value := l.map fun c => Value.int .u8 (c.toNat : Int)
theorem bv_length (l : List UInt8) : (bv l).length = l.length := by simp [bv]
/-- In the world w the slice that begins at A holds the bytes l, all of them below block B. -/
def Byt (w : World) (B : Nat) (A : Option Addr) (l : List UInt8) : Prop :=
  ∀ (k : Nat) (h : k < l.length), ∃ ad, A = some ad ∧ ad.block < B ∧ w.cell? (ad.add k) = some (.int .u8 ((l[k]'h).toNat : Int))
section
variable {w w' : World} {B B' : Nat} {A : Option Addr} {l : List UInt8}
theorem Byt.at_ (h : Byt w B A l) {k : Nat} (hk : k < l.length) : ∃ ad, A = some ad ∧ ad.block < B ∧ w.cell? (ad.add k) = some (.int .u8 ((l[k]'hk).toNat : Int)) := h k hk
theorem Byt.vals (h : Byt w B A l) : Vals w B A (bv l) := by
  intro k hk
  rw [bv_length] at hk
  obtain ⟨ad, hA, hb, hc⟩ := h k hk
  exact ⟨ad, hA, hb, by rw [hc]; simp [bv]⟩
theorem Vals.byt (h : Vals w B A (bv l)) : Byt w B A l := by
  intro k hk
  obtain ⟨ad, hA, hb, hc⟩ := h k (by rw [bv_length]; exact hk)
  exact ⟨ad, hA, hb, by rw [hc]; simp [bv]⟩
theorem Byt.keep (h : Byt w B A l) (hk : ∀ p : Addr, p.block < B → w'.cell? p = w.cell? p) : Byt w' B A l := (h.vals.keep hk).byt
theorem Byt.below (h : Byt w B A l) (hb : Below B w w') : Byt w' B A l := h.keep fun _ hp => hb.cell hp
theorem Byt.more (h : Byt w B A l) (hB : B ≤ B') : Byt w B' A l := (h.vals.more hB).byt
theorem Byt.none_ (w : World) (B : Nat) (A : Option Addr) : Byt w B A [] := fun _ h => absurd h (by simp)
theorem Byt.cut (h : Byt w B A l) {i j cap : Nat} (hj : j ≤ l.length) (hc : l.length ≤ cap) :
    Byt w B (if cap = i then A else A.map (·.add i)) ((l.take j).drop i) := by
  have h1 := h.vals.cut (i := i) (j := j) (cap := cap) (by rw [bv_length]; exact hj) (by rw [bv_length]; exact hc)
  have e : ((bv l).take j).drop i = bv ((l.take j).drop i) := by simp [bv, List.map_drop, List.map_take]
  rw [e] at h1
  exact h1.byt
theorem byt_new (w : World) (l : List UInt8) (t : TypeId) (fr : Nat × Nat) : Byt (w.alloc (.cells (l.map fun c => Value.int .u8 (c.toNat : Int)).toArray t fr)) (w.heap.size + 1) (some ⟨w.heap.size, 0, none⟩) l :=
  Vals.byt (vals_new w (bv l) t fr)
end

theorem below_grow (w : World) (q : Nat) (os : Array Obj) (B : Nat) (hB : B ≤ w.heap.size) : Below B w (Sort.grow (w.drewN q) os) :=
  ⟨rfl, rfl, rfl, by show w.heap.size ≤ (w.heap ++ os).size; rw [Array.size_append]; omega, fun i hi => by
    show (w.heap ++ os)[i]? = _
    rw [Array.getElem?_append_left (by omega)]⟩
theorem below_cells {W w1 : World} (h : Below W.heap.size W w1) :
    (∀ b o, b < W.heap.size → w1.cell? ⟨b, o, none⟩ = W.cell? ⟨b, o, none⟩) ∧ (∀ b o, b < W.heap.size → w1.frozen? ⟨b, o, none⟩ = W.frozen? ⟨b, o, none⟩) :=
  ⟨fun b o hb => h.cell (p := ⟨b, o, none⟩) hb, fun b o hb => h.frozen (p := ⟨b, o, none⟩) hb⟩
theorem grown_of_below {W W' : World} (hb : Below W.heap.size W W') : W.grownBy W' none := ⟨hb.os, hb.tape, hb.output, hb.size, fun k hk _ => hb.block k hk⟩
theorem own_below {w w' : World} {base : Nat} {e : TypeId} {size : Nat} {v : Value} {n : Nat} {xs : List Value} (h : w.ownsRow base e size v n xs) (hb : Below w.heap.size w w') : w'.ownsRow base e size v n xs := by
  refine h.kept (grown_of_below hb) ?_
  cases hv : v.ownBlock with
  | none => exact .inl rfl
  | some k => exact .inr (by simp)
theorem new_one (w : World) (v : Value) (t : TypeId) : ∀ j u, [v][j]? = some u → (w.alloc (.cells #[v] t)).cell? ((⟨w.heap.size, 0, none⟩ : Addr).add j) = some u := by
  intro j u h
  match j, h with
  | 0, h =>
    simp at h
    subst h
    rw [show (Addr.add ⟨w.heap.size, 0, none⟩ 0) = ⟨w.heap.size, 0, none⟩ from rfl, World.cell?_alloc_at _ _ _ _ (by simp)]; rfl

/-! ### Arguments, opened -/
section
variable {H : Type} {enc : TypeId × Value → H} {P : Program} {W : World}
theorem open_cells {k : IntKind} {t e : TypeId} {v : Value} {d : DataW H} {ps : List MemPlace} {r : Reach} {base : Nat} (ht : P.underlying t = some (.slice e)) (he : P.underlying e = some (.int k)) (hc : P.cellsOf e = 1)
    (hv : Value.okWide P W r base t v) (h : DataW.Trod enc P W 0 (fun _ => true) true t v d ps) :
    ∃ (A : Option Addr) (n cap : Nat) (zs : List Int), v = .slice A n cap ∧ n = zs.length ∧ n ≤ cap ∧ cap ≤ maxLen ∧ (∀ z ∈ zs, (Lit.int k z).wf = true) ∧ Vals W W.heap.size A (zs.map (Value.int k)) := by
  obtain ⟨a0, len, cap, rfl⟩ := okWide_slice ht hv
  obtain ⟨fuel, hf⟩ := h
  rcases open_ints ht he hc hf with ⟨hcs, _⟩ | ⟨a, len', cap', zs, hcs, _, hl, hm, hz, _, hcell, hw⟩
  · have e1 : Value.slice a0 len cap = .slice none 0 0 := by simpa [Value.cells] using hcs
    rw [e1]
    exact ⟨none, 0, 0, [], rfl, rfl, Nat.le_refl _, by simp [maxLen], fun _ h => (by cases h), Vals.none_ _ _ _⟩
  · have e1 : Value.slice a0 len cap = .slice (some a) len' cap' := by simpa [Value.cells] using hcs
    rw [e1]
    simp only [if_true] at hz
    refine ⟨some a, len', cap', zs.take len', rfl, by rw [List.length_take]; omega, hl, hm, fun z h => hw z (List.mem_of_mem_take h), ?_⟩
    intro j hj
    rw [List.length_map, List.length_take] at hj
    have h1 := hcell j (by omega)
    refine ⟨a, rfl, ?_, ?_⟩
    · have := World.block_lt_of_cell? _ _ h1
      rwa [block_add] at this
    · rw [h1]; simp [List.getD, List.getElem?_eq_getElem (show j < zs.length by omega)]
theorem open_byt {t e : TypeId} {v : Value} {d : DataW H} {ps : List MemPlace} {r : Reach} {base : Nat} (ht : P.underlying t = some (.slice e)) (he : P.underlying e = some (.int .u8)) (hc : P.cellsOf e = 1)
    (hv : Value.okWide P W r base t v) (h : DataW.Trod enc P W 0 (fun _ => true) true t v d ps) :
    ∃ (A : Option Addr) (n cap : Nat) (l : List UInt8), v = .slice A n cap ∧ n = l.length ∧ n ≤ cap ∧ cap ≤ maxLen ∧ Byt W W.heap.size A l := by
  obtain ⟨A, n, cap, zs, hv, hn, hcap, hm, hw, hr⟩ := open_cells ht he hc hv h
  have hz : zs.map (Value.int .u8) = bv (zs.map fun z => UInt8.ofNat z.toNat) := by
    unfold bv
    rw [List.map_map]
    refine List.map_congr_left fun z hz => ?_
    have := hw z hz
    have hb : 0 ≤ z ∧ z ≤ 255 := bounds_u8 this
    obtain ⟨y, rfl⟩ := Int.eq_ofNat_of_zero_le hb.1
    simp only [Function.comp_apply, Int.toNat_natCast, UInt8.toNat_ofNat', Value.int.injEq, true_and]
    omega
  rw [hz] at hr
  exact ⟨A, n, cap, zs.map fun z => UInt8.ofNat z.toNat, hv, by rw [List.length_map]; exact hn, hcap, hm, hr.byt⟩
theorem open_strs {t e : TypeId} {v : Value} {d : DataW H} {ps : List MemPlace} {r : Reach} {base : Nat} (ht : P.underlying t = some (.slice e)) (he : P.underlying e = some .string) (hc : P.cellsOf e = 1)
    (hv : Value.okWide P W r base t v) (h : DataW.Trod enc P W 0 (fun _ => true) true t v d ps) :
    ∃ (A : Option Addr) (n cap : Nat) (ss : List ByteArray), v = .slice A n cap ∧ n = ss.length ∧ n ≤ cap ∧ cap ≤ maxLen ∧ (∀ s ∈ ss, s.size ≤ maxLen) ∧ Vals W W.heap.size A (ss.map Value.string) := by
  obtain ⟨a0, len, cap, rfl⟩ := okWide_slice ht hv
  obtain ⟨fuel, hf⟩ := h
  rcases open_strings ht he hc hf with ⟨hcs, _⟩ | ⟨a, len', cap', ss, hcs, _, hl, hm, hz, _, hcell, hw⟩
  · have e1 : Value.slice a0 len cap = .slice none 0 0 := by simpa [Value.cells] using hcs
    rw [e1]
    exact ⟨none, 0, 0, [], rfl, rfl, Nat.le_refl _, by simp [maxLen], fun _ h => (by cases h), Vals.none_ _ _ _⟩
  · have e1 : Value.slice a0 len cap = .slice (some a) len' cap' := by simpa [Value.cells] using hcs
    rw [e1]
    simp only [if_true] at hz
    refine ⟨some a, len', cap', ss.take len', rfl, by rw [List.length_take]; omega, hl, hm, fun z h => hw z (List.mem_of_mem_take h), ?_⟩
    intro j hj
    rw [List.length_map, List.length_take] at hj
    have h1 := hcell j (by omega)
    refine ⟨a, rfl, ?_, ?_⟩
    · have := World.block_lt_of_cell? _ _ h1
      rwa [block_add] at this
    · rw [h1]; simp [List.getD, List.getElem?_eq_getElem (show j < ss.length by omega)]
end
end Go.Proofs.Ytailhicemogphaa
