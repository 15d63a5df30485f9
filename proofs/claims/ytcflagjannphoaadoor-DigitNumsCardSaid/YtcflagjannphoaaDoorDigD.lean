/- Contracts of digit.Join and of the law's awake. -/
import Derived.Test.YtcflagjannphoaaDoorDigC
namespace Go.Proofs.YtcflagjannphoaaDoor
open Go.RowKit


theorem gPow : Tryd.prog.globalNamed "internal/strconv.uint64pow10" = some 0 := by kernel_rfl
theorem Tab.below {w w' : World} {B : Nat} (h : Tab w) (hb : Below B w w') (hB : 0 < B) : Tab w' := var?_below hb gPow hB h

theorem string_info : (Tryd.prog.info? 9).map (fun i => (i.zero, i.size, i.bytes)) = some (some (.string ByteArray.empty), 1, 16) := by kernel_rfl


/-- The text of a number as a value. -/
def tv (z : Int) : Value := .string ⟨(Lib.itoa z).toArray⟩
theorem take_tv (zs : List Int) (k : Nat) (h : k < zs.length) : (zs.take (k + 1)).map tv = (zs.take k).map tv ++ [tv (zs[k]'h)] := by
  rw [List.take_succ_eq_append_getElem h, List.map_append]; rfl

theorem join_len : ∀ (xs : List (List UInt8)) (sep : List UInt8), (∀ x ∈ xs, x.length ≤ 21) → sep.length ≤ 1000 → (Lib.join xs sep).length ≤ xs.length * 1021
  | [], _, _, _ => by simp [Lib.join_nil]
  | [x], sep, h, _ => by have := h x (by simp); rw [Lib.join_one]; simp; omega
  | x :: y :: r, sep, h, hs => by
    have h1 := h x (by simp)
    have h2 := join_len (y :: r) sep (fun z hz => h z (List.mem_cons_of_mem _ hz)) hs
    have : Lib.join (x :: y :: r) sep = x ++ (sep ++ Lib.join (y :: r) sep) := by simp [Lib.join, List.intercalate]
    rw [this, List.length_append, List.length_append]
    simp only [List.length_cons] at h2 ⊢
    omega
theorem one_tv (z : Int) : ∀ u ∈ [tv z], u.oneCell' = true := by
  intro u h
  simp at h
  subst h
  rfl

set_option maxHeartbeats 1000000 in
theorem join_any (A : Option Addr) (cap n : Nat) (zs : List Int) (sep : ByteArray) (B : Nat) (w : World) (hn : n = zs.length) (hr : Vals w B A (zs.map (Value.int .i64))) (hB : B ≤ w.heap.size)
    (hz : ∀ z ∈ zs, -9223372036854775808 ≤ z ∧ z ≤ 9223372036854775807) (hl : n ≤ 1000000) (hs : sep.size ≤ 1000) (ht : Tab w) (hg : 0 < w.heap.size) :
    Calls Tryd.prog 16 #[.string sep, .slice A n cap] w fun e w' => e = .returned (.string ⟨(Lib.join (zs.map Lib.itoa) sep.data.toList).toArray⟩) ∧ Below w.heap.size w w' := by
  obtain ⟨i0, hi, hz0, hz1, hz2⟩ := info_parts string_info
  have hN := Lib.hid hn
  have hZ := Lib.hid hz
  have hR := Lib.hid hr
  have hT := Lib.hid ht
  have hI2 := Lib.hid hz2
  clear hn hz hr ht
  go_enter Tryd.func16, Tryd.ntmps16
  go_wp2_with (at_make; refine wpList_make_own _ rfl _ _ 44 rfl w.heap.size 9 i0 _ 1 Tryd.underlying44 hi hz0 hz1 _ _ _ n rfl rfl rfl (by rw [hI2.out]; omega) (by unfold maxLen; omega) (Nat.le_refl _) ?_; intro w1 hown1 hg1)
  have hb1 : Below w.heap.size w w1 := (Below.refl _ _).grown hg1 (Nat.le_refl _) (by simp)
  go_loopw [5, 13] (fun v i wr => ∃ k : Nat, k ≤ n ∧ i = .int .i64 k ∧ v = .slice (some ⟨w.heap.size, 0, none⟩) k n ∧ wr.ownsRow w.heap.size 9 1 (.slice (some ⟨w.heap.size, 0, none⟩) k n) k ((zs.take k).map tv) ∧ Below w.heap.size w wr) (fun _ i _ => n - (intOf i).toNat)
  case atStart => exact ⟨0, by omega, rfl, rfl, hown1, hb1⟩
  case round =>
    obtain ⟨k, hk, rfl, rfl, hown, hbr⟩ := hrel
    clear hown1 hb1
    by_cases hlt : k < n
    · have hlk : k < zs.length := by rw [← hN.out]; exact hlt
      obtain ⟨ad, hA, hb, hc⟩ := (hR.out.below (hbr.mono hB)).at_ (k := k) (by rw [List.length_map]; exact hlk)
      subst hA
      rw [List.getElem_map] at hc
      have hzk := hZ.out _ (List.getElem_mem hlk)
      have hst := Lib.hid (take_tv zs k hlk)
      generalize zs[k]'hlk = z at *
      have HX := Lib.hid (text_any z wr hzk.1 hzk.2 (hT.out.below hbr hg))
      go_wp2_with (first
        | (go_at_call 13; refine (HX.out).mono ?_; rintro e w2 ⟨rfl, hb2⟩)
        | (at_builtin; refine wpList_append_fits _ rfl _ _ 44 rfl w.heap.size 9 i0 1 Tryd.underlying44 hi hz1 w.heap.size k n ((zs.take k).map tv) rfl ((own_below hown hb2).alloc _) ⟨w2.heap.size, 0, none⟩ 1 1 [tv z] rfl rfl (new_one _ _ _) (one_tv z) (by omega) ?_; intro w3 hown3 hg3))
      go_roundw
      case rel => exact ⟨k + 1, by omega, by go_num, rfl, by rw [hst.out]; exact hown3, ((hbr.trans (hb2.mono hbr.size)).alloc (Nat.le_trans hbr.size hb2.size) _).grown hg3 (by simp; have := hbr.size; have := hb2.size; omega) (by intro k hk; cases hk; exact Nat.le_refl _)⟩
      case measure => simp [intOf]; omega
    · obtain rfl : k = n := by omega
      have hlen := join_len (zs.map Lib.itoa) sep.data.toList (by
        intro x hx
        obtain ⟨z, hz, rfl⟩ := List.mem_map.1 hx
        exact Lib.itoa_length_le z (hZ.out z hz).1 (hZ.out z hz).2) (by rw [len_toList]; omega)
      rw [List.length_map, ← hN.out] at hlen
      have hmap : (zs.map fun z => (⟨(Lib.itoa z).toArray⟩ : ByteArray)).map (·.data.toList) = zs.map Lib.itoa := by rw [List.map_map]; rfl
      have hl2 : (zs.map fun z => (⟨(Lib.itoa z).toArray⟩ : ByteArray)).length = k := by rw [List.length_map]; exact hN.out.symm
      have HJ := Tryd.strings_Join w.heap.size 0 k (zs.map fun z => (⟨(Lib.itoa z).toArray⟩ : ByteArray)) sep wr (by
        intro j x hx
        rw [List.getElem?_map] at hx
        obtain ⟨z, hz, rfl⟩ := Option.map_eq_some_iff.1 hx
        have hjk := (List.getElem?_eq_some_iff.1 hz).1
        rw [Nat.zero_add, hown.cellAt j (by rw [hN.out]; omega), List.getElem?_map, List.getElem?_take_of_lt (by rw [hN.out]; exact hjk), hz]; rfl)
        (hown.lt w.heap.size rfl).2 (by rw [hl2]; omega) (by rw [hl2]; exact Nat.le_refl _) (by rw [hmap]; omega)
      rw [hmap, hl2] at HJ
      have HJ := Lib.hid HJ
      clear hlen hmap hl2
      go_wp2_with (go_at_call 29; refine (HJ.out).mono ?_; rintro e w2 ⟨rfl, hb2⟩)
      go_ret
      exact ⟨rfl, hbr.trans (hb2.mono hbr.size)⟩
end Go.Proofs.YtcflagjannphoaaDoor
