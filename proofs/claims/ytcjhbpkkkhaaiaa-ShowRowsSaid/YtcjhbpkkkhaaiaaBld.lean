/- A strings.Builder that the call has made: the contracts of its writers at this translation. -/
import Derived.Test.YtcjhbpkkkhaaiaaWords
import Derived.Test.YtcjhbpkkkhaaiaaApp2
import Derived.Test.YtcjhbpkkkhaaiaaShelf
import Derived.WalkSmall
import Derived.Lib.Builder
import Derived.Lib.AppendStr
namespace Go.Proofs.Ytcjhbpkkkhaaiaa
open Go.RowKit

/-- A builder in block b that holds the bytes l. -/
abbrev Bld (B b : Nat) (l : List UInt8) (w : World) : Prop := Lib.IsBuilder 41 5 B b (bv l) w

theorem bld_size : (Try.prog.info? 41).map (·.size) = some 2 := by kernel_rfl
theorem bld_lies : liesAt Try.prog Try.prog.depth 41 (2 / Try.prog.cellsOf 41) 0 41 1 = true := by kernel_rfl

theorem cc_used (b : Nat) (w : World) (h0 : w.cell? ⟨b, 0, none⟩ = some (.pointer (some ⟨b, 0, none⟩))) :
    Calls Try.prog 24 #[.pointer (some ⟨b, 0, none⟩)] w fun e w' => e = .returned (.tuple #[]) ∧ w' = w := by
  obtain ⟨j, hj, _⟩ := Option.map_eq_some_iff.1 bld_size
  go_enter Try.func24, Try.ntmps24
  go_wp2
  rw [Lib.run_neq_ptr_same w _ Try.underlying39 hj]
  go_wp2
  go_end0
  exact ⟨rfl, rfl⟩
theorem cc_fresh (b : Nat) (w : World) (h0 : w.cell? ⟨b, 0, none⟩ = some (.pointer none)) (hsh : w.shape? b = some (41, 2)) (hfz : w.frozen? ⟨b, 0, none⟩ = false) :
    Calls Try.prog 24 #[.pointer (some ⟨b, 0, none⟩)] w fun e w' => e = .returned (.tuple #[]) ∧ w' = w.setCell ⟨b, 0, none⟩ (.pointer (some ⟨b, 0, none⟩)) := by
  obtain ⟨j, hj, hjs⟩ := Option.map_eq_some_iff.1 bld_size
  go_enter Try.func24, Try.ntmps24
  go_wp2
  rw [Lib.run_to_unsafe w ⟨b, 0, none⟩ Try.underlying39 Try.underlying63 hj (by rw [hjs]; decide) hsh (Nat.zero_lt_succ 1)]
  simp only [Result.andThen]
  rw [Oper.upon_value]
  go_wp2
  rw [run_callFunc_extern Try.func30 (by kernel_rfl) (by kernel_rfl) (by kernel_rfl) (e := Extern.AbiNoEscape.same) (by kernel_rfl)]
  rw [Lib.run_noEscape]
  simp only [Result.andThen]
  rw [Oper.upon_value]
  go_wp2
  rw [Lib.run_from_unsafe w ⟨b, 0, none⟩ Try.underlying63 Try.underlying39 hj hsh bld_lies]
  simp only [Result.andThen]
  rw [Oper.upon_value]
  go_wp2
  go_end0
  exact ⟨rfl, rfl⟩
theorem cc_any (B b : Nat) (l : List UInt8) (w : World) (h : Bld B b l w) :
    Calls Try.prog 24 #[.pointer (some ⟨b, 0, none⟩)] w fun e w' => e = .returned (.tuple #[]) ∧ Lib.BuilderAt 41 5 B b (.pointer (some ⟨b, 0, none⟩)) (bv l) w' ∧ Below B w w' := by
  rcases h with h | h
  · exact (cc_fresh b w h.cell0 h.shape h.frozen0).mono fun e w' ⟨he, hw⟩ => ⟨he, hw ▸ h.used _, hw ▸ (Below.refl B w).setCell (p := ⟨b, 0, none⟩) h.1 _⟩
  · exact (cc_used b w h.cell0).mono fun e w' ⟨he, hw⟩ => ⟨he, hw ▸ h, hw ▸ Below.refl B w⟩

theorem byteInfo : (Try.prog.info? 5).map (fun i => (i.zero, i.size, i.bytes)) = some (some (.int .u8 0), 1, 1) := by kernel_rfl
theorem own_some {w : World} {base : Nat} {e : TypeId} {v : Value} {n : Nat} {xs : List Value} (h : w.ownsRow base e 1 v n xs) : ∃ A cap, v = .slice A n cap := by
  rcases h.2 with ⟨hv, h0⟩ | ⟨g, cap, cur, hv, _⟩
  · exact ⟨none, 0, by rw [hv, h0]⟩
  · exact ⟨_, cap, hv⟩

set_option maxHeartbeats 1000000 in
theorem writeByte_any (B b : Nat) (l : List UInt8) (x : Int) (c : UInt8) (hx : x = (c.toNat : Int)) (w : World) (h : Bld B b l w) (hl : l.length ≤ 100000) (hB : B ≤ w.heap.size) :
    Calls Try.prog 16 #[.pointer (some ⟨b, 0, none⟩), .int .u8 x] w fun e w' => e = .returned .nilIface ∧ Bld B b (l ++ [c]) w' ∧ Below B w w' := by
  obtain ⟨i0, hi, hz0, hi1, hi2⟩ : ∃ i0, Try.prog.info? 5 = some i0 ∧ i0.zero = some (.int .u8 0) ∧ i0.size = 1 ∧ i0.bytes = 1 := by
    obtain ⟨i0, h1, h2⟩ := Option.map_eq_some_iff.1 byteInfo
    simp at h2
    exact ⟨i0, h1, h2.1, h2.2.1, h2.2.2⟩
  have hI1 := Lib.hid hi1
  have hI2 := Lib.hid hi2
  have hcc := Lib.hid (cc_any B b l w h)
  have hlen := Lib.hid (bv_length l)
  clear h hi1 hi2
  replace hx := Lib.hid hx
  go_enter Try.func16, Try.ntmps16
  go_wp2_with (go_at_call 24; refine (hcc.out).mono ?_)
  rintro e w1 ⟨rfl, ⟨hBb, v, hbk, hown, hne⟩, hb1⟩
  have c1 : w1.cell? ⟨b, 1, none⟩ = some v := by rw [Lib.cell_of_heap hbk]; rfl
  have hlt := Lib.hid (show b < w1.heap.size from Lib.BuilderAt.lt ⟨hBb, v, hbk, hown, hne⟩)
  have hsz := Lib.hid hb1.size
  replace hbk := Lib.hid hbk
  replace hne := Lib.hid hne
  rw [hlen.out] at hown
  go_wp2_with (at_builtin; refine wpList_append_at rfl _ _ 22 rfl B 5 i0 (.int .u8 0) 1 1 Try.underlying22 hi hz0 hI1.out hI2.out rfl (by decide) v l.length (bv l) rfl (hown.alloc _) (some ⟨w1.heap.size, 0, none⟩) 1 1 [.int .u8 x] rfl rfl (src_new w1 [.int .u8 x] 5) (by simp [Value.oneCell']) (by unfold maxLen; omega) (by omega) (by have := hsz.out; simp; omega) ?_; intro v2 w2 hown2 hg2 _; obtain ⟨A2, k2, rfl⟩ := own_some hown2
               have hb2 : Hid (w2.heap[b]? = some (.cells #[.pointer (some ⟨b, 0, none⟩), v] 41 (0, 0))) := (by
                 apply Lib.hid; rw [hg2.block b (by have := hlt.out; simp; omega) (fun e => hne.out e.symm), Lib.alloc_old w1 _ b hlt.out]; exact hbk.out)
               have d1 : w2.cell? ⟨b, 1, none⟩ = some v := (by rw [Lib.cell_of_heap hb2.out]; rfl)
               have f1 : w2.frozen? ⟨b, 1, none⟩ = false := Lib.frozen_of_heap hb2.out 1)
  go_ret
  refine ⟨rfl, Or.inr (Lib.BuilderAt.put hBb hb2.out ?_ (by decide)), ((hb1.alloc (Nat.le_trans hB hsz.out) _).grown hg2 (by have := hsz.out; simp; omega) (fun k hk => (hown.lt k hk).1)).setCell (p := ⟨b, 1, none⟩) hBb _⟩
  rw [bv_length, bv_append, List.length_append]
  rw [hx.out] at hown2
  exact hown2
set_option maxHeartbeats 1000000 in
theorem writeString_any (B b : Nat) (l : List UInt8) (s : ByteArray) (w : World) (h : Bld B b l w) (hl : l.length ≤ 100000) (hs : s.size ≤ 100000) (hB : B ≤ w.heap.size) :
    Calls Try.prog 17 #[.pointer (some ⟨b, 0, none⟩), .string s] w fun e w' => e = .returned (.tuple #[.int .i64 s.size, .nilIface]) ∧ Bld B b (l ++ s.data.toList) w' ∧ Below B w w' := by
  obtain ⟨i0, hi, hz0, hi1, hi2⟩ : ∃ i0, Try.prog.info? 5 = some i0 ∧ i0.zero = some (.int .u8 0) ∧ i0.size = 1 ∧ i0.bytes = 1 := by
    obtain ⟨i0, h1, h2⟩ := Option.map_eq_some_iff.1 byteInfo
    simp at h2
    exact ⟨i0, h1, h2.1, h2.2.1, h2.2.2⟩
  have hI1 := Lib.hid hi1
  have hI2 := Lib.hid hi2
  have hcc := Lib.hid (cc_any B b l w h)
  have hlen := Lib.hid (bv_length l)
  clear h hi1 hi2
  go_enter Try.func17, Try.ntmps17
  go_wp2_with (go_at_call 24; refine (hcc.out).mono ?_)
  rintro e w1 ⟨rfl, ⟨hBb, v, hbk, hown, hne⟩, hb1⟩
  have c1 : w1.cell? ⟨b, 1, none⟩ = some v := by rw [Lib.cell_of_heap hbk]; rfl
  have hlt := Lib.hid (show b < w1.heap.size from Lib.BuilderAt.lt ⟨hBb, v, hbk, hown, hne⟩)
  have hsz := Lib.hid hb1.size
  replace hbk := Lib.hid hbk
  replace hne := Lib.hid hne
  rw [hlen.out] at hown
  go_wp2_with (at_builtin; refine Lib.wpList_append_own_string _ rfl _ _ 22 9 rfl B 5 i0 Try.underlying22 Try.underlying9 hi hz0 hI1.out hI2.out v l.length (bv l) rfl hown s rfl (by unfold maxLen; omega) (by omega) (Nat.le_trans hB hsz.out) ?_; intro v2 w2 hown2 hg2 _; obtain ⟨A2, k2, rfl⟩ := own_some hown2
               have hb2 : Hid (w2.heap[b]? = some (.cells #[.pointer (some ⟨b, 0, none⟩), v] 41 (0, 0))) := (by
                 apply Lib.hid; rw [hg2.block b hlt.out (fun e => hne.out e.symm)]; exact hbk.out)
               have d1 : w2.cell? ⟨b, 1, none⟩ = some v := (by rw [Lib.cell_of_heap hb2.out]; rfl)
               have f1 : w2.frozen? ⟨b, 1, none⟩ = false := Lib.frozen_of_heap hb2.out 1)
  go_ret2
  refine ⟨rfl, Or.inr (Lib.BuilderAt.put hBb hb2.out ?_ (by decide)), (hb1.grown hg2 (Nat.le_trans hB hsz.out) (fun k hk => (hown.lt k hk).1)).setCell (p := ⟨b, 1, none⟩) hBb _⟩
  rw [bv_length, bv_append, List.length_append]
  exact hown2
theorem bldAt_below {T e : TypeId} {B b : Nat} {p : Value} {bs : List Value} {w w' : World} (h : Lib.BuilderAt T e B b p bs w) (hb : Below w.heap.size w w') : Lib.BuilderAt T e B b p bs w' := by
  have hlt := h.lt
  obtain ⟨hB, v, hbk, hown, hne⟩ := h
  exact ⟨hB, v, by rw [hb.block b hlt]; exact hbk, own_below hown hb, hne⟩
theorem Bld.below {B b : Nat} {l : List UInt8} {w w' : World} (h : Bld B b l w) (hb : Below w.heap.size w w') : Bld B b l w' := h.imp (bldAt_below · hb) (bldAt_below · hb)
end Go.Proofs.Ytcjhbpkkkhaaiaa
