/- The contract of the reference's Bytes. -/
import Derived.Test.YtiiaheaadbhomaaClsF
import Derived.Test.YtiiaheaadbhomaaApp2
namespace Go.Proofs.Ytiiaheaadbhomaa
open Go.RowKit

theorem elems_in {f : Nat → Bool} {k : Nat} (h : f k = true) : elems f (k + 1) = elems f k ++ [UInt8.ofNat k] := by simp [elems, h]
theorem elems_out {f : Nat → Bool} {k : Nat} (h : f k = false) : elems f (k + 1) = elems f k := by simp [elems, h]
theorem elems_le (f : Nat → Bool) (k : Nat) : (elems f k).length ≤ k := by rw [elems_len]; exact cnt_le f k
theorem ownsRow_less {w : World} {b b' : Nat} {e : TypeId} {size n : Nat} {v : Value} {xs : List Value} (h : w.ownsRow b e size v n xs) (hb : b' ≤ b) : w.ownsRow b' e size v n xs := by
  refine ⟨h.1, ?_⟩
  rcases h.2 with hn | ⟨g, cap, cur, hv, hg, rest⟩
  · exact .inl hn
  · exact .inr ⟨g, cap, cur, hv, Nat.le_trans hb hg, rest⟩
theorem ownsRow_from {w : World} {b : Nat} {e : TypeId} {size n : Nat} {v : Value} {xs : List Value} (h : w.ownsRow b e size v n xs) : ∀ k, v.ownBlock = some k → b ≤ k := by
  rcases h.2 with ⟨rfl, _⟩ | ⟨g, cap, cur, rfl, hg, _⟩
  · simp [Value.ownBlock]
  · intro k hk
    simp only [Value.ownBlock, Option.some.injEq] at hk
    omega
theorem SetAt.grown {w w' : World} {g : Nat} {f : Nat → Bool} {row : Option Nat} (h : SetAt w g f) (hg : w.grownBy w' row) (hr : row ≠ some g) : SetAt w' g f := by
  have hl := h.lt
  unfold SetAt at h ⊢
  rw [hg.block g hl (fun e => hr e.symm)]; exact h
theorem byteInfo : (Try.prog.info? 5).map (fun i => (i.zero, i.size, i.bytes)) = some (some (.int .u8 0), 1, 1) := by kernel_rfl

/-- The slice that grows: it owns the bytes below k of the set; the set's block stands. -/
def RelBy (w : World) (f : Nat → Bool) (v i : Value) (wr : World) : Prop :=
  ∃ k : Nat, k ≤ 256 ∧ i = .int .i64 (k : Nat) ∧ SetAt wr w.heap.size f ∧ wr.ownsRow (w.heap.size + 1) 5 1 v (elems f k).length (bv (elems f k)) ∧ Below w.heap.size w wr
theorem RelBy.mk {w : World} {f : Nat → Bool} {v i : Value} {wr : World} (h : ∃ k : Nat, k ≤ 256 ∧ i = .int .i64 (k : Nat) ∧ SetAt wr w.heap.size f ∧ wr.ownsRow (w.heap.size + 1) 5 1 v (elems f k).length (bv (elems f k)) ∧ Below w.heap.size w wr) : RelBy w f v i wr := h

set_option maxRecDepth 100000 in
set_option maxHeartbeats 4000000 in
theorem refBytes_any (f : Nat → Bool) (w : World) :
    Calls Try.prog 10 #[setV f] w fun e w' =>
      ∃ v, e = .returned v ∧ w'.ownsRow w.heap.size 5 1 v (elems f 256).length (bv (elems f 256)) ∧ Below w.heap.size w w' := by
  obtain ⟨i0, hi, hz0, hi1, hi2⟩ : ∃ i0, Try.prog.info? 5 = some i0 ∧ i0.zero = some (.int .u8 0) ∧ i0.size = 1 ∧ i0.bytes = 1 := by
    obtain ⟨i0, h1, h2⟩ := Option.map_eq_some_iff.1 byteInfo
    simp at h2
    exact ⟨i0, h1, h2.1, h2.2.1, h2.2.2⟩
  have hI1 := Lib.hid hi1
  have hI2 := Lib.hid hi2
  clear hi1 hi2
  show Calls Try.prog 10 #[.agg (setC f)] w _
  go_enter Try.func10, Try.ntmps10
  go_wp2
  go_loopw [3, 4] (RelBy w f) (fun _ i _ => 256 - (intOf i).toNat)
  case atStart => exact RelBy.mk ⟨0, by omega, rfl, set_new w f, World.ownsRow_nil _ _ _ _, (Below.refl _ _).alloc (Nat.le_refl _) _⟩
  case round =>
    obtain ⟨k, hk, rfl, hs, hown, hb⟩ := hrel
    have hs' := Lib.hid hs
    have hb' := Lib.hid hb
    clear hs hb
    by_cases hlt : k < 256
    · have k3 : IntKind.u8.wrap (k : Int) = (k : Int) := IntWalk.u8_in _ (by omega)
      have hln := elems_le f k
      cases hf : f k
      · have hfk := Lib.hid hf
        have he := Lib.hid (elems_out hf)
        clear hf
        go_wp2_with (first
          | (refine wpList_load_row rfl 24 (.tmp 1) rfl w.heap.size rfl 24 _ (0, 0) _ hs'.out Try.underlying24 rfl (set_size _) ?_)
          | (go_at_call 21; refine (refHas_any f k _ hlt).mono ?_; rintro e w1 ⟨rfl, hb1⟩; rw [hfk.out]; have hbW := hb'.out.trans (hb1.mono hb'.out.size); replace hown := own_below hown hb1))
        go_roundw
        case rel => exact RelBy.mk ⟨k + 1, by omega, by go_num, hs'.out.below hb1 hs'.out.lt, by rw [he.out]; exact hown, hbW⟩
        case measure => simp [intOf]; omega
      · have hfk := Lib.hid hf
        have he := Lib.hid (elems_in hf)
        clear hf
        go_wp2_with (first
          | (refine wpList_load_row rfl 24 (.tmp 1) rfl w.heap.size rfl 24 _ (0, 0) _ hs'.out Try.underlying24 rfl (set_size _) ?_)
          | (go_at_call 21; refine (refHas_any f k _ hlt).mono ?_; rintro e w1 ⟨rfl, hb1⟩; rw [hfk.out]; have hbW := hb'.out.trans (hb1.mono hb'.out.size); have hs1 := Lib.hid (hs'.out.below hb1 hs'.out.lt); replace hown := own_below hown hb1)
          | (at_builtin; refine wpList_append_at rfl _ _ 25 rfl (w.heap.size + 1) 5 i0 (.int .u8 0) 1 1 Try.underlying25 hi hz0 hI1.out hI2.out rfl (by decide) _ _ _ rfl (hown.alloc _) (some ⟨w1.heap.size, 0, none⟩) 1 1 [.int .u8 (k : Int)] rfl rfl (src_new w1 [.int .u8 (k : Int)] 5) (by simp [Value.oneCell']) (by unfold maxLen; omega) (by omega) (by have := hs1.out.lt; simp; omega) ?_; intro v3 w3 hown3 hg3 _; have hb3 := below_append (hbW.alloc hbW.size _) (ownsRow_less (hown.alloc _) (Nat.le_succ _)) (by have := hbW.size; simp; omega) hg3))
        go_roundw
        case rel =>
          refine RelBy.mk ⟨k + 1, by omega, by go_num, (hs1.out.alloc _).grown hg3 (fun e => by have := ownsRow_from hown _ e; omega), ?_, hb3⟩
          rw [he.out, List.length_append, bv_append]
          have ek : bv [UInt8.ofNat k] = [.int .u8 (k : Int)] := by simp [bv]; omega
          rw [ek]; exact hown3
        case measure => simp [intOf]; omega
    · obtain rfl : k = 256 := by omega
      go_wp2
      go_ret
      exact ⟨_, rfl, ownsRow_less hown (Nat.le_succ _), hb'.out⟩
end Go.Proofs.Ytiiaheaadbhomaa
