/- Layer 4: the contract of show.List. -/
import Derived.Test.YtcjhbpkkkhaaiaaShwB
import Derived.Test.YtcjhbpkkkhaaiaaApp2
import Derived.Test.YtcjhbpkkkhaaiaaSmB
namespace Go.Proofs.Ytcjhbpkkkhaaiaa
open Go.RowKit

theorem Byt.get {w : World} {B : Nat} {A : Option Addr} {l : List UInt8} (h : Byt w B A l) {k : Nat} {x : UInt8} (hx : l[k]? = some x) : ∃ ad, A = some ad ∧ w.cell? (ad.add k) = some (.int .u8 (x.toNat : Int)) := by
  obtain ⟨hk, rfl⟩ := List.getElem?_eq_some_iff.1 hx
  obtain ⟨ad, h1, _, h2⟩ := h.at_ hk
  exact ⟨ad, h1, h2⟩
theorem get_some {l : List UInt8} {n k : Nat} (hn : n = l.length) (hk : k < n) : ∃ x, l[k]? = some x := ⟨_, List.getElem?_eq_getElem (hn ▸ hk)⟩
/-- A byte's mark as a string. -/
theorem mark_str (x : UInt8) : ∃ m : ByteArray, 1 ≤ m.size ∧ m.size ≤ 4 ∧ m.data.toList = markL x ∧
    ∀ w, Calls Try.prog 15 #[.int .u8 (x.toNat : Int)] w fun e w' => e = .returned (.string m) ∧ Below w.heap.size w w' :=
  ⟨⟨(markL x).toArray⟩, (mark_len x).1, (mark_len x).2, rfl, fun w => mark_int _ x rfl w⟩
theorem foldS_step {l : List UInt8} {k : Nat} {x : UInt8} (hx : l[k]? = some x) (fold : Int) (d : Nat) (m : ByteArray) (hm : m.data.toList = markL x) :
    foldS fold d (l.drop k) = if 2 ≤ fold ∧ 0 < d ∧ fold - 1 < (d : Int) + (m.size : Int) then [92, 10] ++ (m.data.toList ++ foldS fold m.size (l.drop (k + 1))) else m.data.toList ++ foldS fold (d + m.size) (l.drop (k + 1)) := by
  obtain ⟨hk, rfl⟩ := List.getElem?_eq_some_iff.1 hx
  rw [List.drop_eq_getElem_cons hk, foldS, ← hm, len_toList]
  rfl

theorem byteInfoL : (Try.prog.info? 5).map (fun i => (i.zero, i.size, i.bytes)) = some (some (.int .u8 0), 1, 1) := by kernel_rfl

def ListRel (W : World) (fold : Int) (l : List UInt8) (k : Nat) (vw v : Value) (w : World) : Prop :=
  ∃ (d : Nat) (o : List UInt8), vw = .int .i64 ((d : Nat) : Int) ∧ d ≤ 4 * k ∧ o.length ≤ 6 * k ∧ o ++ foldS fold d (l.drop k) = foldS fold 0 l ∧ w.ownsRow W.heap.size 5 1 v o.length (bv o) ∧ Below W.heap.size W w
theorem ListRel.mk {W : World} {fold : Int} {l : List UInt8} {k : Nat} {v : Value} {w : World} (d : Nat) (o : List UInt8) (hd : d ≤ 4 * k) (ho : o.length ≤ 6 * k) (h : o ++ foldS fold d (l.drop k) = foldS fold 0 l)
    (hv : w.ownsRow W.heap.size 5 1 v o.length (bv o)) (hb : Below W.heap.size W w) : ListRel W fold l k (.int .i64 ((d : Nat) : Int)) v w := ⟨d, o, rfl, hd, ho, h, hv, hb⟩

theorem ListRel.mk2 {W : World} {fold : Int} {l : List UInt8} {k : Nat} {vw v : Value} {w : World} (d : Nat) (o : List UInt8) (hw : vw = .int .i64 ((d : Nat) : Int)) (hd : d ≤ 4 * k) (ho : o.length ≤ 6 * k) (h : o ++ foldS fold d (l.drop k) = foldS fold 0 l)
    (hv : w.ownsRow W.heap.size 5 1 v o.length (bv o)) (hb : Below W.heap.size W w) : ListRel W fold l k vw v w := ⟨d, o, hw, hd, ho, h, hv, hb⟩

set_option maxHeartbeats 2000000 in
theorem list_any (A : Option Addr) (n c : Nat) (l : List UInt8) (fold : Int) (w : World) (hn : n = l.length) (hnc : n ≤ c) (hbig : n ≤ 1000) (hf0 : -9223372036854775808 ≤ fold) (hf1 : fold ≤ 9223372036854775807) (h : Byt w w.heap.size A l) :
    Calls Try.prog 8 #[.slice A n c, .int .i64 fold] w fun e w' =>
      ∃ v, e = .returned v ∧ w'.ownsRow w.heap.size 5 1 v (foldS fold 0 l).length (bv (foldS fold 0 l)) ∧ Below w.heap.size w w' := by
  obtain ⟨i0, hi, hz0, hi1, hi2⟩ : ∃ i0, Try.prog.info? 5 = some i0 ∧ i0.zero = some (.int .u8 0) ∧ i0.size = 1 ∧ i0.bytes = 1 := by
    obtain ⟨i0, h1, h2⟩ := Option.map_eq_some_iff.1 byteInfoL
    simp at h2
    exact ⟨i0, h1, h2.1, h2.2.1, h2.2.2⟩
  have hI1 := Lib.hid hi1
  have hI2 := Lib.hid hi2
  have hL := Lib.hid hn
  have hB := Lib.hid h
  clear hi1 hi2 hn h
  go_enter Try.func8, Try.ntmps8
  go_wp2
  go_loopw [12, 6, 5] (fun i vw v wr => ∃ k : Nat, k ≤ n ∧ i = .int .i64 ((k : Nat) : Int) ∧ ListRel w fold l k vw v wr) (fun i _ _ _ => n - (intOf i).toNat)
  case atStart => exact ⟨0, Nat.zero_le _, rfl, ListRel.mk 0 [] (by omega) (by simp) rfl (World.ownsRow_nil _ _ _ _) (Below.refl _ _)⟩
  case round =>
    obtain ⟨k, hk, rfl, d, o, rfl, hd, ho, hrow, hown, hb⟩ := hrel
    by_cases hkn : k < n
    · obtain ⟨x, hx⟩ := get_some hL.out hkn
      obtain ⟨ad, rfl, hcell⟩ := (hB.out.below hb).get hx
      obtain ⟨m, hm1, hm4, hmx, hM0⟩ := mark_str x
      have hM := Lib.hid hM0
      have hfs := Lib.hid (foldS_step hx fold d m hmx)
      have hmx := Lib.hid hmx
      replace hrow := Lib.hid hrow
      replace hb := Lib.hid hb
      clear hx hM0
      have e4 : IntKind.i64.wrap ((d : Int) + (m.size : Int)) = (d : Int) + (m.size : Int) := IntWalk.i64_in _ (by omega)
      replace hfs := hfs.out
      by_cases h1 : 2 ≤ fold
      · have g1 : decide (2 ≤ fold) = true := decide_eq_true h1
        have e3 : IntKind.i64.wrap (fold - 1) = fold - 1 := IntWalk.i64_in _ (by omega)
        by_cases h2 : 0 < d
        · have g2 : decide (0 < d) = true := decide_eq_true h2
          by_cases h3 : fold - 1 < (d : Int) + (m.size : Int)
          · have g3 : decide (fold - 1 < (d : Int) + (m.size : Int)) = true := decide_eq_true h3
            rw [if_pos ⟨h1, h2, h3⟩] at hfs
            replace hfs := Lib.hid hfs
            go_wp2_with (first
              | (go_at_call 15; refine (hM.out _).mono ?_; rintro e w1 ⟨rfl, hb1⟩; have hbW := hb.out.trans (hb1.mono hb.out.size); replace hown := own_below hown hb1)
              | (at_builtin; refine wpList_append_at rfl _ _ 22 rfl w.heap.size 5 i0 (.int .u8 0) 1 1 Try.underlying22 hi hz0 hI1.out hI2.out rfl (by decide) _ _ _ rfl (hown.alloc _) (some ⟨w1.heap.size, 0, none⟩) 2 2 [.int .u8 92, .int .u8 10] rfl rfl (src_new w1 [.int .u8 92, .int .u8 10] 5) (by simp [Value.oneCell']) (by unfold maxLen; omega) (by omega) (by have := hbW.size; simp; omega) ?_; intro v3 w3 hown3 hg3 _; have hb3 := below_append (hbW.alloc hbW.size _) (hown.alloc _) (by have := hbW.size; simp; omega) hg3)
              | (at_builtin; refine Lib.wpList_append_own_string _ rfl _ _ 22 9 rfl w.heap.size 5 i0 Try.underlying22 Try.underlying9 hi hz0 hI1.out hI2.out _ _ _ rfl hown3 m rfl (by unfold maxLen; omega) (by omega) hb3.size ?_; intro v2 w2 hown2 hg2 _; have hb2 := below_append hb3 hown3 hb3.size hg2))
            go_round
            case rel => exact ⟨k + 1, by omega, by go_num, ListRel.mk m.size (o ++ [92, 10] ++ m.data.toList) (by omega) (by simp; omega) (by rw [← hrow.out, hfs.out, List.append_assoc, List.append_assoc]) (by rw [List.length_append, List.length_append, bv_append, bv_append]; exact hown2) hb2⟩
            case measure => simp [intOf]; omega
          · have g3 : decide (fold - 1 < (d : Int) + (m.size : Int)) = false := decide_eq_false h3
            rw [if_neg (fun h => h3 h.2.2)] at hfs
            replace hfs := Lib.hid hfs
            go_wp2_with (first
              | (go_at_call 15; refine (hM.out _).mono ?_; rintro e w1 ⟨rfl, hb1⟩; have hbW := hb.out.trans (hb1.mono hb.out.size); replace hown := own_below hown hb1)
              | (at_builtin; refine Lib.wpList_append_own_string _ rfl _ _ 22 9 rfl w.heap.size 5 i0 Try.underlying22 Try.underlying9 hi hz0 hI1.out hI2.out _ _ _ rfl hown m rfl (by unfold maxLen; omega) (by omega) hbW.size ?_; intro v2 w2 hown2 hg2 _; have hb2 := below_append hbW hown hbW.size hg2))
            go_round
            case rel => exact ⟨k + 1, by omega, by go_num, ListRel.mk2 (d + m.size) (o ++ m.data.toList) (by rw [Int.natCast_add]) (by omega) (by simp; omega) (by rw [← hrow.out, hfs.out, List.append_assoc]) (by rw [List.length_append, bv_append]; exact hown2) hb2⟩
            case measure => simp [intOf]; omega
        · have g2 : decide (0 < d) = false := decide_eq_false h2
          rw [if_neg (fun h => h2 h.2.1)] at hfs
          replace hfs := Lib.hid hfs
          go_wp2_with (first
            | (go_at_call 15; refine (hM.out _).mono ?_; rintro e w1 ⟨rfl, hb1⟩; have hbW := hb.out.trans (hb1.mono hb.out.size); replace hown := own_below hown hb1)
            | (at_builtin; refine Lib.wpList_append_own_string _ rfl _ _ 22 9 rfl w.heap.size 5 i0 Try.underlying22 Try.underlying9 hi hz0 hI1.out hI2.out _ _ _ rfl hown m rfl (by unfold maxLen; omega) (by omega) hbW.size ?_; intro v2 w2 hown2 hg2 _; have hb2 := below_append hbW hown hbW.size hg2))
          go_round
          case rel => exact ⟨k + 1, by omega, by go_num, ListRel.mk2 (d + m.size) (o ++ m.data.toList) (by rw [Int.natCast_add]) (by omega) (by simp; omega) (by rw [← hrow.out, hfs.out, List.append_assoc]) (by rw [List.length_append, bv_append]; exact hown2) hb2⟩
          case measure => simp [intOf]; omega
      · have g1 : decide (2 ≤ fold) = false := decide_eq_false h1
        rw [if_neg (fun h => h1 h.1)] at hfs
        replace hfs := Lib.hid hfs
        go_wp2_with (first
          | (go_at_call 15; refine (hM.out _).mono ?_; rintro e w1 ⟨rfl, hb1⟩; have hbW := hb.out.trans (hb1.mono hb.out.size); replace hown := own_below hown hb1)
          | (at_builtin; refine Lib.wpList_append_own_string _ rfl _ _ 22 9 rfl w.heap.size 5 i0 Try.underlying22 Try.underlying9 hi hz0 hI1.out hI2.out _ _ _ rfl hown m rfl (by unfold maxLen; omega) (by omega) hbW.size ?_; intro v2 w2 hown2 hg2 _; have hb2 := below_append hbW hown hbW.size hg2))
        go_round
        case rel => exact ⟨k + 1, by omega, by go_num, ListRel.mk2 (d + m.size) (o ++ m.data.toList) (by rw [Int.natCast_add]) (by omega) (by simp; omega) (by rw [← hrow.out, hfs.out, List.append_assoc]) (by rw [List.length_append, bv_append]; exact hown2) hb2⟩
        case measure => simp [intOf]; omega
    · have hkn' : k = n := by omega
      subst hkn'
      have hend : Hid (o ++ [36] = foldS fold 0 l) := by
        apply Lib.hid
        rw [← hrow, List.drop_of_length_le (by rw [← hL.out]; omega)]; rfl
      clear hrow
      replace hb := Lib.hid hb
      go_wp2_with (at_builtin; refine wpList_append_at rfl _ _ 22 rfl w.heap.size 5 i0 (.int .u8 0) 1 1 Try.underlying22 hi hz0 hI1.out hI2.out rfl (by decide) _ _ _ rfl (hown.alloc _) (some ⟨wr.heap.size, 0, none⟩) 1 1 [.int .u8 36] rfl rfl (src_new wr [.int .u8 36] 5) (by simp [Value.oneCell']) (by unfold maxLen; omega) (by omega) (by have := hb.out.size; simp; omega) ?_; intro v3 w3 hown3 hg3 _; have hb3 := below_append (hb.out.alloc hb.out.size _) (hown.alloc _) (by have := hb.out.size; simp; omega) hg3)
      go_ret
      refine ⟨_, rfl, ?_, hb3⟩
      rw [← hend.out, List.length_append, bv_append]
      exact hown3
end Go.Proofs.Ytcjhbpkkkhaaiaa
