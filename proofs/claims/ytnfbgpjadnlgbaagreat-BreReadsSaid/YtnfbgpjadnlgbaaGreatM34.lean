/- The contract of the reference's read: classes and lone bytes. The contract of the reference's read: the walk of lone bytes. -/
import Derived.Test.YtnfbgpjadnlgbaaGreatM33
import Derived.Test.YtnfbgpjadnlgbaaGreatM15
set_option maxRecDepth 100000
namespace Go.Proofs.YtnfbgpjadnlgbaaGreat
open Go.RowKit

theorem betw_at (sg : UInt8) {l : List UInt8} {j : Nat} (h : j < l.length) : betw sg (l.drop j) = if bg [sg, 93] (l.drop j) then some 0 else (betw sg (l.drop (j + 1))).map (· + 1) := by
  rw [List.drop_eq_getElem_cons h]; rfl
def RelB (sg : UInt8) (l : List UInt8) (k : Nat) (v : Value) : Prop :=
  ∃ j : Nat, k + 2 ≤ j ∧ j ≤ l.length ∧ v = .int .i64 (j : Int) ∧ betw sg (l.drop (k + 2)) = (betw sg (l.drop j)).map (· + (j - (k + 2)))
theorem RelB.mk {sg : UInt8} {l : List UInt8} {k : Nat} {v : Value} (h : ∃ j : Nat, k + 2 ≤ j ∧ j ≤ l.length ∧ v = .int .i64 (j : Int) ∧ betw sg (l.drop (k + 2)) = (betw sg (l.drop j)).map (· + (j - (k + 2)))) : RelB sg l k v := h
theorem betw_found {sg : UInt8} {l : List UInt8} {k j : Nat} (hl : j < l.length) (hr : betw sg (l.drop (k + 2)) = (betw sg (l.drop j)).map (· + (j - (k + 2)))) (hb : bg [sg, 93] (l.drop j) = true) : betw sg (l.drop (k + 2)) = some (j - (k + 2)) := by
  rw [hr, betw_at sg hl, if_pos hb]; simp
theorem betw_next {sg : UInt8} {l : List UInt8} {k j : Nat} (hj : k + 2 ≤ j) (hl : j < l.length) (hr : betw sg (l.drop (k + 2)) = (betw sg (l.drop j)).map (· + (j - (k + 2)))) (hb : bg [sg, 93] (l.drop j) = false) : betw sg (l.drop (k + 2)) = (betw sg (l.drop (j + 1))).map (· + (j + 1 - (k + 2))) := by
  rw [hr, betw_at sg hl, if_neg (by simp [hb])]
  cases betw sg (l.drop (j + 1)) with
  | none => rfl
  | some i => simp; omega
theorem betw_gone {sg : UInt8} {l : List UInt8} {k j : Nat} (hl : l.length ≤ j) (hr : betw sg (l.drop (k + 2)) = (betw sg (l.drop j)).map (· + (j - (k + 2)))) : betw sg (l.drop (k + 2)) = none := by
  rw [hr, List.drop_of_length_le hl]; rfl
/-- What a piece is where [: [. [= begins. -/
theorem piece_open {l : List UInt8} {k : Nat} (h : k < l.length) (hx : ((l[k]'h).toNat : Int) = 91) : (atV l (k + 1) = 58 → piece (l.drop k) = clsP (l.drop k)) ∧ (atV l (k + 1) = 46 → piece (l.drop k) = loneP 46 (l.drop k)) ∧ (atV l (k + 1) = 61 → piece (l.drop k) = loneP 61 (l.drop k)) := by
  have e1 : bg [91, 58] (l.drop k) = decide (atV l (k + 1) = 58) := by rw [bg_at 91 58 h, hx]; simp
  have e2 : bg [91, 46] (l.drop k) = decide (atV l (k + 1) = 46) := by rw [bg_at 91 46 h, hx]; simp
  have e3 : bg [91, 61] (l.drop k) = decide (atV l (k + 1) = 61) := by rw [bg_at 91 61 h, hx]; simp
  unfold piece endP
  rw [e1, e2, e3]
  refine ⟨fun e => ?_, fun e => ?_, fun e => ?_⟩ <;> simp [e]

section
variable {w w' : World} {g : Nat} {C : Int} {f : Nat → Bool} {cl : Bool} {nx E : Int}
theorem itmC_set (i : Nat) (v : Value) : (itmC C f cl nx E).setIfInBounds i v = ((itmL C f cl nx E).set i v).toArray := by unfold itmC; simp
theorem ItmAt.set0 (h : ItmAt w g C f cl nx E) (C' : Int) : ItmAt (w.setCell ⟨g, 0, none⟩ (.int .i64 C')) g C' f cl nx E := by
  unfold ItmAt at h ⊢
  rw [heap_setCell_same w g 0 _ _ _ h, itmC_set]; rfl
theorem boolsL_set (f : Nat → Bool) {k : Nat} (hk : k < 256) (b : Bool) : (boolsL f).set k (.bool b) = boolsL (putB f k b) := by
  apply List.ext_getElem?
  intro i
  rw [List.getElem?_set]
  by_cases hi : k = i
  · subst hi
    rw [if_pos rfl, if_pos (by rw [boolsL_len]; exact hk)]
    unfold boolsL
    rw [List.getElem?_map, List.getElem?_range hk]
    simp [putB]
  · rw [if_neg hi]
    unfold boolsL
    rw [List.getElem?_map, List.getElem?_map]
    by_cases hl : i < 256
    · rw [List.getElem?_range hl]
      have : ¬ i = k := fun e => hi e.symm
      simp [putB, this]
    · rw [List.getElem?_eq_none (by simp; omega)]; rfl
theorem ItmAt.setIn (h : ItmAt w g C f cl nx E) {k : Nat} (hk : k < 256) (b : Bool) : ItmAt (w.setCell ⟨g, 1 + k, none⟩ (.bool b)) g C (putB f k b) cl nx E := by
  rw [Nat.add_comm]
  unfold ItmAt at h ⊢
  rw [heap_setCell_same w g (k + 1) _ _ _ h, itmC_set]
  unfold itmC itmL
  rw [List.set_cons_succ, List.set_append, if_pos (by rw [boolsL_len]; exact hk), boolsL_set f hk b]
theorem ItmAt.set2 (h : ItmAt w g C f cl nx E) (b : Bool) : ItmAt (w.setCell ⟨g, 257, none⟩ (.bool b)) g C f b nx E := by
  unfold ItmAt at h ⊢
  rw [heap_setCell_same w g 257 _ _ _ h, itmC_set]
  unfold itmC itmL
  rw [show (257 : Nat) = 256 + 1 by rfl, List.set_cons_succ, List.set_append, if_neg (by rw [boolsL_len]; omega), boolsL_len]; rfl
theorem ItmAt.alike {f' : Nat → Bool} (h : ItmAt w g C f cl nx E) (ha : Go.Proofs.YtnfbgpjadnlgbaaGreat.alike f f') : ItmAt w g C f' cl nx E := by
  unfold ItmAt at h ⊢; rw [← itm_alike ha]; exact h
theorem ItmAt.row_far {g' : Nat} (h : ItmAt w g C f cl nx E) (hne : g ≠ g') (cs : Array Value) : ItmAt (w.setRow g' cs) g C f cl nx E := by
  unfold ItmAt at h ⊢; rw [setRow_other w g' g cs hne]; exact h
end
/-- The result's block and the new item's. -/
theorem two_blocks (w : World) (nx : Int) : ∃ w2, (((w.alloc (.cells (itmC 0 noneF false 0 0) 109)).alloc (.cells (itmC 0 noneF false 0 0) 109)).setRow (w.heap.size + 1) (itmC 0 noneF false nx 0)) = w2 ∧
    ItmAt w2 w.heap.size 0 noneF false 0 0 ∧ ItmAt w2 (w.heap.size + 1) 0 noneF false nx 0 ∧ Below w.heap.size w w2 ∧ w.heap.size + 2 ≤ w2.heap.size := by
  have h1 := itm_new w 0 noneF false 0 0
  have h2 := itm_new (w.alloc (.cells (itmC 0 noneF false 0 0) 109)) 0 noneF false 0 0
  rw [sizeA'] at h2
  refine ⟨_, rfl, (h1.alloc _).row_far (by omega) _, h2.put _ _ _ _ _, below_put ((((Below.refl _ _).alloc (Nat.le_refl _) _)).alloc (by simp) _) (by omega) _, ?_⟩
  rw [size_setRow, sizeA', sizeA']; exact Nat.le_refl _
theorem refIs_at (nm : List UInt8) (k : Nat) (w : World) :
    Calls Tryz.prog 99 #[.string ⟨nm.toArray⟩, .int .u8 (k : Int)] w fun e w' => e = .returned (.tuple #[.bool (clsF nm k), .bool (known nm)]) ∧ w = w' := by
  have := refIs_any ⟨nm.toArray⟩ (k : Int) w
  rw [ba_toList, cls_some nm (k : Int) 0] at this
  exact this

def RelC (W : World) (F : Nat → Bool) (kn : Bool) (nx : Int) (v : Value) (wr : World) : Prop :=
  ∃ m : Nat, m ≤ 256 ∧ (m = 0 ∨ kn = true) ∧ v = .int .i64 (m : Int) ∧ ItmAt wr W.heap.size 0 noneF false 0 0 ∧ ItmAt wr (W.heap.size + 1) 0 (upto F m) true nx 0 ∧ Below W.heap.size W wr
theorem RelC.mk {W : World} {F : Nat → Bool} {kn : Bool} {nx : Int} {v : Value} {wr : World} (h : ∃ m : Nat, m ≤ 256 ∧ (m = 0 ∨ kn = true) ∧ v = .int .i64 (m : Int) ∧ ItmAt wr W.heap.size 0 noneF false 0 0 ∧ ItmAt wr (W.heap.size + 1) 0 (upto F m) true nx 0 ∧ Below W.heap.size W wr) : RelC W F kn nx v wr := h
end Go.Proofs.YtnfbgpjadnlgbaaGreat

set_option maxRecDepth 100000
namespace Go.Proofs.YtnfbgpjadnlgbaaGreat
open Go.RowKit

theorem loneP_eq (sg : UInt8) (l : List UInt8) (k : Nat) : loneP sg (l.drop k) = match betw sg (l.drop (k + 2)) with | none => .bad 11 | some i => if i = 1 then .one ((l.drop (k + 2)).headD 0) 5 else .bad 12 := by
  unfold loneP; rw [List.drop_drop]; rfl
theorem addS (a : Addr) (i : Nat) : a.add (i + 1) = ⟨a.block, a.off + (i + 1), none⟩ := by unfold Addr.add; split <;> simp_all
theorem headD_at {l : List UInt8} {k : Nat} (h : k < l.length) : (l.drop k).headD 0 = l[k]'h := by rw [List.drop_eq_getElem_cons h]; rfl

set_option maxRecDepth 100000 in
set_option maxHeartbeats 4000000 in
theorem read_lone (sg : UInt8) (q : Int) (hq : (sg.toNat : Int) = q) (hsg : q = 46 ∨ q = 61) (A : Option Addr) (n c : Nat) (l : List UInt8) (B : Nat) (w : World) (hn : n = l.length) (hB : B ≤ w.heap.size) (hbt : Byt w B A l) (k : Nat) (hk : k < l.length) (hs : l.length ≤ 100000)
    (hx : ((l[k]'hk).toNat : Int) = 91) (hy : atV l (k + 1) = q) :
    Calls Tryz.prog 89 #[.slice A n c, .int .i64 (k : Int)] w fun e w' => e = .returned (.agg (pcC (loneP sg (l.drop k)) k)) ∧ Below w.heap.size w w' := by
  have hk1 : k + 1 < l.length := by
    by_cases h : k + 1 < l.length
    · exact h
    · rw [atV_out (by omega)] at hy; omega
  have hz := zero_itm
  have hb1 := build_E 11
  have hb2 := build_E 12
  have hb3 := fun j => build_N j
  have hP' := Lib.hid (loneP_eq sg l k)
  replace hbt := (hbt.more hB).below ((Below.refl _ _).alloc (Nat.le_refl _) (.cells (itmC 0 noneF false 0 0) 109))
  have hat := at_any A n c l w.heap.size _ hn hbt
  have hat1 := hat (k + 1) (by omega)
  rw [hy] at hat1
  replace hat1 := Lib.hid hat1
  replace hat := Lib.hid hat
  have hbt' := Lib.hid hbt
  obtain ⟨ad, rfl, hadB, hd⟩ := hbt.at_ hk
  rw [hx] at hd
  have hn' := Lib.hid hn
  have hs' := Lib.hid hs
  have hkn : k < n := by omega
  have hkn1 : k + 1 < n := by omega
  have hns : n ≤ 100000 := by omega
  have hk' := Lib.hid hk
  have hk1' := Lib.hid hk1
  have c58 : (q != 58) = true := by rw [bne_iff_ne]; omega
  have hcs : ((q != 46) = false) ∨ ((q != 46) = true ∧ (q != 61) = false) := by
    rcases hsg with rfl | rfl
    · exact Or.inl rfl
    · exact Or.inr ⟨rfl, rfl⟩
  have hq' := Lib.hid hq
  clear hn hbt hs hB hx hy hk hk1 hq hsg
  rcases hcs with c46 | ⟨c46, c61⟩
  all_goals
    go_enter Tryz.func89, Tryz.ntmps89
    go_wp2_with (first
      | (go_at_call 88; refine (hat1.out).mono ?_; rintro e w' ⟨rfl, rfl⟩))
    go_loop [6] (RelB sg l k) (fun v => n - (intOf v).toNat)
    case atStart => exact RelB.mk ⟨k + 2, Nat.le_refl _, hk1'.out, by go_num, by simp⟩
    case round =>
      clear hd
      obtain ⟨j, hj, hjl, rfl, hr⟩ := hrel
      by_cases hlt : j < n
      · have hjn : j < l.length := by have := hn'.out; omega
        obtain ⟨ad2, hA2, _, hd2⟩ := hbt'.out.at_ hjn
        obtain rfl := Option.some.inj hA2
        have hX : (l[j]'hjn).toNat < 256 := UInt8.toNat_lt _
        have hbg := bg_at sg 93 hjn
        rw [hq'.out] at hbg
        have hatj := hat.out (j + 1) (by omega)
        generalize (l[j]'hjn).toNat = X at *
        generalize atV l (j + 1) = z at *
        replace hatj := Lib.hid hatj
        clear hA2
        by_cases hf : (X : Int) = q
        · have gX : ((X : Int) == q) = true := by simpa using hf
          by_cases h93 : z = 93
          · subst h93
            have hfd := betw_found hjn hr (by rw [hbg]; simp [hf])
            have hfin := loneP_eq sg l k
            rw [hfd] at hfin
            simp only at hfin
            obtain ⟨w2, hw2, hR, hI, hB2, hsz⟩ := two_blocks w ((j : Int) + 2)
            clear hr hbg hf hfd
            have hN2 := itm_new (w.alloc (.cells (itmC 0 noneF false 0 0) 109)) 0 noneF false 0 0
            rw [sizeA'] at hN2
            by_cases h3 : j = k + 3
            · have hk2n : k + 2 < l.length := by omega
              rw [if_pos (by omega), headD_at hk2n] at hfin
              have hbt2 : Byt w2 w.heap.size (some ad) l := hbt'.out.keep fun p hp => (hB2.cell hp).trans ((((Below.refl w.heap.size w).alloc (Nat.le_refl _) _).cell hp).symm)
              obtain ⟨ad3, hA3, _, hd3⟩ := hbt2.at_ hk2n
              obtain rfl := Option.some.inj hA3
              have hY : (l[k + 2]'hk2n).toNat < 256 := UInt8.toNat_lt _
              have hfin' := Lib.hid (congrArg (fun p => pcC p k) hfin)
              simp only [pcC] at hfin'
              generalize (l[k + 2]'hk2n).toNat = Y at *
              rw [show k + 2 = k + 1 + 1 by rfl, addS] at hd3
              clear hfin hA3 hbt2
              have hI0 := hI.c0
              have hI0f := hI.thawed 0
              have hI3 := Lib.hid (hI.set0 (Y : Int))
              have hR3 := Lib.hid (hR.set_other (a := ⟨w.heap.size + 1, 0, none⟩) (v := .int .i64 (Y : Int)) (by show w.heap.size ≠ w.heap.size + 1; omega))
              have hB3 := Lib.hid (hB2.setCell (p := ⟨w.heap.size + 1, 0, none⟩) (by show w.heap.size ≤ w.heap.size + 1; omega) (.int .i64 (Y : Int)))
              have g3 : ((j : Int) != (k : Int) + 3) = false := by simp; omega
              have hj3 := Lib.hid h3
              have hw2' := Lib.hid hw2
              clear hR hI hB2 h3 hw2
              go_wp2_with (first
                | (go_at_call 88; refine (hatj.out).mono ?_; rintro e w' ⟨rfl, rfl⟩)
                | (refine wpList_store_row rfl 109 (.tmp 7) (.tmp 89) rfl (w.heap.size + 1) (itmC 0 noneF false ((j : Int) + 2) 0) rfl rfl 109 _ hN2 (itm_sz _ _ _ _ _) (itm_hold _ _ _ _ _ _ _ _ _ _) (itm_cells _ _ _ _ _) ?_; rw [hw2'.out])
                | (refine wpList_load_row rfl 109 (.tmp 7) rfl (w.heap.size + 1) rfl 109 _ (0, 0) _ hI3.out Tryz.underlying109 rfl (itm_sz _ _ _ _ _) ?_)
                | (refine wpList_store_row rfl 109 (.tmp 4) (.tmp 104) rfl w.heap.size (itmC (Y : Int) noneF false ((j : Int) + 2) 0) rfl rfl 109 _ hR3.out (itm_sz _ _ _ _ _) (itm_hold _ _ _ _ _ _ _ _ _ _) (itm_cells _ _ _ _ _) ?_))
              exact bodyPost_ret (v := .agg (itmC (Y : Int) noneF false ((j : Int) + 2) 0)) (results_cell_row Tryz.results89 _ _ w.heap.size 109 (itmC (Y : Int) noneF false ((j : Int) + 2) 0) (0, 0) _ rfl (hR3.out.put _ _ _ _ _) Tryz.underlying109 rfl (itm_sz _ _ _ _ _)) rfl
                ⟨by unfold pcC; rw [hfin'.out, hj3.out]; rfl, below_put hB3.out (Nat.le_refl _) _⟩
            · rw [if_neg (by omega)] at hfin
              have hfin' := Lib.hid (congrArg (fun p => pcC p k) hfin)
              simp only [pcC] at hfin'
              have g3 : ((j : Int) != (k : Int) + 3) = true := by simp; omega
              have hw2' := Lib.hid hw2
              have hR' := Lib.hid hR
              have hB' := Lib.hid hB2
              clear hfin hR hI hB2 h3 hw2
              go_wp2_with (first
                | (go_at_call 88; refine (hatj.out).mono ?_; rintro e w' ⟨rfl, rfl⟩)
                | (refine wpList_store_row rfl 109 (.tmp 7) (.tmp 89) rfl (w.heap.size + 1) (itmC 0 noneF false ((j : Int) + 2) 0) rfl rfl 109 _ hN2 (itm_sz _ _ _ _ _) (itm_hold _ _ _ _ _ _ _ _ _ _) (itm_cells _ _ _ _ _) ?_; rw [hw2'.out])
                | (refine wpList_store_row rfl 109 (.tmp 4) (.tmp 96) rfl w.heap.size (itmC 0 noneF false 0 12) rfl rfl 109 _ hR'.out (itm_sz _ _ _ _ _) (itm_hold _ _ _ _ _ _ _ _ _ _) (itm_cells _ _ _ _ _) ?_))
              exact bodyPost_ret (v := .agg (itmC 0 noneF false 0 12)) (results_cell_row Tryz.results89 _ _ w.heap.size 109 (itmC 0 noneF false 0 12) (0, 0) _ rfl (hR'.out.put _ _ _ _ _) Tryz.underlying109 rfl (itm_sz _ _ _ _ _)) rfl
                ⟨by unfold pcC; rw [hfin'.out]; rfl, below_put hB'.out (Nat.le_refl _) _⟩
          · have gz : (z == 93) = false := by simpa using h93
            have hnx := Lib.hid (betw_next hj hjn hr (by rw [hbg]; simp only [Bool.and_eq_false_iff, decide_eq_false_iff_not]; exact Or.inr h93))
            clear hr hbg hf h93
            go_wp2_with (go_at_call 88; refine (hatj.out).mono ?_; rintro e w' ⟨rfl, rfl⟩)
            go_round
            case rel => exact RelB.mk ⟨j + 1, by omega, by omega, by go_num, hnx.out⟩
            case measure => simp [intOf]; omega
        · have gX : ((X : Int) == q) = false := by simpa using hf
          have hnx := Lib.hid (betw_next hj hjn hr (by rw [hbg]; simp only [Bool.and_eq_false_iff, decide_eq_false_iff_not]; exact Or.inl hf))
          clear hr hbg hf
          go_wp2_with (go_at_call 88; refine (hatj.out).mono ?_; rintro e w' ⟨rfl, rfl⟩)
          go_round
          case rel => exact RelB.mk ⟨j + 1, by omega, by omega, by go_num, hnx.out⟩
          case measure => simp [intOf]; omega
      · have hfd := betw_gone (by have := hn'.out; omega) hr
        have hfin := loneP_eq sg l k
        rw [hfd] at hfin
        have hfin' := Lib.hid (congrArg (fun p => pcC p k) hfin)
        simp only [pcC] at hfin'
        clear hr hfd hfin
        go_wp2_with (first
          | (refine wpList_store_row rfl 109 (.tmp 4) (.tmp 86) rfl w.heap.size (itmC 0 noneF false 0 11) rfl rfl 109 _ (itm_new w 0 noneF false 0 0) (itm_sz _ _ _ _ _) (itm_hold _ _ _ _ _ _ _ _ _ _) (itm_cells _ _ _ _ _) ?_))
        exact bodyPost_ret (v := .agg (itmC 0 noneF false 0 11)) (results_cell_row Tryz.results89 _ _ w.heap.size 109 (itmC 0 noneF false 0 11) (0, 0) _ rfl ((itm_new w 0 noneF false 0 0).put _ _ _ _ _) Tryz.underlying109 rfl (itm_sz _ _ _ _ _)) rfl
          ⟨by unfold pcC; rw [hfin'.out]; rfl, below_put ((Below.refl _ _).alloc (Nat.le_refl _) _) (Nat.le_refl _) _⟩
end Go.Proofs.YtnfbgpjadnlgbaaGreat
