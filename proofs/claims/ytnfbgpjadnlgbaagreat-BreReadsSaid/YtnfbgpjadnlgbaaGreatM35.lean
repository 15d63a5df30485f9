/- The contract of the reference's read: the walk of classes; the whole of it. What the reference's Parse leans on: sets of bools that are written byte by byte, items compared with pieces. The contract of the reference's Parse (written by wip/tools/gen_refparse.py). -/
import Derived.Test.YtnfbgpjadnlgbaaGreatM34
import Derived.Test.YtnfbgpjadnlgbaaGreatM32
import Derived.Test.YtnfbgpjadnlgbaaGreatM17
import Derived.Deep.WholeRow
import Derived.Test.YtnfbgpjadnlgbaaGreatM18
import Derived.Test.YtnfbgpjadnlgbaaGreatM15
import Derived.Deep.RegionHeld3
set_option maxRecDepth 100000
namespace Go.Proofs.YtnfbgpjadnlgbaaGreat
open Go.RowKit

theorem clsP_eq (l : List UInt8) (k : Nat) : clsP (l.drop k) = match betw 58 (l.drop (k + 2)) with | none => .bad 11 | some i => if known ((l.drop (k + 2)).take i) then .cls ((l.drop (k + 2)).take i) (i + 4) else .bad 12 := by
  unfold clsP; rw [List.drop_drop]; rfl

set_option maxRecDepth 100000 in
set_option maxHeartbeats 4000000 in
theorem read_cls (A : Option Addr) (n c : Nat) (l : List UInt8) (B : Nat) (w : World) (hn : n = l.length) (hnc : n ≤ c) (hB : B ≤ w.heap.size) (hbt : Byt w B A l) (k : Nat) (hk : k < l.length) (hs : l.length ≤ 100000)
    (hx : ((l[k]'hk).toNat : Int) = 91) (hy : atV l (k + 1) = 58) :
    Calls Tryz.prog 89 #[.slice A n c, .int .i64 (k : Int)] w fun e w' => e = .returned (.agg (pcC (clsP (l.drop k)) k)) ∧ Below w.heap.size w w' := by
  have hk1 : k + 1 < l.length := by
    by_cases h : k + 1 < l.length
    · exact h
    · rw [atV_out (by omega)] at hy; omega
  have hz := zero_itm
  have hb1 := build_E 11
  have hb2 := build_E 12
  have hb3 := fun j => build_N j
  replace hbt := (hbt.more hB).below ((Below.refl _ _).alloc (Nat.le_refl _) (.cells (itmC 0 noneF false 0 0) 109))
  have hat := at_any A n c l w.heap.size _ hn hbt
  have hat1 := hat (k + 1) (by omega)
  rw [hy] at hat1
  replace hat1 := Lib.hid hat1
  replace hat := Lib.hid hat
  have hbt' := Lib.hid hbt
  obtain ⟨ad, rfl, hadB, hd⟩ := hbt.at_ hk
  rw [hx] at hd
  have hn' := Lib.hid hn
  have hs' := Lib.hid hs
  have hkn : k < n := by omega
  have hkn1 : k + 1 < n := by omega
  have hns : n ≤ 100000 := by omega
  have hk1' := Lib.hid hk1
  clear hn hbt hs hB hx hy hk hk1
  go_enter Tryz.func89, Tryz.ntmps89
  go_wp2_with (first
    | (go_at_call 88; refine (hat1.out).mono ?_; rintro e w' ⟨rfl, rfl⟩))
  go_loop [6] (RelB 58 l k) (fun v => n - (intOf v).toNat)
  case atStart => exact RelB.mk ⟨k + 2, Nat.le_refl _, hk1'.out, by go_num, by simp⟩
  case round =>
    clear hd
    obtain ⟨j, hj, hjl, rfl, hr⟩ := hrel
    by_cases hlt : j < n
    · have hjn : j < l.length := by have := hn'.out; omega
      obtain ⟨ad2, hA2, _, hd2⟩ := hbt'.out.at_ hjn
      obtain rfl := Option.some.inj hA2
      have hX : (l[j]'hjn).toNat < 256 := UInt8.toNat_lt _
      have hbg := bg_at 58 93 hjn
      have hatj := hat.out (j + 1) (by omega)
      generalize (l[j]'hjn).toNat = X at *
      generalize atV l (j + 1) = z at *
      replace hatj := Lib.hid hatj
      clear hA2
      by_cases hf : (X : Int) = 58
      · obtain rfl : X = 58 := by omega
        by_cases h93 : z = 93
        · subst h93
          have hfd := betw_found hjn hr (by rw [hbg]; simp)
          have hfin := clsP_eq l k
          rw [hfd] at hfin
          simp only at hfin
          obtain ⟨w2, hw2, hR, hI, hB2, hsz⟩ := two_blocks w ((j : Int) + 2)
          have hN2 := itm_new (w.alloc (.cells (itmC 0 noneF false 0 0) 109)) 0 noneF false 0 0
          rw [sizeA'] at hN2
          clear hr hbg hf hfd
          have hbt2 : Byt w w.heap.size (some ad) l := hbt'.out.keep fun p hp => ((((Below.refl w.heap.size w).alloc (Nat.le_refl _) _).cell hp).symm)
          have hbc := hbt2.cut (i := k + 2) (j := j) (cap := c) (by omega) (by have := hn'.out; omega)
          rw [if_neg (by omega), Option.map_some, show k + 2 = k + 1 + 1 by rfl, addS, List.drop_take, show j - (k + 1 + 1) = j - (k + 2) by omega] at hbc
          have hnl : ((l.drop (k + 1 + 1)).take (j - (k + 2))).length = j - (k + 2) := by rw [List.length_take, List.length_drop]; omega
          rw [show k + 2 = k + 1 + 1 by rfl] at hfin
          generalize hnm : (l.drop (k + 1 + 1)).take (j - (k + 1 + 1)) = nm at *
          have hnl' := Lib.hid hnl
          have hbc' := Lib.hid hbc
          have hR2 := Lib.hid hR
          have hI2 := hI.c2
          have hI2f := hI.thawed 257
          have hIs := Lib.hid (hI.set2 true)
          have hRs := Lib.hid (hR.set_other (a := ⟨w.heap.size + 1, 257, none⟩) (v := .bool true) (by show w.heap.size ≠ w.heap.size + 1; omega))
          have hBs := Lib.hid (hB2.setCell (p := ⟨w.heap.size + 1, 257, none⟩) (by show w.heap.size ≤ w.heap.size + 1; omega) (.bool true))
          have hw2' := Lib.hid hw2
          have hfin' := Lib.hid (congrArg (fun p => pcC p k) hfin)
          have hbt2' := Lib.hid hbt2
          clear hR hI hB2 hw2 hnm hnl hbc hfin hbt2
          go_wp2_with (first
            | (go_at_call 88; refine (hatj.out).mono ?_; rintro e w' ⟨rfl, rfl⟩)
            | (refine wpList_store_row rfl 109 (.tmp 7) (.tmp 89) rfl (w.heap.size + 1) (itmC 0 noneF false ((j : Int) + 2) 0) rfl rfl 109 _ hN2 (itm_sz _ _ _ _ _) (itm_hold _ _ _ _ _ _ _ _ _ _) (itm_cells _ _ _ _ _) ?_; rw [hw2'.out]))
          go_loopw [8] (RelC w (clsF nm) (known nm) ((j : Int) + 2)) (fun v _ => 256 - (intOf v).toNat)
          case atStart => exact RelC.mk ⟨0, by omega, Or.inl rfl, rfl, hRs.out, by rw [upto_zero]; exact hIs.out, hBs.out⟩
          case round =>
            rename World => w3
            obtain ⟨m, hm, hmk, rfl, hRr, hIr, hBr⟩ := hrel
            clear hI2 hI2f hIs hRs hBs hN2 hw2' hR2
            by_cases hm2 : m < 256
            · have k3 : IntKind.u8.wrap (m : Int) = (m : Int) := IntWalk.u8_in _ (by omega)
              have k4 : (m : Int) % 256 = (m : Int) := by omega
              have hIsm := Lib.hid (fun w => refIs_at nm m w)
              have hcv := conv_any (c := c - (k + 1 + 1)) (hbc'.out.below hBr) hnl'.out.symm
              cases hkn : known nm with
              | false =>
                have hm0 : m = 0 := by
                  rcases hmk with h | h
                  · exact h
                  · rw [hkn] at h; cases h
                subst hm0
                rw [hkn] at hIsm
                have hR4 := Lib.hid hRr
                have hB4 := Lib.hid hBr
                have hkn' := Lib.hid hkn
                clear hIr hRr hBr hkn
                go_wp2_with (first
                  | (go_at_call 99; refine (hIsm.out _).mono ?_; rintro e w' ⟨rfl, rfl⟩)
                  | (refine wpList_store_row rfl 109 (.tmp 4) (.tmp 124) rfl w.heap.size (itmC 0 noneF false 0 12) rfl rfl 109 _ hR4.out (itm_sz _ _ _ _ _) (itm_hold _ _ _ _ _ _ _ _ _ _) (itm_cells _ _ _ _ _) ?_))
                exact bodyPost_ret (v := .agg (itmC 0 noneF false 0 12)) (results_cell_row Tryz.results89 _ _ w.heap.size 109 (itmC 0 noneF false 0 12) (0, 0) _ rfl (hR4.out.put _ _ _ _ _) Tryz.underlying109 rfl (itm_sz _ _ _ _ _)) rfl
                  ⟨by rw [hfin'.out, hkn'.out]; rfl, below_put hB4.out (Nat.le_refl _) _⟩
              | true =>
                rw [hkn] at hIsm
                have hc := hIr.cin hm2
                have hcf := hIr.thawed (1 + m)
                have hI4 := hIr.setIn hm2 (clsF nm m)
                rw [upto_next] at hI4
                have hI4' := Lib.hid hI4
                have hR4 := Lib.hid (hRr.set_other (a := ⟨w.heap.size + 1, 1 + m, none⟩) (v := .bool (clsF nm m)) (by show w.heap.size ≠ w.heap.size + 1; omega))
                have hB4 := Lib.hid (hBr.setCell (p := ⟨w.heap.size + 1, 1 + m, none⟩) (by show w.heap.size ≤ w.heap.size + 1; omega) (.bool (clsF nm m)))
                clear hI4 hIr hRr hBr
                generalize clsF nm m = fv at *
                go_wp2_with (first
                  | (go_at_call 99; refine (hIsm.out _).mono ?_; rintro e w' ⟨rfl, rfl⟩))
                clear k4
                go_roundw
                case rel => exact RelC.mk ⟨m + 1, by omega, Or.inr rfl, by go_num, hR4.out, hI4'.out, hB4.out⟩
                case measure => simp [intOf]; omega
            · obtain rfl : m = 256 := by omega
              have hkn : known nm = true := hmk.resolve_left (by decide)
              have hI4 := Lib.hid (hIr.alike (upto_end (clsF nm)))
              have hR4 := Lib.hid hRr
              have hB4 := Lib.hid hBr
              have hkn' := Lib.hid hkn
              clear hIr hRr hBr hkn hmk
              generalize hF : clsF nm = F at *
              replace hF := Lib.hid hF
              go_wp2_with (first
                | (refine wpList_load_row rfl 109 (.tmp 7) rfl (w.heap.size + 1) rfl 109 _ (0, 0) _ hI4.out Tryz.underlying109 rfl (itm_sz _ _ _ _ _) ?_)
                | (refine wpList_store_row rfl 109 (.tmp 4) (.tmp 129) rfl w.heap.size (itmC 0 F true ((j : Int) + 2) 0) rfl rfl 109 _ hR4.out (itm_sz _ _ _ _ _) (itm_hold _ _ _ _ _ _ _ _ _ _) (itm_cells _ _ _ _ _) ?_))
              refine bodyPost_ret (v := .agg (itmC 0 F true ((j : Int) + 2) 0)) (results_cell_row Tryz.results89 _ _ w.heap.size 109 (itmC 0 F true ((j : Int) + 2) 0) (0, 0) _ rfl (hR4.out.put _ _ _ _ _) Tryz.underlying109 rfl (itm_sz _ _ _ _ _)) rfl
                ⟨?_, below_put hB4.out (Nat.le_refl _) _⟩
              rw [hfin'.out, hkn'.out, if_pos rfl]
              show _ = Ending.returned (.agg (itmC 0 (clsF nm) true ((k + (j - (k + 2) + 4) : Nat) : Int) 0))
              rw [hF.out, show ((k + (j - (k + 2) + 4) : Nat) : Int) = (j : Int) + 2 by omega]
        · have gz : (z == 93) = false := by simpa using h93
          have hnx := Lib.hid (betw_next hj hjn hr (by rw [hbg]; simp only [Bool.and_eq_false_iff, decide_eq_false_iff_not]; exact Or.inr h93))
          clear hr hbg hf h93
          go_wp2_with (go_at_call 88; refine (hatj.out).mono ?_; rintro e w' ⟨rfl, rfl⟩)
          go_round
          case rel => exact RelB.mk ⟨j + 1, by omega, by omega, by go_num, hnx.out⟩
          case measure => simp [intOf]; omega
      · have gX : ((X : Int) == 58) = false := by simpa using hf
        have hnx := Lib.hid (betw_next hj hjn hr (by rw [hbg]; simp only [Bool.and_eq_false_iff, decide_eq_false_iff_not]; exact Or.inl hf))
        clear hr hbg hf
        go_wp2_with (go_at_call 88; refine (hatj.out).mono ?_; rintro e w' ⟨rfl, rfl⟩)
        go_round
        case rel => exact RelB.mk ⟨j + 1, by omega, by omega, by go_num, hnx.out⟩
        case measure => simp [intOf]; omega
    · have hfd := betw_gone (by have := hn'.out; omega) hr
      have hfin := clsP_eq l k
      rw [hfd] at hfin
      have hfin' := Lib.hid (congrArg (fun p => pcC p k) hfin)
      simp only [pcC] at hfin'
      clear hr hfd hfin
      go_wp2_with (first
        | (refine wpList_store_row rfl 109 (.tmp 4) (.tmp 86) rfl w.heap.size (itmC 0 noneF false 0 11) rfl rfl 109 _ (itm_new w 0 noneF false 0 0) (itm_sz _ _ _ _ _) (itm_hold _ _ _ _ _ _ _ _ _ _) (itm_cells _ _ _ _ _) ?_))
      exact bodyPost_ret (v := .agg (itmC 0 noneF false 0 11)) (results_cell_row Tryz.results89 _ _ w.heap.size 109 (itmC 0 noneF false 0 11) (0, 0) _ rfl ((itm_new w 0 noneF false 0 0).put _ _ _ _ _) Tryz.underlying109 rfl (itm_sz _ _ _ _ _)) rfl
        ⟨by unfold pcC; rw [hfin'.out]; rfl, below_put ((Below.refl _ _).alloc (Nat.le_refl _) _) (Nat.le_refl _) _⟩

theorem read_any (A : Option Addr) (n c : Nat) (l : List UInt8) (B : Nat) (w : World) (hn : n = l.length) (hnc : n ≤ c) (hB : B ≤ w.heap.size) (hbt : Byt w B A l) (k : Nat) (hs : l.length ≤ 100000) :
    Calls Tryz.prog 89 #[.slice A n c, .int .i64 (k : Int)] w fun e w' => e = .returned (.agg (pcC (piece (l.drop k)) k)) ∧ Below w.heap.size w w' := by
  by_cases hk : k < l.length
  · by_cases hx : ((l[k]'hk).toNat : Int) = 91
    · have hp := piece_open hk hx
      by_cases h1 : atV l (k + 1) = 58
      · rw [hp.1 h1]; exact read_cls A n c l B w hn hnc hB hbt k hk hs hx h1
      · by_cases h2 : atV l (k + 1) = 46
        · rw [hp.2.1 h2]; exact read_lone 46 46 rfl (Or.inl rfl) A n c l B w hn hB hbt k hk hs hx h2
        · by_cases h3 : atV l (k + 1) = 61
          · rw [hp.2.2 h3]; exact read_lone 61 61 rfl (Or.inr rfl) A n c l B w hn hB hbt k hk hs hx h3
          · exact read_one A n c l B w hn hB hbt k hk hs (fun _ => ⟨h1, h2, h3⟩) (fun e => by omega)
    · by_cases h2 : ((l[k]'hk).toNat : Int) = 92 ∧ atV l (k + 1) = 110
      · exact read_nl A n c l B w hn hB hbt k hk hs h2.1 h2.2
      · exact read_one A n c l B w hn hB hbt k hk hs (fun e => absurd e hx) h2
  · exact read_out A n c l w hn k (by omega)
end Go.Proofs.YtnfbgpjadnlgbaaGreat

set_option maxRecDepth 100000
namespace Go.Proofs.YtnfbgpjadnlgbaaGreat
open Go.RowKit

/-- f below k, g from there on. -/
def mixB (k : Nat) (f g : Nat → Bool) : Nat → Bool := fun x => if x < k then f x else g x
theorem mix_zero (f g : Nat → Bool) : mixB 0 f g = g := by funext x; simp [mixB]
theorem mix_end (f g : Nat → Bool) : alike (mixB 256 f g) f := fun c hc => by simp [mixB, hc]
theorem mix_at (k : Nat) (f g : Nat → Bool) : mixB k f g k = g k := by simp [mixB]
theorem mix_next (k : Nat) (f g : Nat → Bool) : putB (mixB k f g) k (f k) = mixB (k + 1) f g := by
  funext x
  unfold putB mixB
  by_cases hx : x = k
  · subst hx; simp
  · have : (x < k + 1) = (x < k) := by apply propext; omega
    simp [hx, this]
/-- acc and the bytes from a on, below j. -/
def fillB (acc : Nat → Bool) (a j : Nat) : Nat → Bool := fun x => acc x || (decide (a ≤ x) && decide (x < j))
theorem fill_zero (acc : Nat → Bool) (a : Nat) : fillB acc a a = acc := by
  funext x
  unfold fillB
  by_cases h : a ≤ x
  · have : ¬ x < a := by omega
    simp [this]
  · simp [h]
theorem fill_next (acc : Nat → Bool) (a j : Nat) (h : a ≤ j) : putB (fillB acc a j) j true = fillB acc a (j + 1) := by
  funext x
  unfold putB fillB
  by_cases hx : x = j
  · subst hx; simp [h]
  · have : (x < j + 1) = (x < j) := by apply propext; omega
    simp [hx, this]
theorem fill_end (acc : Nat → Bool) (x y : UInt8) : fillB acc x.toNat (y.toNat + 1) = orF acc (rngF x y) := by
  funext c
  unfold fillB orF rngF
  have : (c < y.toNat + 1) = (c ≤ y.toNat) := by apply propext; omega
  simp only [this]
section
variable {w w' : World} {g : Nat} {f : Nat → Bool}
theorem BoolsAt.keep {B : Nat} (h : BoolsAt w g f) (hb : Below B w w') (hg : g < B) : BoolsAt w' g f := h.below hb hg
end
/-- Does it end there? -/
theorem at_bg (l : List UInt8) (i : Nat) (x : UInt8) (q : Int) (hq : (x.toNat : Int) = q) : bg [x] (l.drop i) = decide (atV l i = q) := by
  rw [Bool.eq_iff_iff, decide_eq_true_eq, ← hq, atV_is]
theorem joins_at (l : List UInt8) (i : Nat) : joins (l.drop i) = (decide (atV l i = 45) && !decide (atV l (i + 1) = 93)) := by
  unfold joins
  rw [bg_two, at_bg l i 45 45 rfl, at_bg l (i + 1) 93 93 rfl]
  cases decide (atV l i = 45) <;> simp

/-- Where the reference's Parse stands. -/
def RelP (W : World) (l : List UInt8) (R : Except Nat ((Nat → Bool) × Nat)) (vi vn : Value) (wr : World) : Prop :=
  ∃ (i nn : Nat) (acc : Nat → Bool), vi = .int .i64 (i : Int) ∧ vn = .int .i64 (nn : Int) ∧ i ≤ l.length ∧ nn ≤ i ∧ items (decide (nn = 0)) (l.drop i) i acc = R ∧ SetAt wr W.heap.size noneF ∧ BoolsAt wr (W.heap.size + 1) acc ∧ Below W.heap.size W wr
theorem RelP.mk {W : World} {l : List UInt8} {R : Except Nat ((Nat → Bool) × Nat)} {vi vn : Value} {wr : World} (h : ∃ (i nn : Nat) (acc : Nat → Bool), vi = .int .i64 (i : Int) ∧ vn = .int .i64 (nn : Int) ∧ i ≤ l.length ∧ nn ≤ i ∧ items (decide (nn = 0)) (l.drop i) i acc = R ∧ SetAt wr W.heap.size noneF ∧ BoolsAt wr (W.heap.size + 1) acc ∧ Below W.heap.size W wr) : RelP W l R vi vn wr := h
/-- Where a loop over all bytes stands: the array from f below the byte, from g behind. -/
def RelM (W : World) (it : World → Prop) (f g : Nat → Bool) (v : Value) (wr : World) : Prop :=
  ∃ m : Nat, m ≤ 256 ∧ v = .int .i64 (m : Int) ∧ SetAt wr W.heap.size noneF ∧ BoolsAt wr (W.heap.size + 1) (mixB m f g) ∧ it wr ∧ Below W.heap.size W wr
theorem RelM.mk {W : World} {it : World → Prop} {f g : Nat → Bool} {v : Value} {wr : World} (h : ∃ m : Nat, m ≤ 256 ∧ v = .int .i64 (m : Int) ∧ SetAt wr W.heap.size noneF ∧ BoolsAt wr (W.heap.size + 1) (mixB m f g) ∧ it wr ∧ Below W.heap.size W wr) : RelM W it f g v wr := h
def RelF (W : World) (it : World → Prop) (acc : Nat → Bool) (a b : Nat) (v : Value) (wr : World) : Prop :=
  ∃ m : Nat, a ≤ m ∧ m ≤ b + 1 ∧ v = .int .i64 (m : Int) ∧ SetAt wr W.heap.size noneF ∧ BoolsAt wr (W.heap.size + 1) (fillB acc a m) ∧ it wr ∧ Below W.heap.size W wr
theorem RelF.mk {W : World} {it : World → Prop} {acc : Nat → Bool} {a b : Nat} {v : Value} {wr : World} (h : ∃ m : Nat, a ≤ m ∧ m ≤ b + 1 ∧ v = .int .i64 (m : Int) ∧ SetAt wr W.heap.size noneF ∧ BoolsAt wr (W.heap.size + 1) (fillB acc a m) ∧ it wr ∧ Below W.heap.size W wr) : RelF W it acc a b v wr := h
end Go.Proofs.YtnfbgpjadnlgbaaGreat

set_option maxRecDepth 100000
namespace Go.Proofs.YtnfbgpjadnlgbaaGreat
open Go.RowKit

theorem piece_bad_ne {l : List UInt8} {e : Nat} (h : piece l = .bad e) : ((e : Int) != 0) = true := by
  have := piece_err h
  simp; omega
theorem item_bad' {l : List UInt8} {e : Nat} (hp : piece l = .bad e) : item l = .error e := by unfold item; rw [hp]
theorem item_alone' {l : List UInt8} {c : UInt8} {n : Nat} (hp : piece l = .one c n) (hj : joins (l.drop n) = false) : item l = .ok (oneF c, n) := by unfold item; rw [hp]; simp [hj]
theorem set_zeroed {w : World} {g : Nat} {f : Nat → Bool} (h : SetAt w g f) : SetAt ((((w.drew.setCell ⟨g, 0, none⟩ (.int .u64 0)).setCell ⟨g, 1, none⟩ (.int .u64 0)).setCell ⟨g, 2, none⟩ (.int .u64 0)).setCell ⟨g, 3, none⟩ (.int .u64 0)) g noneF := by
  have := SetAt.four (w := w.drew) h noneF
  have e : ∀ k, ((wd noneF k : Nat) : Int) = 0 := fun k => by rw [show wd noneF k = 0 from wd_none k]; rfl
  rw [e, e, e, e] at this
  exact this
theorem refOf_at (f : Nat → Bool) (w : World) :
    Calls Tryz.prog 90 #[.agg (boolsC f)] w fun e w' => e = .returned (.agg (setC f)) ∧ Below w.heap.size w w' := refOf_any f w
end Go.Proofs.YtnfbgpjadnlgbaaGreat
