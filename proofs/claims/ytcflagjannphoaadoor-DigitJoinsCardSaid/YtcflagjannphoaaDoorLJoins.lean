/- DigitJoins: numbers are joined as the document says, as many as there are. For every separator and every slice of numbers. -/
import Derived.Test.YtcflagjannphoaaDoorFrame
import Derived.Test.YtcflagjannphoaaDoorCards
import Derived.Test.YtcflagjannphoaaDoorTie
import Derived.Test.YtcflagjannphoaaDoorDigE
import Derived.Deep.RegionWith
namespace Go.Proofs.YtcflagjannphoaaDoor.digitJoins
open Go.ChangeShapes Go.WideShapes Go.ChangeAt Go.RowKit
open Go.ChangeMaps (open_string shut_string)
set_option linter.unusedVariables false

theorem join_snoc (zs : List Int) (sep : List UInt8) (k : Nat) (hk : k < zs.length) (h0 : 0 < k) :
    Lib.join ((zs.take (k + 1)).map Lib.itoa) sep = Lib.join ((zs.take k).map Lib.itoa) sep ++ sep ++ Lib.itoa (zs[k]'hk) := by
  match zs, hk with
  | x :: r, hk =>
    obtain ⟨j, rfl⟩ : ∃ j, k = j + 1 := ⟨k - 1, by omega⟩
    have hj : j < r.length := by simp at hk; omega
    rw [List.take_succ_cons, List.take_succ_cons, List.map_cons, List.map_cons, Lib.join_cons, Lib.join_cons, List.map_take, List.map_take,
      Lib.joinTail_take_succ sep (r.map Lib.itoa) j (Lib.itoa (r[j]'hj)) (by simp [List.getElem?_eq_getElem hj])]
    simp [List.append_assoc]
theorem join_first (zs : List Int) (sep : List UInt8) (k : Nat) (hk : k < zs.length) (h0 : ¬ 0 < k) : Lib.join ((zs.take (k + 1)).map Lib.itoa) sep = Lib.join ((zs.take k).map Lib.itoa) sep ++ Lib.itoa (zs[k]'hk) := by
  obtain rfl : k = 0 := by omega
  match zs, hk with
  | x :: r, _ => simp [Lib.join_one, Lib.join_nil]
theorem str_eq {s t : ByteArray} (h : s.data.toList = t.data.toList) : (s.toList == t.toList) = true := by rw [bytes_ext h]; simp

def Rel (zs : List Int) (sep : ByteArray) (n : Nat) (W : World) (want i : Value) (wr : World) : Prop :=
  ∃ (k : Nat) (s : ByteArray), k ≤ n ∧ i = .int .i64 k ∧ want = .string s ∧ s.size ≤ k * 1021 ∧ Hid (s.data.toList = Lib.join ((zs.take k).map Lib.itoa) sep.data.toList) ∧ Below W.heap.size W wr
theorem Rel.mk {zs : List Int} {sep : ByteArray} {n : Nat} {W : World} {want i : Value} {wr : World}
    (h : ∃ (k : Nat) (s : ByteArray), k ≤ n ∧ i = .int .i64 k ∧ want = .string s ∧ s.size ≤ k * 1021 ∧ Hid (s.data.toList = Lib.join ((zs.take k).map Lib.itoa) sep.data.toList) ∧ Below W.heap.size W wr) : Rel zs sep n W want i wr := h

set_option maxHeartbeats 2000000 in
theorem core (W : World) (sep : ByteArray) (hsep : sep.size ≤ maxLen) (A : Option Addr) (n cap : Nat) (zs : List Int) (hn : n = zs.length) (hcap : n ≤ cap) (hm : cap ≤ maxLen) (hz : ∀ z ∈ zs, (Lit.int .i64 z).wf = true)
    (hr : Vals W W.heap.size A (zs.map (Value.int .i64))) (ht : Tab W) (hg : 0 < W.heap.size) :
    Calls Tryd.prog 6 #[.string sep, .slice A n cap] W fun e w' => e = .returned (.bool true) ∧ Below W.heap.size W w' := by
  have hT := Lib.hid ht
  have hR := Lib.hid hr
  have hZ : Hid (∀ z ∈ zs, -9223372036854775808 ≤ z ∧ z ≤ 9223372036854775807) := Lib.hid fun z h => bounds_i64 (hz z h)
  have hN := Lib.hid hn
  clear ht hr hz hn
  unfold maxLen at hm hsep
  by_cases hbig : 20 < n ∨ 9 < sep.size
  · have HA := Lib.hid (awake_any W hT.out hg)
    go_enter Tryd.func6, Tryd.ntmps6
    go_wp2_with (go_at_call 8; refine (HA.out).mono ?_; rintro e w2 ⟨rfl, hb⟩)
    all_goals
      go_ret
      exact ⟨rfl, hb⟩
  · have hs1 : n ≤ 20 := by omega
    have hs2 : sep.size ≤ 9 := by omega
    clear hbig hsep
    go_enter Tryd.func6, Tryd.ntmps6
    go_wp2_with fail
    go_loopw [5, 6] (fun want i wr => Rel zs sep n W want i wr) (fun _ i _ => n - (intOf i).toNat)
    case atStart => exact Rel.mk (zs := zs) (sep := sep) (n := n) ⟨0, ByteArray.empty, by omega, rfl, rfl, by simp, Lib.hid (by simp [Lib.join_nil]), Below.refl _ _⟩
    case round =>
      obtain ⟨k, s, hk, rfl, rfl, hsz, hq, hbr⟩ := hrel
      by_cases hlt : k < n
      · have hlk : k < zs.length := by rw [← hN.out]; exact hlt
        obtain ⟨ad, hA, hb, hc⟩ := (hR.out.below hbr).at_ (k := k) (by rw [List.length_map]; exact hlk)
        subst hA
        rw [List.getElem_map] at hc
        have hzk := hZ.out _ (List.getElem_mem hlk)
        by_cases h0 : 0 < k
        · have hj := Lib.hid (join_snoc zs sep.data.toList k hlk h0)
          generalize zs[k]'hlk = z at *
          have hil := Lib.itoa_length_le z hzk.1 hzk.2
          obtain ⟨u, hu⟩ : ∃ u : ByteArray, (⟨(Lib.itoa z).toArray⟩ : ByteArray) = u := ⟨_, rfl⟩
          have HX := refText_any z wr hzk.1 hzk.2
          have hus : u.size ≤ 21 := by rw [← hu]; exact hil
          have hul : Hid (u.data.toList = Lib.itoa z) := Lib.hid (by rw [← hu])
          rw [hu] at HX
          have HX := Lib.hid HX
          clear hu hil
          go_wp2_with (go_at_call 14; refine (HX.out).mono ?_; rintro e w2 ⟨rfl, hb2⟩)
          go_roundw
          case rel => exact Rel.mk (zs := zs) (sep := sep) (n := n) ⟨k + 1, s ++ sep ++ u, by omega, by go_num, rfl, by rw [ByteArray.size_append, ByteArray.size_append]; omega, Lib.hid (by rw [hj.out, ← hul.out, ← hq.out]; simp [ByteArray.data_append]), hbr.trans (hb2.mono hbr.size)⟩
          case measure => simp [intOf]; omega
        · have hj := Lib.hid (join_first zs sep.data.toList k hlk h0)
          generalize zs[k]'hlk = z at *
          have hil := Lib.itoa_length_le z hzk.1 hzk.2
          obtain ⟨u, hu⟩ : ∃ u : ByteArray, (⟨(Lib.itoa z).toArray⟩ : ByteArray) = u := ⟨_, rfl⟩
          have HX := refText_any z wr hzk.1 hzk.2
          have hus : u.size ≤ 21 := by rw [← hu]; exact hil
          have hul : Hid (u.data.toList = Lib.itoa z) := Lib.hid (by rw [← hu])
          rw [hu] at HX
          have HX := Lib.hid HX
          clear hu hil
          go_wp2_with (go_at_call 14; refine (HX.out).mono ?_; rintro e w2 ⟨rfl, hb2⟩)
          go_roundw
          case rel => exact Rel.mk (zs := zs) (sep := sep) (n := n) ⟨k + 1, s ++ u, by omega, by go_num, rfl, by rw [ByteArray.size_append]; omega, Lib.hid (by rw [hj.out, ← hul.out, ← hq.out]; simp [ByteArray.data_append]), hbr.trans (hb2.mono hbr.size)⟩
          case measure => simp [intOf]; omega
      · obtain rfl : k = n := by omega
        have hqn : s.data.toList = Lib.join (zs.map Lib.itoa) sep.data.toList := by rw [hq.out, List.take_of_length_le (by rw [← hN.out]; exact Nat.le_refl _)]
        have HJ : Hid (Calls Tryd.prog 16 #[.string sep, .slice A k cap] wr fun e w' => e = .returned (.string s) ∧ Below wr.heap.size wr w') := by
          have h := join_any A cap k zs sep W.heap.size wr hN.out (hR.out.below hbr) hbr.size hZ.out (by omega) (by omega) (hT.out.below hbr hg) (Nat.lt_of_lt_of_le hg hbr.size)
          rw [← hqn, mk_toList] at h
          exact Lib.hid h
        have H0 : Hid (∀ w2, Below wr.heap.size wr w2 → Calls Tryd.prog 16 #[.string sep, .slice none 0 0] w2 fun e w' => e = .returned (.string ⟨#[]⟩) ∧ Below wr.heap.size wr w') := Lib.hid fun w2 hb2 => by
          have hbw := hbr.trans (hb2.mono hbr.size)
          exact (join_any none 0 0 [] sep 0 w2 rfl (Vals.none_ _ _ _) (by omega) (by simp) (by omega) (by omega) (hT.out.below hbw hg) (Nat.lt_of_lt_of_le hg hbw.size)).mono fun e w' ⟨he, hw⟩ => ⟨he, hb2.trans (hw.mono hb2.size)⟩
        have HA : Hid (∀ w2, Below wr.heap.size wr w2 → Calls Tryd.prog 8 #[] w2 fun e w' => e = .returned (.bool true) ∧ Below W.heap.size W w') := Lib.hid fun w2 hb2 => by
          have hbw := hbr.trans (hb2.mono hbr.size)
          exact (awake_any w2 (hT.out.below hbw hg) (Nat.lt_of_lt_of_le hg hbw.size)).mono fun e w' ⟨he, hw⟩ => ⟨he, hbw.trans (hw.mono hbw.size)⟩
        clear hqn
        go_wp2_with (first
          | (go_at_call_of 16 A; refine (HJ.out).mono ?_; rintro e w2 ⟨rfl, hb2⟩)
          | (go_at_call 16; refine (H0.out _ hb2).mono ?_; rintro e w3 ⟨rfl, hb3⟩)
          | (go_at_call 8; refine (HA.out _ hb3).mono ?_; rintro e w4 ⟨rfl, hb4⟩))
        go_ret
        exact ⟨rfl, hb4⟩

theorem tab_of {W : World} (h : laidMetH Tryd.prog Rows.digitJoinsRow.laid W) : Tab W ∧ 0 < W.heap.size := by
  rw [MakeChecks.laidMetH_plain _ _ _ (by kernel_rfl)] at h
  have h3 := h.tail.tail
  have ht : Tab W := Lib.tabIs_of_head (rest := []) gPow0 (by kernel_rfl) Tryd.underlying68 Tryd.underlying58 (by kernel_rfl) (by kernel_rfl) h3
  exact ⟨ht, World.block_lt_of_cell? _ _ (ht.cell gPow0 0 (by decide))⟩

theorem contract (H : Type) (enc : TypeId × Value → H) (W : World) (base : Nat) (args : Array Value) (ds gs : List (DataW H)) (before : List MemPlace)
    (hval : ∀ (j : Nat) t v, Tryd.f6.params[j]? = some t → args[j]? = some v → Value.okWide Tryd.prog W .any base t v)
    (hW : DataW.Whole enc Tryd.prog Tryd.f6.params.toList Rows.digitJoinsSpec.vars false W args.toList ds gs before) (hL : laidMetH Tryd.prog Rows.digitJoinsRow.laid W) :
    Calls Tryd.prog 6 args W fun e W' => ∃ v, e = .returned v ∧ Rows.digitJoinsSpec.post enc Tryd.prog Tryd.f6 false true false false W args v W' := by
  have hW' := hW
  obtain ⟨p, q, hA, hV, rfl, hfz, hnd⟩ := hW
  rw [Tryd.params6] at hA hval
  obtain ⟨v0, vs0, d0, ds0, p0, q0, hargs, rfl, rfl, h0, r0⟩ := trodAll_cons hA
  obtain ⟨v1, vs1, d1, ds1, p1, q1, rfl, rfl, rfl, h1, r1⟩ := trodAll_cons r0
  obtain ⟨rfl, rfl, rfl⟩ := trodAll_nil r1
  obtain rfl : args = #[v0, v1] := by cases args; simp_all
  obtain ⟨rfl, rfl⟩ := trodVars_none hV
  obtain ⟨a0, rfl, rfl, rfl, w0⟩ := open_string Tryd.underlying9 (hval 0 9 v0 rfl rfl) h0
  obtain ⟨A1, n1, c1, l1, rfl, e1, k1, m1, z1, x1⟩ := open_cells Tryd.underlying36 Tryd.underlying3 (by kernel_rfl) (hval 1 36 v1 rfl rfl) h1
  obtain ⟨ht, hg⟩ := tab_of hL
  exact (core W a0 w0 A1 n1 c1 l1 e1 k1 m1 z1 x1 ht hg).mono fun e W' ⟨he, hb⟩ => ⟨_, he, law_post hW' rfl (by kernel_rfl) (by kernel_rfl) rfl hb⟩

theorem laid_met (os : Os) : laidMetH Tryd.prog Rows.digitJoinsRow.laid ((World.doorLaid Tryd.prog 4000 os).forCall (fun _ _ => 0) ⟨#[], #[.string ByteArray.empty, .slice none 0 0], []⟩).memory :=
  laidMetH_of_parts3 (fuel := 8) (laidMet_of_run' 8 (by kernel_rfl) (by kernel_rfl)) (by kernel_rfl) (by kernel_rfl)
theorem reads (os : Os) {H : Type} (enc : TypeId × Value → H) : ∃ places, DataW.whole enc Tryd.prog ((World.doorLaid Tryd.prog 4000 os).forCall (fun _ _ => 0) ⟨#[], #[.string ByteArray.empty, .slice none 0 0], []⟩).memory Tryd.f6.params.toList Rows.digitJoinsSpec.vars false #[Value.string ByteArray.empty, .slice none 0 0].toList 8 = some ([.lit (.string []), .nil], [], places) :=
  ⟨[], by kernel_rfl⟩

set_option maxRecDepth 100000 in
theorem lifted (os : Os) (started : os.Started) (H : Type) (enc : TypeId × Value → H) (F : Stop.Interp) :
    ReturnsInHanded {} Tryd.checked os 6 .any ((OpenSpec.ofChange Rows.digitJoinsSpec).preRow enc Tryd.prog Tryd.f6 Rows.digitJoinsRow.domain false Rows.digitJoinsRow.laid) (((OpenSpec.ofChange Rows.digitJoinsSpec).at F).post enc Tryd.prog Tryd.f6 false true false false) := by
  obtain ⟨places, hx⟩ := reads os enc
  refine returnsInHanded_of_row (C := Tryd.checked) (s := (OpenSpec.ofChange Rows.digitJoinsSpec)) own started (by kernel_rfl) Tryd.func6
    (witness_row_at (enc := enc) (C := Tryd.checked) false (World.doorLaid Tryd.prog 4000 os) #[.string ByteArray.empty, .slice none 0 0] rfl (by kernel_rfl) (by kernel_rfl) (by kernel_rfl)
      (OpenSpec.preRow_of_cond 8 hx (by kernel_rfl) (fun k hk => by cases hk) (by kernel_rfl) (laid_met os))) ?_
  intro W base args ds gs before hval hW _ _ _ hL _ _
  exact contract H enc W base args ds gs before hval hW hL

theorem said : Rows.DigitJoinsSaid :=
  OpenClaim.holds_of_cond 6 Tryd.f6 rfl rfl rfl rfl rfl rfl rfl ⟨rfl, rfl, rfl, rfl, rfl⟩ rfl rfl rfl rfl rfl (by kernel_rfl) Tryd.func6 (by kernel_rfl)
    (of_decide_eq_true (by kernel_rfl)) (by unfold Func.isWrapper; first | (rw [if_pos (by decide +kernel)]; kernel_rfl) | (rw [if_neg (by decide +kernel)]; exact ⟨rfl, rfl⟩))
    (fun os started H enc _ F => by rw [OpenClaim.pre_eq_preRow]; exact lifted os started H enc F)

theorem plain (f : FuncId) (fn : Func) (hf : Tryd.pinned.checked.prog.funcNamed "palinode/palinodelaw01.DigitJoins" = some f) (hfn : Tryd.pinned.checked.prog.funcs[f]? = some fn) :
    false = Tryd.pinned.checked.prog.looks [] ∧ ∀ (j : Nat) t, fn.params[j]? = some t → Tryd.pinned.checked.prog.wantsStandIn t = false := by
  obtain rfl : f = 6 := Option.some.inj ((show Tryd.prog.funcNamed "palinode/palinodelaw01.DigitJoins" = some 6 by kernel_rfl).symm.trans hf) |>.symm
  obtain rfl : fn = Tryd.f6 := (Option.some.inj (Tryd.func6.symm.trans hfn)).symm
  refine ⟨by kernel_rfl, fun j t ht => ?_⟩
  rw [Tryd.params6] at ht
  have hm : t ∈ [9, 36] := by simpa using Array.mem_of_getElem? ht
  have hall : ([9, 36].all fun u => !Tryd.prog.wantsStandIn u) = true := by kernel_rfl
  exact (show Tryd.prog.wantsStandIn t = false by simpa using List.all_eq_true.1 hall t hm)

theorem card : Rows.DigitJoinsCardSaid :=
  Claim7.holds_tied_plain_at .later [] _ _ _ _ said (fun _ h => by cases h) (by kernel_rfl) (fun _ h => by cases h) digitJoins_row_tie rfl ⟨rfl, rfl⟩ (by kernel_rfl) rfl plain (by kernel_rfl)

end Go.Proofs.YtcflagjannphoaaDoor.digitJoins
