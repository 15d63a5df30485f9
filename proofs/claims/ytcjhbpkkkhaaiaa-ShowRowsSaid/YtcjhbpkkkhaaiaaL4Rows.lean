/- ShowRows. -/
import Derived.Test.YtcjhbpkkkhaaiaaFrame
import Derived.Test.YtcjhbpkkkhaaiaaShwI
set_option linter.unusedVariables false
namespace Go.Proofs.Ytcjhbpkkkhaaiaa.Rws
open Go.ChangeShapes Go.WideShapes Go.ChangeAt Go.RowKit

theorem join_tail_snoc (sep : List UInt8) (r : List (List UInt8)) (x : List UInt8) : Lib.joinTail sep (r ++ [x]) = Lib.joinTail sep r ++ (sep ++ x) := by
  simp [Lib.joinTail]
theorem rowS_one (s : ByteArray) : rowS [s] = s.data.toList := by simp [rowS, Lib.join_one]
theorem rowS_snoc (l : List ByteArray) (h : l ≠ []) (s : ByteArray) : rowS (l ++ [s]) = rowS l ++ [32] ++ s.data.toList := by
  match l, h with
  | x :: r, _ =>
    unfold rowS
    rw [List.cons_append, List.map_cons, List.map_cons, Lib.join_cons, Lib.join_cons, List.map_append, List.map_cons, List.map_nil, join_tail_snoc]
    simp

theorem vals_str {w : World} {B : Nat} {A : Option Addr} {ss : List ByteArray} (h : Vals w B A (ss.map Value.string)) {k : Nat} {x : ByteArray} (hx : ss[k]? = some x) : ∃ ad, A = some ad ∧ w.cell? (ad.add k) = some (.string x) := by
  obtain ⟨hk, rfl⟩ := List.getElem?_eq_some_iff.1 hx
  obtain ⟨ad, h1, _, h2⟩ := h.at_ (k := k) (by rw [List.length_map]; exact hk)
  exact ⟨ad, h1, by rw [h2, List.getElem_map]⟩

def WRel (ss : List ByteArray) (vi v : Value) : Prop := ∃ (k : Nat) (o : ByteArray), vi = .int .i64 (k : Int) ∧ v = .string o ∧ k ≤ ss.length ∧ o.data.toList = rowS (ss.take k) ∧ o.size ≤ 40 * k ∧ ∀ s ∈ ss.take k, s.size ≤ 30
theorem WRel.mk {ss : List ByteArray} {vi v : Value} (k : Nat) (o : ByteArray) (h1 : vi = .int .i64 (k : Int)) (h2 : v = .string o) (h3 : k ≤ ss.length) (h4 : o.data.toList = rowS (ss.take k)) (h5 : o.size ≤ 40 * k) (h6 : ∀ s ∈ ss.take k, s.size ≤ 30) : WRel ss vi v := ⟨k, o, h1, h2, h3, h4, h5, h6⟩
theorem take_get {ss : List ByteArray} {k : Nat} {x : ByteArray} (hx : ss[k]? = some x) : ss.take (k + 1) = ss.take k ++ [x] := by
  rw [List.take_add_one, hx]; rfl

set_option maxHeartbeats 1000000 in
theorem core (W : World) (A : Option Addr) (n c : Nat) (ss : List ByteArray) (hn : n = ss.length) (hnc : n ≤ c) (hm : c ≤ maxLen) (hz : ∀ s ∈ ss, s.size ≤ maxLen) (h : Vals W W.heap.size A (ss.map Value.string)) :
    Calls Try.prog 6 #[.slice A n c] W fun e W' => e = .returned (.bool true) ∧ Below W.heap.size W W' := by
  have hW := Lib.hid awake_any
  unfold maxLen at hm
  by_cases hbig : n ≤ 12
  · have hR := Lib.hid (fun (hz : ∀ s ∈ ss, s.size ≤ 30) => row_any A n c ss W hn hnc (by omega) (fun s hs => Nat.le_trans (hz s hs) (by omega)) h)
    have hL := Lib.hid hn
    have hV := Lib.hid h
    clear hn h hz
    go_enter Try.func6, Try.ntmps6
    go_wp2_with fail
    go_loop [4, 3] (fun vi v => WRel ss vi v) (fun vi _ => n - (intOf vi).toNat)
    case atStart => exact WRel.mk 0 ⟨#[]⟩ rfl rfl (Nat.zero_le _) rfl (by simp [ByteArray.size]) (by simp)
    case round =>
      obtain ⟨k, o, rfl, rfl, hk, ho, hos, hzk⟩ := hrel
      have hkn := Lib.hid hk
      rw [← hL.out] at hk
      replace ho := Lib.hid ho
      replace hzk := Lib.hid hzk
      by_cases hlt : k < n
      · obtain ⟨x, hx⟩ : ∃ x, ss[k]? = some x := ⟨_, List.getElem?_eq_getElem (hL.out ▸ hlt)⟩
        obtain ⟨ad, rfl, hcell⟩ := vals_str hV.out hx
        replace hx := Lib.hid hx
        by_cases hx30 : x.size ≤ 30
        · have hzk2 : Hid (∀ s ∈ ss.take (k + 1), s.size ≤ 30) := by
            apply Lib.hid
            rw [take_get hx.out]
            intro s hs
            rcases List.mem_append.1 hs with h1 | h1
            · exact hzk.out s h1
            · rw [List.mem_singleton.1 h1]; exact hx30
          by_cases hk0 : k = 0
          · subst hk0
            obtain rfl : o = ⟨#[]⟩ := bytes_ext ho.out
            replace hcell : W.cell? ad = some (.string x) := by simpa [Addr.add] using hcell
            have hx1 : Hid (x.data.toList = rowS (ss.take 1)) := Lib.hid (by rw [take_get hx.out, List.take_zero, List.nil_append, rowS_one])
            go_wp2_with fail
            trace_state
            go_round
            case rel => exact WRel.mk 1 x (by go_num) rfl (by rw [← hL.out]; omega) hx1.out (by omega) hzk2.out
            case measure => simp [intOf]; omega
          · have hk1 : 0 < k := by omega
            have hne : ss.take k ≠ [] := by
              intro e
              have := congrArg List.length e
              rw [List.length_take, List.length_nil, ← hL.out] at this; omega
            have hx1 : Hid (∀ o' : ByteArray, o'.data.toList = (o.data.toList ++ [32]) ++ x.data.toList → o'.data.toList = rowS (ss.take (k + 1))) := Lib.hid (fun o' e => by rw [e, take_get hx.out, rowS_snoc _ hne, ho.out])
            clear hne
            go_wp2_with fail
            trace_state
            go_round
            case rel => exact WRel.mk (k + 1) (o ++ ⟨#[32]⟩ ++ x) (by go_num) rfl (by rw [← hL.out]; omega) (hx1.out _ (by rw [str_app, str_app])) (by rw [ByteArray.size_append, ByteArray.size_append]; show o.size + 1 + x.size ≤ _; omega) hzk2.out
            case measure => simp [intOf]; omega
        · have hx31 : 30 < x.size := by omega
          go_wp2_with (first
            | (go_at_call 7; refine (hW.out _).mono ?_; rintro e w5 ⟨rfl, hb5⟩))
          go_ret
          exact ⟨rfl, hb5⟩
      · obtain rfl : k = n := by omega
        have hfin : Hid (o = ⟨(rowS ss).toArray⟩) := by
          apply Lib.hid
          apply bytes_ext
          rw [ho.out, List.take_of_length_le (by rw [← hL.out]; omega)]
        have hz30 : ∀ s ∈ ss, s.size ≤ 30 := by
          have := hzk.out
          rwa [List.take_of_length_le (by rw [← hL.out]; omega)] at this
        replace hR := Lib.hid (hR.out hz30)
        rw [← hfin.out] at hR
        clear hz30
        go_wp2_with (first
          | (go_at_call 14; refine (hR.out).mono ?_; rintro e w1 ⟨rfl, hb1⟩)
          | (go_at_call 7; refine (hW.out _).mono ?_; rintro e w5 ⟨rfl, hb5⟩))
        go_ret
        exact ⟨rfl, hb1.trans (hb5.mono hb1.size)⟩
  · have hbig : 12 < n := by omega
    clear hn h hz
    go_enter Try.func6, Try.ntmps6
    go_wp2_with (first
      | (go_at_call 7; refine (hW.out _).mono ?_; rintro e w5 ⟨rfl, hb5⟩))
    go_ret
    exact ⟨rfl, hb5⟩
theorem contract (H : Type) (enc : TypeId × Value → H) (W : World) (base : Nat) (args : Array Value) (ds gs : List (DataW H)) (before : List MemPlace)
    (hval : ∀ (j : Nat) t v, Try.f6.params[j]? = some t → args[j]? = some v → Value.okWide Try.prog W .any base t v)
    (hW : DataW.Whole enc Try.prog Try.f6.params.toList Rows.showRowsSpec.vars false W args.toList ds gs before) :
    Calls Try.prog 6 args W fun e W' => ∃ v, e = .returned v ∧ Rows.showRowsSpec.post enc Try.prog Try.f6 false true false false W args v W' := by
  have hW' := hW
  obtain ⟨p, q, hA, hV, rfl, hfz, hnd⟩ := hW
  rw [Try.params6] at hA hval
  obtain ⟨v0, vs0, d0, ds0, p0, q0, hargs, rfl, rfl, h0, r0⟩ := trodAll_cons hA
  obtain ⟨rfl, rfl, rfl⟩ := trodAll_nil r0
  obtain rfl : args = #[v0] := by cases args; simp_all
  obtain ⟨rfl, rfl⟩ := trodVars_none hV
  obtain ⟨A0, n0, c0, l0, rfl, e0, k0, m0, z0, x0⟩ := open_strs Try.underlying35 Try.underlying9 (by kernel_rfl) (hval 0 35 v0 rfl rfl) h0
  exact (core W A0 n0 c0 l0 e0 k0 m0 z0 x0).mono fun e W' ⟨he, hb⟩ => ⟨_, he, law_post hW' rfl (by kernel_rfl) (by kernel_rfl) rfl hb⟩

theorem laid_met (os : Os) : laidMetH Try.prog Rows.showRowsRow.laid ((World.doorLaid Try.prog 4000 os).forCall (fun _ _ => 0) ⟨#[], #[.slice none 0 0], []⟩).memory :=
  laidMetH_of_parts3 (fuel := 8) (laidMet_of_run' 8 (by kernel_rfl) (by kernel_rfl)) (by kernel_rfl) (by kernel_rfl)
theorem reads (os : Os) {H : Type} (enc : TypeId × Value → H) : ∃ places, DataW.whole enc Try.prog ((World.doorLaid Try.prog 4000 os).forCall (fun _ _ => 0) ⟨#[], #[.slice none 0 0], []⟩).memory Try.f6.params.toList Rows.showRowsSpec.vars false #[Value.slice none 0 0].toList 8 = some ([.nil], [], places) :=
  ⟨[], by kernel_rfl⟩

set_option maxRecDepth 100000 in
theorem lifted (os : Os) (started : os.Started) (H : Type) (enc : TypeId × Value → H) (F : Stop.Interp) :
    ReturnsInHanded {} Try.checked os 6 .any ((OpenSpec.ofChange Rows.showRowsSpec).preRow enc Try.prog Try.f6 Rows.showRowsRow.domain false Rows.showRowsRow.laid) (((OpenSpec.ofChange Rows.showRowsSpec).at F).post enc Try.prog Try.f6 false true false false) := by
  obtain ⟨places, hx⟩ := reads os enc
  refine returnsInHanded_of_row (C := Try.checked) (s := (OpenSpec.ofChange Rows.showRowsSpec)) own started (by kernel_rfl) Try.func6
    (witness_row_at (enc := enc) (C := Try.checked) false (World.doorLaid Try.prog 4000 os) #[.slice none 0 0] rfl (by kernel_rfl) (by kernel_rfl) (by kernel_rfl)
      (OpenSpec.preRow_of_cond 8 hx (by kernel_rfl) (fun k hk => by cases hk) (by kernel_rfl) (laid_met os))) ?_
  intro W base args ds gs before hval hW _ _ _ _ _ _
  exact contract H enc W base args ds gs before hval hW

theorem said : Rows.ShowRowsSaid :=
  OpenClaim.holds_of_cond 6 Try.f6 rfl rfl rfl rfl rfl rfl rfl ⟨rfl, rfl, rfl, rfl, rfl⟩ rfl rfl rfl rfl rfl (by kernel_rfl) Try.func6 (by kernel_rfl)
    (of_decide_eq_true (by kernel_rfl)) (by unfold Func.isWrapper; first | (rw [if_pos (by decide +kernel)]; kernel_rfl) | (rw [if_neg (by decide +kernel)]; exact ⟨rfl, rfl⟩))
    (fun os started H enc _ F => by rw [OpenClaim.pre_eq_preRow]; exact lifted os started H enc F)

end Go.Proofs.Ytcjhbpkkkhaaiaa.Rws
