/- LinesJoin. -/
import Derived.Test.YtdmbjhgfiofbhaaFrame
import Derived.Test.YtdmbjhgfiofbhaaLinC
import Derived.Test.YtdmbjhgfiofbhaaLinG
import Derived.Test.YtdmbjhgfiofbhaaLinK
import Derived.Test.YtdmbjhgfiofbhaaLinO
set_option linter.unusedVariables false
namespace Go.Proofs.Ytdmbjhgfiofbhaa.Join
open Go.ChangeShapes Go.WideShapes Go.ChangeAt Go.RowKit

/-- What the law asks of the line x, the j-th of n. -/
def okL (n j : Nat) (x : Lin) : Prop := (∀ c ∈ x.1, c ≠ 10) ∧ (x.2 = true ∨ j + 1 = n ∧ x.1 ≠ [])
def okTo (ls : List Lin) (i : Nat) : Prop := ∀ (j : Nat) (x : Lin), j < i → ls[j]? = some x → okL ls.length j x
theorem okTo_next {ls : List Lin} {i : Nat} (h : okTo ls i) {x : Lin} (hx : ls[i]? = some x) (hk : okL ls.length i x) : okTo ls (i + 1) := by
  intro j y hj hy
  rcases Nat.lt_or_ge j i with hlt | hge
  · exact h j y hlt hy
  · obtain rfl : j = i := by omega
    rw [hx] at hy; cases hy; exact hk
theorem okTo_whole : ∀ (ls : List Lin) (n m : Nat), n = m + ls.length → (∀ (j : Nat) (x : Lin), ls[j]? = some x → okL n (m + j) x) → wholeS ls = true := by
  intro ls
  induction ls with
  | nil => intro n m _ _; rfl
  | cons x r ih =>
    intro n m hn h
    have h0 := h 0 x rfl
    have hr := ih n (m + 1) (by rw [hn, List.length_cons]; omega) (fun j y hy => by
      have := h (j + 1) y (by simpa using hy)
      rwa [show m + (j + 1) = m + 1 + j by omega] at this)
    rw [wholeS, Bool.and_eq_true, Bool.and_eq_true]
    refine ⟨⟨List.all_eq_true.2 fun c hc => by simpa using h0.1 c hc, ?_⟩, hr⟩
    rcases h0.2 with h2 | ⟨h2, h3⟩
    · rw [h2]; rfl
    · have h4 : r = [] := List.eq_nil_of_length_eq_zero (by rw [List.length_cons] at hn; omega)
      subst h4
      cases hx : x.1 with
      | nil => exact absurd hx h3
      | cons a b => simp
theorem whole_of {ls : List Lin} (h : okTo ls ls.length) : wholeS ls = true :=
  okTo_whole ls ls.length 0 (by omega) fun j x hx => by
    have := h j x (List.getElem?_eq_some_iff.1 hx).1 hx
    rwa [Nat.zero_add]

def RelO (W : World) (ls : List Lin) (n : Nat) (v u i : Value) (wr : World) : Prop :=
  ∃ (k : Nat) (b : Bool), k ≤ n ∧ i = .int .i64 (k : Nat) ∧ u = .bool b ∧ Hid (b = true → okTo ls k) ∧ (joinS (ls.take k)).length ≤ 31 * k ∧ wr.ownsRow W.heap.size 5 1 v (joinS (ls.take k)).length (bv (joinS (ls.take k))) ∧ Below W.heap.size W wr
theorem RelO.mk {W : World} {ls : List Lin} {n : Nat} {v u i : Value} {wr : World} (h : ∃ (k : Nat) (b : Bool), k ≤ n ∧ i = .int .i64 (k : Nat) ∧ u = .bool b ∧ Hid (b = true → okTo ls k) ∧ (joinS (ls.take k)).length ≤ 31 * k ∧ wr.ownsRow W.heap.size 5 1 v (joinS (ls.take k)).length (bv (joinS (ls.take k))) ∧ Below W.heap.size W wr) : RelO W ls n v u i wr := h
def RelI (x : List UInt8) (b0 : Bool) (u i : Value) : Prop :=
  ∃ (m : Nat) (b : Bool), m ≤ x.length ∧ i = .int .i64 (m : Nat) ∧ u = .bool b ∧ Hid (b = true → b0 = true ∧ ∀ c ∈ x.take m, c ≠ 10)
theorem RelI.mk {x : List UInt8} {b0 : Bool} {u i : Value} (h : ∃ (m : Nat) (b : Bool), m ≤ x.length ∧ i = .int .i64 (m : Nat) ∧ u = .bool b ∧ Hid (b = true → b0 = true ∧ ∀ c ∈ x.take m, c ≠ 10)) : RelI x b0 u i := h

set_option maxHeartbeats 4000000 in
set_option maxRecDepth 100000 in
theorem core (W : World) (A : Option Addr) (n c : Nat) (ls : List Lin) (hn : n = ls.length) (hnc : n ≤ c) (hm : c ≤ maxLen) (h : Lins W W.heap.size A ls) :
    Calls Try.prog 6 #[.slice A n c] W fun e W' => e = .returned (.bool true) ∧ Below W.heap.size W W' := by
  have hW := Lib.hid awake_any
  have hszA : ∀ (w : World) (o : Obj), (w.alloc o).heap.size = w.heap.size + 1 := fun w o => by simp
  by_cases hbig : n ≤ 12
  · obtain ⟨i0, hi, hz0, hz1, hz2⟩ := info_parts byte_info2
    have hI2 := Lib.hid hz2
    have hI1 := Lib.hid hz1
    have hN := Lib.hid hn
    have hH := Lib.hid h
    unfold maxLen at hm
    clear hn h hz2 hz1
    go_enter Try.func6, Try.ntmps6
    go_wp2
    go_loopw [3, 4, 5] (fun v u i wr => RelO W ls n v u i wr) (fun _ _ i _ => n - (intOf i).toNat)
    case atStart => exact RelO.mk ⟨0, true, by omega, rfl, rfl, Lib.hid (fun _ j x hj => absurd hj (by omega)), by simp [joinS], by simpa [joinS, bv] using World.ownsRow_nil W W.heap.size 5 1, Below.refl _ _⟩
    case round =>
      obtain ⟨k, b, hk, rfl, rfl, hok, hjl, hown, hbr⟩ := hrel
      by_cases hlt : k < n
      · have hlk : k < ls.length := by have := hN.out; omega
        have hnx := joinS_next ls k hlk
        obtain ⟨ad, A1, n1, c1, hA, hbk, hd1, he1, hn1, hc1, hm1, hB1⟩ := (hH.out.below hbr).at_ hlk
        subst hA
        subst hn1
        obtain ⟨A0, c0, rfl, -, -, -, -⟩ := own_byt hown
        have hxs : ls[k]? = some (ls[k]'hlk) := List.getElem?_eq_getElem hlk
        generalize ls[k]'hlk = x at *
        obtain ⟨x1, x2⟩ := x
        have hX := Lib.hid hnx
        have hXs := Lib.hid hxs
        clear hnx hxs hlk
        by_cases h30 : x1.length ≤ 30
        · have hvals : Vals wr W.heap.size A1 (bv x1) := hB1.vals
          generalize joinS (ls.take k) = l0 at *
          go_wp2_with (first
            | (at_builtin; refine wpList_append_vals rfl _ _ 22 rfl W.heap.size 5 i0 (.int .u8 0) 1 Try.underlying22 hi hz0 hI1.out hI2.out rfl (.slice A0 l0.length c0) l0.length (bv l0) rfl hown W.heap.size A1 x1.length c1 (bv x1) rfl (bv_length x1).symm hvals (bv_one x1) (by unfold maxLen; omega) (by omega) hbr.size ?_; intro v6 w6 hown6 hg6; have hb6 := below_append hbr hown hbr.size hg6))
          have hb6s := hb6.size
          obtain ⟨A6, c6, rfl, -, -, -⟩ := own_vals hown6
          have hcell6 : ∀ p : Addr, p.block < W.heap.size → w6.cell? p = wr.cell? p := fun p hp => (hb6.cell hp).trans (hbr.cell hp).symm
          have hd6 := (hcell6 (ad.add (k * 2)) (by rw [block_add]; exact hbk)).trans hd1
          have he6 := (hcell6 ⟨(ad.add (k * 2)).block, (ad.add (k * 2)).off + 1, none⟩ (by show (ad.add (k * 2)).block < _; rw [block_add]; exact hbk)).trans he1
          have hB6 : Byt w6 W.heap.size A1 x1 := Byt.keep hB1 hcell6
          clear hcell6
          go_loop [4, 6] (fun u i => RelI x1 b u i) (fun _ i => x1.length - (intOf i).toNat)
          case atStart => exact RelI.mk ⟨0, b, by omega, rfl, rfl, Lib.hid (fun h => ⟨h, fun c hc => absurd hc (by simp)⟩)⟩
          case round =>
            obtain ⟨m, b1, hmx, rfl, rfl, hq⟩ := hrel
            by_cases hmlt : m < x1.length
            · obtain ⟨ad2, hA2, -, hd2⟩ := hB6.at_ hmlt
              subst hA2
              have htk := Lib.hid (take_next x1 m hmlt)
              generalize x1[m]'hmlt = ch at *
              cases b1 with
              | false =>
                go_wp2
                go_round
                case rel => exact RelI.mk ⟨m + 1, false, by omega, by go_num, rfl, Lib.hid (fun h => absurd h (by simp))⟩
                case measure => simp [intOf]; omega
              | true =>
                by_cases hc10 : ch = 10
                · subst hc10
                  go_wp2
                  go_round
                  case rel => exact RelI.mk ⟨m + 1, false, by omega, by go_num, rfl, Lib.hid (fun h => absurd h (by simp))⟩
                  case measure => simp [intOf]; omega
                · have hc2 : (((ch.toNat : Nat) : Int) == 10) = false := by
                    rw [beq_eq_false_iff_ne]; intro e; exact hc10 (UInt8.toNat_inj.1 (by show ch.toNat = 10; omega))
                  have hT := Lib.hid (show true = true → b = true ∧ ∀ c ∈ x1.take (m + 1), c ≠ 10 from fun _ => ⟨(hq.out rfl).1, fun c hc => by
                    rw [htk.out] at hc
                    rcases List.mem_append.1 hc with h | h
                    · exact (hq.out rfl).2 c h
                    · obtain rfl : c = ch := by simpa using h
                      exact hc10⟩)
                  clear hc10
                  generalize ((ch.toNat : Nat) : Int) = y at *
                  go_wp2
                  go_round
                  case rel => exact RelI.mk ⟨m + 1, true, by omega, by go_num, by simp [bne, hc2], hT⟩
                  case measure => simp [intOf]; omega
            · have hQ := Lib.hid (show b1 = true → b = true ∧ ∀ c ∈ x1, c ≠ 10 from fun h => by
                have := hq.out h
                rwa [List.take_of_length_le (by omega)] at this)
              clear hq
              cases x2 with
              | true =>
                go_wp2_with (first
                  | (at_builtin; refine wpList_append_vals rfl _ _ 22 rfl W.heap.size 5 i0 (.int .u8 0) 1 Try.underlying22 hi hz0 hI1.out hI2.out rfl (.slice A6 (l0.length + x1.length) c6) (l0.length + x1.length) (bv l0 ++ bv x1) rfl (hown6.alloc _) (w6.heap.size + 1) (some ⟨w6.heap.size, 0, none⟩) 1 1 [.int .u8 10] rfl rfl (vals_new w6 [.int .u8 10] 5 (0, 0)) (by simp [Value.oneCell']) (by unfold maxLen; omega) (by omega) (by rw [hszA]; omega) ?_; intro v7 w7 hown7 hg7; have hb7 := below_append (hb6.alloc hb6.size _) (hown6.alloc _) (by rw [hszA]; omega) hg7))
                go_roundw
                case rel =>
                  refine RelO.mk ⟨k + 1, b1, by omega, by go_num, rfl, Lib.hid ?_, ?_, ?_, hb7⟩
                  · exact fun h => okTo_next (hok.out (hQ.out h).1) hXs.out ⟨(hQ.out h).2, .inl rfl⟩
                  · rw [hX.out]; simp [lineB]; omega
                  · have e1 : (l0 ++ lineB (x1, true)).length = l0.length + x1.length + 1 := by simp [lineB]; omega
                    have e2 : bv (l0 ++ lineB (x1, true)) = bv l0 ++ bv x1 ++ [.int .u8 10] := by simp [lineB, bv]
                    rw [hX.out, e1, e2]; exact hown7
                case measure => simp [intOf]; omega
              | false =>
                have hlf : (lineB (x1, false)).length = x1.length := by simp [lineB]
                have hbf : bv (lineB (x1, false)) = bv x1 := by simp [lineB]
                have hlf := Lib.hid hlf
                have hbf := Lib.hid hbf
                cases b1 with
                | false =>
                  go_wp2
                  go_roundw
                  case rel =>
                    refine RelO.mk ⟨k + 1, false, by omega, by go_num, rfl, Lib.hid ?_, ?_, ?_, hb6⟩
                    · exact fun h => absurd h (by simp)
                    · rw [hX.out, List.length_append, hlf.out]; omega
                    · rw [hX.out, List.length_append, hlf.out, bv_append, hbf.out]; exact hown6
                  case measure => simp [intOf]; omega
                | true =>
                  by_cases hkn : k + 1 = n
                  · have hk1 : ((k : Int) == (n : Int) - 1) = true := by rw [beq_iff_eq]; omega
                    by_cases hx0 : 0 < x1.length
                    · have hkn := Lib.hid hkn
                      go_wp2
                      go_roundw
                      case rel =>
                        refine RelO.mk ⟨k + 1, true, by omega, by go_num, rfl, Lib.hid ?_, ?_, ?_, hb6⟩
                        · exact fun h => okTo_next (hok.out (hQ.out h).1) hXs.out ⟨(hQ.out h).2, .inr ⟨by rw [← hN.out]; exact hkn.out, fun e => by have e : x1 = [] := e; rw [e] at hx0; simp at hx0⟩⟩
                        · rw [hX.out, List.length_append, hlf.out]; omega
                        · rw [hX.out, List.length_append, hlf.out, bv_append, hbf.out]; exact hown6
                      case measure => simp [intOf]; omega
                    · have hkn := Lib.hid hkn
                      go_wp2
                      go_roundw
                      case rel =>
                        refine RelO.mk ⟨k + 1, false, by omega, by go_num, rfl, Lib.hid ?_, ?_, ?_, hb6⟩
                        · exact fun h => absurd h (by simp)
                        · rw [hX.out, List.length_append, hlf.out]; omega
                        · rw [hX.out, List.length_append, hlf.out, bv_append, hbf.out]; exact hown6
                      case measure => simp [intOf]; omega
                  · have hk1 : ((k : Int) == (n : Int) - 1) = false := by rw [beq_eq_false_iff_ne]; omega
                    go_wp2
                    go_roundw
                    case rel =>
                      refine RelO.mk ⟨k + 1, false, by omega, by go_num, rfl, Lib.hid ?_, ?_, ?_, hb6⟩
                      · exact fun h => absurd h (by simp)
                      · rw [hX.out, List.length_append, hlf.out]; omega
                      · rw [hX.out, List.length_append, hlf.out, bv_append, hbf.out]; exact hown6
                    case measure => simp [intOf]; omega
        · have h30 : 30 < x1.length := by omega
          go_wp2_with (first
            | (go_at_call 7; refine (hW.out _).mono ?_; rintro e w5 ⟨rfl, hb5⟩))
          go_ret
          exact ⟨rfl, hbr.trans (hb5.mono hbr.size)⟩
      · obtain rfl : k = n := by omega
        have hjn : joinS (ls.take k) = joinS ls := by rw [hN.out, List.take_length]
        rw [hjn] at hjl hown
        clear hjn
        obtain ⟨A0, c0, rfl, -, z1, z2, z3⟩ := own_byt hown
        have hJ := Lib.hid (join_any A k c ls wr hN.out hnc (by unfold maxLen; omega) (by omega) ((hH.out.below hbr).more hbr.size))
        have hQ := Lib.hid (fun (A3 : Option Addr) (c3 : Nat) (w4 : World) (r1 : (joinS ls).length ≤ c3) (r2 : c3 ≤ maxLen) (r3 : Byt w4 w4.heap.size A3 (joinS ls)) (hb : Below wr.heap.size wr w4) => sameB_any A3 A0 _ c3 _ c0 (joinS ls) (joinS ls) _ w4 rfl rfl r1 z1 r2 r3 ((z3.below hb).more hb.size))
        simp only [beq_self_eq_true] at hQ
        cases b with
        | false =>
          go_wp2_with (first
            | (go_at_call 14; refine (hJ.out).mono ?_; rintro e w4 ⟨v4, rfl, ho4, hb4⟩; obtain ⟨A4, c4, rfl, -, r1, r2, r3⟩ := own_byt ho4)
            | (go_at_call 13; refine (hQ.out _ _ _ r1 r2 r3 hb4).mono ?_; rintro e w5 ⟨rfl, q5, rfl⟩)
            | (go_at_call 7; refine (hW.out _).mono ?_; rintro e w8 ⟨rfl, hb8⟩))
          go_ret
          have hb5 := below_drewN (hbr.trans (hb4.mono hbr.size)) q5
          exact ⟨rfl, hb5.trans (hb8.mono hb5.size)⟩
        | true =>
          have hwh := split_join ls (whole_of (by rw [← hN.out]; exact hok.out rfl))
          have hwl := Lib.hid hwh
          clear hwh
          have hS := Lib.hid (fun (A4 : Option Addr) (c4 : Nat) (w5 : World) (r1 : (joinS ls).length ≤ c4) (r2 : c4 ≤ maxLen) (r3 : Byt w5 w5.heap.size A4 (joinS ls)) => split_any A4 _ c4 (joinS ls) w5 rfl r1 r2 (by omega) r3)
          have hL := Lib.hid (fun (A7 : Option Addr) (c7 : Nat) (w7 : World) (r1 : ls.length ≤ c7) (r2 : c7 ≤ maxLen) (r3 : Lins w7 w7.heap.size A7 ls) (hb : Below W.heap.size W w7) => sameL_any A7 A _ c7 k c ls ls _ w7 rfl hN.out r1 hnc r2 r3 ((hH.out.below hb).more hb.size))
          simp only [beq_self_eq_true] at hL
          rw [hwl.out] at hS
          go_wp2_with (first
            | (go_at_call 14; refine (hJ.out).mono ?_; rintro e w4 ⟨v4, rfl, ho4, hb4⟩; obtain ⟨A4, c4, rfl, -, r1, r2, r3⟩ := own_byt ho4; have hbW4 := hbr.trans (hb4.mono hbr.size))
            | (go_at_call 13; refine (hQ.out _ _ _ r1 r2 r3 hb4).mono ?_; rintro e w5 ⟨rfl, q5, rfl⟩; have hbW5 := below_drewN hbW4 q5)
            | (go_at_call 11; refine (hS.out _ _ (w4.drewN q5) r1 r2 r3).mono ?_; rintro e w7 ⟨v7, rfl, hO7, hb7⟩; obtain ⟨A7, c7, rfl, p1, p2, p3⟩ := hO7.lins; have hbW7 := hbW5.trans (hb7.mono hbW5.size))
            | (go_at_call 10; refine (hL.out _ _ _ p1 p2 p3 hbW7).mono ?_; rintro e w9 ⟨rfl, q9, rfl⟩; have hbW9 := below_drewN hbW7 q9)
            | (go_at_call 7; refine (hW.out _).mono ?_; rintro e w8 ⟨rfl, hb8⟩))
          go_ret
          exact ⟨rfl, hbW9.trans (hb8.mono hbW9.size)⟩
  · have hbig : 12 < n := by omega
    unfold maxLen at hm
    clear hn h
    go_enter Try.func6, Try.ntmps6
    go_wp2_with (first
      | (go_at_call 7; refine (hW.out _).mono ?_; rintro e w5 ⟨rfl, hb5⟩))
    go_ret
    exact ⟨rfl, hb5⟩
theorem contract (H : Type) (enc : TypeId × Value → H) (W : World) (base : Nat) (args : Array Value) (ds gs : List (DataW H)) (before : List MemPlace)
    (hval : ∀ (j : Nat) t v, Try.f6.params[j]? = some t → args[j]? = some v → Value.okWide Try.prog W .any base t v)
    (hW : DataW.Whole enc Try.prog Try.f6.params.toList Rows.linesJoinSpec.vars false W args.toList ds gs before) :
    Calls Try.prog 6 args W fun e W' => ∃ v, e = .returned v ∧ Rows.linesJoinSpec.post enc Try.prog Try.f6 false true false false W args v W' := by
  have hW' := hW
  obtain ⟨p, q, hA, hV, rfl, hfz, hnd⟩ := hW
  rw [Try.params6] at hA hval
  obtain ⟨v0, vs0, d0, ds0, p0, q0, hargs, rfl, rfl, h0, r0⟩ := trodAll_cons hA
  obtain ⟨rfl, rfl, rfl⟩ := trodAll_nil r0
  obtain rfl : args = #[v0] := by cases args; simp_all
  obtain ⟨rfl, rfl⟩ := trodVars_none hV
  obtain ⟨A0, n0, c0, l0, rfl, e0, k0, m0, x0⟩ := open_lines (hval 0 24 v0 rfl rfl) h0
  exact (core W A0 n0 c0 l0 e0 k0 m0 x0).mono fun e W' ⟨he, hb⟩ => ⟨_, he, law_post hW' rfl (by kernel_rfl) (by kernel_rfl) rfl hb⟩

theorem laid_met (os : Os) : laidMetH Try.prog Rows.linesJoinRow.laid ((World.doorLaid Try.prog 4000 os).forCall (fun _ _ => 0) ⟨#[], #[.slice none 0 0], []⟩).memory :=
  laidMetH_of_parts3 (fuel := 8) (laidMet_of_run' 8 (by kernel_rfl) (by kernel_rfl)) (by kernel_rfl) (by kernel_rfl)
theorem reads (os : Os) {H : Type} (enc : TypeId × Value → H) : ∃ places, DataW.whole enc Try.prog ((World.doorLaid Try.prog 4000 os).forCall (fun _ _ => 0) ⟨#[], #[.slice none 0 0], []⟩).memory Try.f6.params.toList Rows.linesJoinSpec.vars false #[Value.slice none 0 0].toList 8 = some ([.nil], [], places) :=
  ⟨[], by kernel_rfl⟩

set_option maxRecDepth 100000 in
theorem lifted (os : Os) (started : os.Started) (H : Type) (enc : TypeId × Value → H) (F : Stop.Interp) :
    ReturnsInHanded {} Try.checked os 6 .any ((OpenSpec.ofChange Rows.linesJoinSpec).preRow enc Try.prog Try.f6 Rows.linesJoinRow.domain false Rows.linesJoinRow.laid) (((OpenSpec.ofChange Rows.linesJoinSpec).at F).post enc Try.prog Try.f6 false true false false) := by
  obtain ⟨places, hx⟩ := reads os enc
  refine returnsInHanded_of_row (C := Try.checked) (s := (OpenSpec.ofChange Rows.linesJoinSpec)) own started (by kernel_rfl) Try.func6
    (witness_row_at (enc := enc) (C := Try.checked) false (World.doorLaid Try.prog 4000 os) #[.slice none 0 0] rfl (by kernel_rfl) (by kernel_rfl) (by kernel_rfl)
      (OpenSpec.preRow_of_cond 8 hx (by kernel_rfl) (fun k hk => by cases hk) (by kernel_rfl) (laid_met os))) ?_
  intro W base args ds gs before hval hW _ _ _ _ _ _
  exact contract H enc W base args ds gs before hval hW

theorem said : Rows.LinesJoinSaid :=
  OpenClaim.holds_of_cond 6 Try.f6 rfl rfl rfl rfl rfl rfl rfl ⟨rfl, rfl, rfl, rfl, rfl⟩ rfl rfl rfl rfl rfl (by kernel_rfl) Try.func6 (by kernel_rfl)
    (of_decide_eq_true (by kernel_rfl)) (by unfold Func.isWrapper; first | (rw [if_pos (by decide +kernel)]; kernel_rfl) | (rw [if_neg (by decide +kernel)]; exact ⟨rfl, rfl⟩))
    (fun os started H enc _ F => by rw [OpenClaim.pre_eq_preRow]; exact lifted os started H enc F)

end Go.Proofs.Ytdmbjhgfiofbhaa.Join
