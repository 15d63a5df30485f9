/- ShowQuotes. -/
import Derived.Test.YtcjhbpkkkhaaiaaFrame
import Derived.Test.YtcjhbpkkkhaaiaaShwG
import Derived.Test.YtcjhbpkkkhaaiaaShwI
set_option linter.unusedVariables false
namespace Go.Proofs.Ytcjhbpkkkhaaiaa.Quo
open Go.ChangeShapes Go.WideShapes Go.ChangeAt Go.RowKit
open Go.ChangeMaps (open_string shut_string)

/-- The quote of a text as a string. -/
theorem quote_str (l : List UInt8) : ∃ q : ByteArray, q.data.toList = quoteS l ∧ (⟨(quoteS l).toArray⟩ : ByteArray) = q ∧ q.size ≤ 4 * l.length + 2 ∧ ∀ (k : Nat) (h : k < q.size), 32 ≤ q[k].toNat ∧ q[k].toNat ≤ 126 :=
  ⟨⟨(quoteS l).toArray⟩, rfl, rfl, quote_len l, fun k h => quote_seen l _ (List.getElem_mem (l := quoteS l) h)⟩

def KRel (q : ByteArray) (vi : Value) : Prop := ∃ k : Nat, vi = .int .i64 (k : Int) ∧ k ≤ q.size
theorem KRel.mk {q : ByteArray} {vi : Value} (k : Nat) (h1 : vi = .int .i64 (k : Int)) (h2 : k ≤ q.size) : KRel q vi := ⟨k, h1, h2⟩

set_option maxHeartbeats 1000000 in
theorem core (W : World) (A : Option Addr) (n c : Nat) (l : List UInt8) (hn : n = l.length) (hnc : n ≤ c) (hm : c ≤ maxLen) (h : Byt W W.heap.size A l)
    (f : ByteArray) (hf : f.size ≤ maxLen) (r : ByteArray) (hr : r.size ≤ maxLen) :
    Calls Try.prog 4 #[.slice A n c, .string f, .string r] W fun e W' => e = .returned (.bool true) ∧ Below W.heap.size W W' := by
  have hW := Lib.hid awake_any
  unfold maxLen at hf hr
  by_cases hbig : n ≤ 200 ∧ f.size ≤ 20 ∧ r.size ≤ 20
  · obtain ⟨hb1, hb2, hb3⟩ := hbig
    obtain ⟨q, hq, hqe, hql, hqs⟩ := quote_str l
    have hQ := quote_any A n c l W hn hnc (by omega) h
    have hR := fun (w : World) (hb : Below W.heap.size W w) => refQuote_any A n c l w hn hnc (by omega) ((h.below hb).more hb.size)
    rw [hqe] at hQ
    simp only [hqe] at hR
    have hU := fun (w : World) => unquote_any (f ++ q ++ r) (f.size : Int) w (by rw [ByteArray.size_append, ByteArray.size_append]; omega) (by omega)
    have hlist : (f ++ q ++ r).data.toList = f.data.toList ++ (quoteS l ++ r.data.toList) := by rw [str_app, str_app, hq, List.append_assoc]
    have hun := unquote_quote f.data.toList l r.data.toList
    rw [← hlist, len_toList] at hun
    simp only [hun] at hU
    have hqz : (quoteS l).length = q.size := by rw [← hq, len_toList]
    have hU2 := Lib.hid (show ∀ w, Calls Try.prog 11 #[.string (f ++ q ++ r), .int .i64 (f.size : Int)] w fun e w' => ∃ v, e = .returned (.tuple #[v, .int .i64 ((f.size : Int) + (q.size : Int)), .int .i64 0]) ∧ w'.ownsRow w.heap.size 5 1 v l.length (bv l) ∧ Below w.heap.size w w' from fun w => by
      have := hU w
      simp only [unqT, hqz] at this
      rw [show (f.size : Int) + (q.size : Int) = ((f.size + q.size : Nat) : Int) by omega]
      exact this)
    have hS := Lib.hid (fun (A1 : Option Addr) (c1 : Nat) (w : World) (k1 : l.length ≤ c1) (m1 : c1 ≤ maxLen) (B1 : Byt w w.heap.size A1 l) (hb : Below W.heap.size W w) => sameB_any A1 A l.length c1 n c l l w.heap.size w rfl hn k1 hnc m1 B1 ((h.below hb).more hb.size))
    replace hQ := Lib.hid hQ
    replace hR := Lib.hid hR
    have hqb : q.size ≤ 802 := by omega
    replace hqs := Lib.hid hqs
    clear hn h hlist hun hU hqz hq hqe hql
    unfold maxLen at hm
    go_enter Try.func4, Try.ntmps4
    go_wp2_with (first
      | (go_at_call 10; refine (hQ.out).mono ?_; rintro e w1 ⟨rfl, hw1⟩))
    go_loop [8] (fun vi => KRel q vi) (fun vi => q.size - (intOf vi).toNat)
    case atStart => exact KRel.mk 0 rfl (Nat.zero_le _)
    case round =>
      obtain ⟨k, rfl, hk⟩ := hrel
      by_cases hlt : k < q.size
      · obtain ⟨s1, s2⟩ := hqs.out k hlt
        have g1 : decide ((q[k].toNat : Int) < 32) = false := by simp; omega
        have g2 : decide (126 < (q[k].toNat : Int)) = false := by simp; omega
        go_wp2_with fail
        go_round
        case rel => exact KRel.mk (k + 1) (by go_num) (by omega)
        case measure => simp [intOf]; omega
      · obtain rfl : k = q.size := by omega
        go_wp2_with (first
          | (go_at_call 11; refine (hU2.out _).mono ?_; rintro e w2 ⟨v2, rfl, ho2, hw2⟩; obtain ⟨A2, c2, rfl, -, k2, m2, B2⟩ := own_byt ho2
             have hx2 := hw1.trans (hw2.mono hw1.size))
          | (go_at_call 12; refine (hR.out _ hx2).mono ?_; rintro e w3 ⟨rfl, hw3⟩; have hx3 := hx2.trans (hw3.mono hx2.size))
          | (go_at_call 9; refine (hS.out A2 c2 w3 k2 m2 ((B2.below hw3).more hw3.size) hx3).mono ?_; rintro e w4 ⟨he, q4, rfl⟩; rw [beq_self_eq_true] at he; subst he
             have hx4 := below_drewN hx3 q4)
          | (go_at_call 7; refine (hW.out _).mono ?_; rintro e w5 ⟨rfl, hb5⟩))
        trace_state
        go_ret
        exact ⟨rfl, hx4.trans (hb5.mono hx4.size)⟩
  · clear hn h
    by_cases h1 : n ≤ 200
    · by_cases h2 : f.size ≤ 20
      · have h3 : 20 < r.size := by omega
        go_enter Try.func4, Try.ntmps4
        go_wp2_with (first
          | (go_at_call 7; refine (hW.out _).mono ?_; rintro e w5 ⟨rfl, hb5⟩))
        go_ret
        exact ⟨rfl, hb5⟩
      · have h3 : 20 < f.size := by omega
        go_enter Try.func4, Try.ntmps4
        go_wp2_with (first
          | (go_at_call 7; refine (hW.out _).mono ?_; rintro e w5 ⟨rfl, hb5⟩))
        go_ret
        exact ⟨rfl, hb5⟩
    · have h3 : 200 < n := by omega
      unfold maxLen at hm
      go_enter Try.func4, Try.ntmps4
      go_wp2_with (first
        | (go_at_call 7; refine (hW.out _).mono ?_; rintro e w5 ⟨rfl, hb5⟩))
      go_ret
      exact ⟨rfl, hb5⟩
theorem contract (H : Type) (enc : TypeId × Value → H) (W : World) (base : Nat) (args : Array Value) (ds gs : List (DataW H)) (before : List MemPlace)
    (hval : ∀ (j : Nat) t v, Try.f4.params[j]? = some t → args[j]? = some v → Value.okWide Try.prog W .any base t v)
    (hW : DataW.Whole enc Try.prog Try.f4.params.toList Rows.showQuotesSpec.vars false W args.toList ds gs before) :
    Calls Try.prog 4 args W fun e W' => ∃ v, e = .returned v ∧ Rows.showQuotesSpec.post enc Try.prog Try.f4 false true false false W args v W' := by
  have hW' := hW
  obtain ⟨p, q, hA, hV, rfl, hfz, hnd⟩ := hW
  rw [Try.params4] at hA hval
  obtain ⟨v0, vs0, d0, ds0, p0, q0, hargs, rfl, rfl, h0, r0⟩ := trodAll_cons hA
  obtain ⟨v1, vs1, d1, ds1, p1, q1, rfl, rfl, rfl, h1, r1⟩ := trodAll_cons r0
  obtain ⟨v2, vs2, d2, ds2, p2, q2, rfl, rfl, rfl, h2, r2⟩ := trodAll_cons r1
  obtain ⟨rfl, rfl, rfl⟩ := trodAll_nil r2
  obtain rfl : args = #[v0, v1, v2] := by cases args; simp_all
  obtain ⟨rfl, rfl⟩ := trodVars_none hV
  obtain ⟨A0, n0, c0, l0, rfl, e0, k0, m0, x0⟩ := open_byt Try.underlying22 Try.underlying5 (by kernel_rfl) (hval 0 22 v0 rfl rfl) h0
  obtain ⟨a1, rfl, rfl, rfl, w1⟩ := open_string Try.underlying9 (hval 1 9 v1 rfl rfl) h1
  obtain ⟨a2, rfl, rfl, rfl, w2⟩ := open_string Try.underlying9 (hval 2 9 v2 rfl rfl) h2
  exact (core W A0 n0 c0 l0 e0 k0 m0 x0 a1 w1 a2 w2).mono fun e W' ⟨he, hb⟩ => ⟨_, he, law_post hW' rfl (by kernel_rfl) (by kernel_rfl) rfl hb⟩

theorem laid_met (os : Os) : laidMetH Try.prog Rows.showQuotesRow.laid ((World.doorLaid Try.prog 4000 os).forCall (fun _ _ => 0) ⟨#[], #[.slice none 0 0, .string ByteArray.empty, .string ByteArray.empty], []⟩).memory :=
  laidMetH_of_parts3 (fuel := 8) (laidMet_of_run' 8 (by kernel_rfl) (by kernel_rfl)) (by kernel_rfl) (by kernel_rfl)
theorem reads (os : Os) {H : Type} (enc : TypeId × Value → H) : ∃ places, DataW.whole enc Try.prog ((World.doorLaid Try.prog 4000 os).forCall (fun _ _ => 0) ⟨#[], #[.slice none 0 0, .string ByteArray.empty, .string ByteArray.empty], []⟩).memory Try.f4.params.toList Rows.showQuotesSpec.vars false #[Value.slice none 0 0, .string ByteArray.empty, .string ByteArray.empty].toList 8 = some ([.nil, .lit (.string []), .lit (.string [])], [], places) :=
  ⟨[], by kernel_rfl⟩

set_option maxRecDepth 100000 in
theorem lifted (os : Os) (started : os.Started) (H : Type) (enc : TypeId × Value → H) (F : Stop.Interp) :
    ReturnsInHanded {} Try.checked os 4 .any ((OpenSpec.ofChange Rows.showQuotesSpec).preRow enc Try.prog Try.f4 Rows.showQuotesRow.domain false Rows.showQuotesRow.laid) (((OpenSpec.ofChange Rows.showQuotesSpec).at F).post enc Try.prog Try.f4 false true false false) := by
  obtain ⟨places, hx⟩ := reads os enc
  refine returnsInHanded_of_row (C := Try.checked) (s := (OpenSpec.ofChange Rows.showQuotesSpec)) own started (by kernel_rfl) Try.func4
    (witness_row_at (enc := enc) (C := Try.checked) false (World.doorLaid Try.prog 4000 os) #[.slice none 0 0, .string ByteArray.empty, .string ByteArray.empty] rfl (by kernel_rfl) (by kernel_rfl) (by kernel_rfl)
      (OpenSpec.preRow_of_cond 8 hx (by kernel_rfl) (fun k hk => by cases hk) (by kernel_rfl) (laid_met os))) ?_
  intro W base args ds gs before hval hW _ _ _ _ _ _
  exact contract H enc W base args ds gs before hval hW

theorem said : Rows.ShowQuotesSaid :=
  OpenClaim.holds_of_cond 4 Try.f4 rfl rfl rfl rfl rfl rfl rfl ⟨rfl, rfl, rfl, rfl, rfl⟩ rfl rfl rfl rfl rfl (by kernel_rfl) Try.func4 (by kernel_rfl)
    (of_decide_eq_true (by kernel_rfl)) (by unfold Func.isWrapper; first | (rw [if_pos (by decide +kernel)]; kernel_rfl) | (rw [if_neg (by decide +kernel)]; exact ⟨rfl, rfl⟩))
    (fun os started H enc _ F => by rw [OpenClaim.pre_eq_preRow]; exact lifted os started H enc F)

end Go.Proofs.Ytcjhbpkkkhaaiaa.Quo
