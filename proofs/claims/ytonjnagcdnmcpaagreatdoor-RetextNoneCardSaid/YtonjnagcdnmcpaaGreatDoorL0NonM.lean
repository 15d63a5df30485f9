/- The statement RetextNone: the law returns true for every two slices of bytes, and changes nothing that was there. No condition but what its row lists. -/
import Derived.Test.YtonjnagcdnmcpaaGreatDoorMO
import Derived.Test.YtonjnagcdnmcpaaGreatDoorTie
import Derived.Test.YtonjnagcdnmcpaaGreatDoorCards
set_option linter.unusedVariables false
set_option linter.unusedSimpArgs false
set_option maxRecDepth 100000
namespace Go.Proofs.YtonjnagcdnmcpaaGreatDoor.RNone
open Go.ChangeShapes Go.WideShapes Go.ChangeAt Go.RowKit

theorem u8_inf : (Tryz.prog.info? 5).map (fun i => (i.zero, i.size, i.bytes)) = some (some (.int .u8 0), 1, 1) := by kernel_rfl
theorem own_none (w : World) : (w.alloc (.cells #[] 5)).ownsRow w.heap.size 5 1 (.slice (some ⟨w.heap.size, 0, none⟩) 0 0) 0 (bv []) := World.ownsRow_made w #[] 0 (Nat.le_refl _) (by simp [maxLen]) rfl
theorem add_none {w w3 : World} (hg : (w.alloc (.cells #[] 5)).grownBy w3 (Value.slice (some ⟨w.heap.size, 0, none⟩) 0 0).ownBlock) : Below w.heap.size w w3 :=
  below_append ((Below.refl _ w).alloc (Nat.le_refl _) _) (own_none w) (by simp) hg
def any3 (ns : List Nod) : Bool := ns.any fun n => n.kind == 3
theorem any3_next {ns : List Nod} {k : Nat} (h : k < ns.length) : any3 (ns.take (k + 1)) = (any3 (ns.take k) || ((ns[k]'h).kind == 3)) := by
  unfold any3
  rw [List.take_succ_eq_append_getElem h, List.any_append]
  simp
/-- What Parse answers. -/
def PN (w : World) (l : List UInt8) (e : Ending) (w' : World) : Prop :=
  ∃ (A : Option Addr) (N c : Nat) (g p q : Int) (ns : List Nod), e = .returned (.tuple #[.agg #[.slice A N c, .int .i64 g], .int .i64 p, .int .i64 q]) ∧ N = ns.length ∧ N ≤ c ∧ c ≤ maxLen ∧ Nods w' w'.heap.size A ns ∧ Below w.heap.size w w' ∧
    (((q != 0) = false ∧ N ≤ 249 ∧ HasT true ns g) ∨ (q != 0) = true)
theorem parse_pn {A : Option Addr} {n c : Nat} {l : List UInt8} {w : World} (h : Inp w A n c l) (hs : n ≤ 100) : Calls Tryz.prog 9 #[.slice A n c, .bool true] w (PN w l) := by
  refine (refparse_k true h (room_short (by have := h.1; omega))).mono fun e w' hy => ?_
  rcases hy with ⟨v, ns, g, rfl, h1, h2, h3, h4⟩ | ⟨p, q, h0, rfl, h2, h3⟩
  · obtain ⟨A', c', rfl, -, k1, k2, k3⟩ := own_nods h3
    exact ⟨A', _, c', _, _, _, ns, rfl, rfl, k1, k2, k3, h4, .inl ⟨rfl, by have := h1.many; have := h.1; omega, h1.hasT h2⟩⟩
  · exact ⟨none, 0, 0, 0, _, _, [], rfl, rfl, Nat.le_refl _, by simp [maxLen], Nods.none_ _ _ _, h3, .inr (by rw [bne_iff_ne]; omega)⟩
/-- What lies in memory while the nodes are looked at. -/
structure StN (W w : World) (R : Nat) (A : Option Addr) (N c : Nat) (g : Int) (ns : List Nod) (B : Nat) : Prop where
  re : StI R w A N c g ns B
  be : Below W.heap.size W w
def RelN (W : World) (R : Nat) (A : Option Addr) (N c : Nat) (g : Int) (ns : List Nod) (B : Nat) (b i : Value) (wr : World) : Prop :=
  ∃ k : Nat, k ≤ N ∧ i = .int .i64 (k : Nat) ∧ b = .bool (any3 (ns.take k)) ∧ StN W wr R A N c g ns B
theorem RelN.mk {W : World} {R : Nat} {A : Option Addr} {N c : Nat} {g : Int} {ns : List Nod} {B : Nat} {b i : Value} {wr : World} (h : ∃ k : Nat, k ≤ N ∧ i = .int .i64 (k : Nat) ∧ b = .bool (any3 (ns.take k)) ∧ StN W wr R A N c g ns B) : RelN W R A N c g ns B b i wr := h

set_option maxHeartbeats 16000000 in
theorem core (W : World) (A : Option Addr) (n c : Nat) (l : List UInt8) (hn : n = l.length) (hnc : n ≤ c) (hcm : c ≤ maxLen) (hb : Byt W W.heap.size A l) (B : Option Addr) (m d : Nat) (l2 : List UInt8) (hn2 : m = l2.length) (hnc2 : m ≤ d) (hcm2 : d ≤ maxLen) (hb2 : Byt W W.heap.size B l2) (hT : Tab W) (hg : 1 < W.heap.size) (hm : Mx W) :
    Calls Tryz.prog 6 #[.slice A n c, .slice B m d] W fun e w' => e = .returned (.bool true) ∧ Below W.heap.size W w' := by
  have hAw := Lib.hid (fun (w : World) (hb : Below W.heap.size W w) => awake_rx w (hT.below hb hg) (Nat.lt_of_lt_of_le hg hb.size) (hm.grow hb))
  by_cases hbig : 40 < n ∨ (¬ 40 < n ∧ 40 < m)
  · clear hn hb hnc hcm hm hn2 hb2 hnc2 hcm2 hT hg
    rcases hbig with h1 | ⟨h1, h2⟩
    all_goals
      go_enter Tryz.func6, Tryz.ntmps6
      go_wp2_with (go_at_call 7; refine (hAw.out _ (Below.refl _ _)).mono ?_; rintro e w1 ⟨rfl, hb1⟩)
      go_ret
      exact ⟨rfl, hb1⟩
  have hq1 : ¬ 40 < n := by omega
  have hq2 : ¬ 40 < m := by omega
  clear hbig
  have hTx := Lib.hid (fun (x : Bool) (w : World) (hbw : Below W.heap.size W w) (R : Nat) (A1 : Option Addr) (N c1 : Nat) (g : Int) (ns : List Nod) (B1 : Nat) (h : StI R w A1 N c1 g ns B1) (h0 : N = ns.length) (h1 : N ≤ c1) (h2 : c1 ≤ maxLen) (h3 : N ≤ 249) => rtext_any x A1 N c1 ns g B1 w h0 h1 h2 h.base h.nods (by omega) (hT.below hbw hg) (Nat.lt_of_lt_of_le hg hbw.size) (hm.grow hbw))
  have hm' := Lib.hid hm
  obtain ⟨i0, hi, hz0, hi1, hi2⟩ : ∃ i0, Tryz.prog.info? 5 = some i0 ∧ i0.zero = some (.int .u8 0) ∧ i0.size = 1 ∧ i0.bytes = 1 := by
    obtain ⟨i0, h1, h2⟩ := Option.map_eq_some_iff.1 u8_inf
    simp at h2
    exact ⟨i0, h1, h2.1, h2.2.1, h2.2.2⟩
  have hJ1 := Lib.hid hi1
  have hJ2 := Lib.hid hi2
  have hSrc := Lib.hid (fun w2 (h : Below W.heap.size W w2) => (hb.below h).vals.src)
  have hSrc2 := Lib.hid (fun w2 (h : Below W.heap.size W w2) => (hb2.below h).vals.src)
  have hbl : Hid ((bv l).length = n) := Lib.hid (by rw [bv_length]; exact hn.symm)
  have hbl2 : Hid ((bv l2).length = m) := Lib.hid (by rw [bv_length]; exact hn2.symm)
  have hb0 := Lib.hid ((Below.refl W.heap.size W).alloc (Nat.le_refl _) (.cells #[] 5))
  have hsA : True := trivial
  unfold maxLen at hcm hcm2
  clear hn hb hm hn2 hb2 hi1 hi2 hT hg
  go_enter Tryz.func6, Tryz.ntmps6
  go_wp2_with (first
    | (at_builtin; have _h := hsA; refine wpList_append_at rfl _ _ 22 rfl W.heap.size 5 i0 (.int .u8 0) 1 1 Tryz.underlying22 hi hz0 hJ1.out hJ2.out rfl (by decide) (.slice (some ⟨W.heap.size, 0, none⟩) 0 0) 0 (bv []) (by rfl) (own_none W) A n c (bv l) rfl (by rw [Nat.mul_one]; exact hbl.out) (hSrc.out _ hb0.out) (bv_one _) (by unfold maxLen; omega) (by omega) (by simp) ?_; intro v3 w3 hown hg _; have hBx := Lib.hid (add_none (w := W) hg); have hOx := Lib.hid (show w3.ownsRow W.heap.size 5 1 v3 n (bv l) from by rw [Nat.zero_add] at hown; exact hown); clear hown hg hsA; have hsB : True := trivial)
    | (at_builtin; have _h := hsB; refine wpList_append_at rfl _ _ 22 rfl W.heap.size 5 i0 (.int .u8 0) 1 1 Tryz.underlying22 hi hz0 hJ1.out hJ2.out rfl (by decide) v3 n (bv l) rfl (hOx.out.alloc _) (some ⟨w3.heap.size, 0, none⟩) 1 1 [.int .u8 124] rfl rfl (src_new w3 [.int .u8 124] 5) (by simp [Value.oneCell']) (by unfold maxLen; omega) (by omega) (by have := hBx.out.size; simp at this ⊢; omega) ?_; intro v4 w4 hown hg _; have hBy := Lib.hid (below_append (hBx.out.alloc hBx.out.size (.cells #[.int .u8 124] 5)) (hOx.out.alloc _) (by have := hBx.out.size; simp at this ⊢; omega) hg); have hOy := Lib.hid hown; clear hown hg hsB; have hsC : True := trivial)
    | (at_builtin; have _h := hsC; refine wpList_append_at rfl _ _ 22 rfl W.heap.size 5 i0 (.int .u8 0) 1 1 Tryz.underlying22 hi hz0 hJ1.out hJ2.out rfl (by decide) v4 (n + 1) (bv l ++ [.int .u8 124]) rfl hOy.out B m d (bv l2) rfl (by rw [Nat.mul_one]; exact hbl2.out) (hSrc2.out _ hBy.out) (bv_one _) (by unfold maxLen; omega) (by omega) hBy.out.size ?_; intro v5 w5 hown hg _; have hBz := Lib.hid (below_append hBy.out hOy.out hBy.out.size hg); rw [show bv l ++ [Value.int .u8 124] ++ bv l2 = bv (l ++ 124 :: l2) from by rw [bv_append, List.append_assoc]; rfl] at hown; obtain ⟨A5, c5, rfl, e6, e7, e8, e9⟩ := own_byt hown; have hI5 := Lib.hid (parse_pn (Inp.of (hm'.out.grow hBz.out) e6 e7 e8 (by omega) e9) (by omega)); clear hown hg e6 e7 e8 e9 hsC)
    | (go_at_call 9; refine (hI5.out).mono ?_; intro e w7 hy; obtain ⟨A7, N, c7, g, p, q, ns, rfl, hN, hNc, hcm7, hNd, hb7, hcase⟩ := hy; have hal := (Below.refl w7.heap.size w7).alloc (Nat.le_refl _) (.cells #[.slice A7 N c7, .int .i64 g] 26); have hS := Lib.hid (show StN W (w7.alloc (.cells #[.slice A7 N c7, .int .i64 g] 26)) w7.heap.size A7 N c7 g ns w7.heap.size from ⟨⟨held_new _ _ _, hNd.below hal, hal.size⟩, (hBz.out.trans (hb7.mono hBz.out.size)).trans (hal.mono (hBz.out.trans (hb7.mono hBz.out.size)).size)⟩); replace hN := Lib.hid hN; replace hcase := Lib.hid hcase; replace hcm7 := Lib.hid hcm7; clear hNd hb7 hal hI5))
  clear hSrc hSrc2 hbl hbl2 hBx hOx hBy hOy hBz hb0 hi hz0 hJ1 hJ2
  generalize (w7.alloc (.cells #[.slice A7 N c7, .int .i64 g] 26)) = w8 at *
  generalize w7.heap.size = R at *
  go_loopw [8, 9] (fun b i wr => RelN W R A7 N c7 g ns R b i wr) (fun _ i _ => N - (intOf i).toNat)
  case atStart => exact RelN.mk ⟨0, Nat.zero_le _, rfl, rfl, hS.out⟩
  case round =>
    rename World => w9
    clear hS
    obtain ⟨k, hk, rfl, rfl, hst⟩ := hrel
    obtain ⟨y0, y1⟩ := hst.re.cells
    by_cases hlt : k < N
    · have hkl : k < ns.length := by have := hN.out; omega
      obtain ⟨ad, hA, -, hc⟩ := hst.re.nods k hkl
      subst hA
      have hc0 := hc 0 _ rfl
      rw [Nat.add_zero] at hc0
      have hnx := Lib.hid (any3_next hkl)
      generalize ns[k]'hkl = nd at *
      obtain ⟨K, hK⟩ : ∃ K, nd.kind = K := ⟨_, rfl⟩
      replace hc0 : w9.cell? (ad.add (k * 10)) = some (.int .i64 K) := by rw [← hK]; exact hc0
      rw [hK] at hnx
      replace hst := Lib.hid hst
      clear hc hK
      generalize any3 (ns.take k) = b at *
      have gk1 : ¬ N ≤ k := by omega
      have hkw : IntKind.i64.wrap ((k : Int) + 1) = (k : Int) + 1 := IntWalk.i64_in _ (by
        have h1 := hcm7.out
        unfold maxLen at h1
        omega)
      have gd1 : decide (N ≤ k) = false := decide_eq_false gk1
      cases b with
      | true =>
        rw [Bool.true_or] at hnx
        go_wp2
        go_roundw
        case rel => exact RelN.mk ⟨k + 1, hlt, by go_num, by rw [hnx.out], hst.out⟩
        case measure => simp [intOf]; omega
      | false =>
        rw [Bool.false_or] at hnx
        cases hb3 : (K == 3) with
        | true =>
          rw [hb3] at hnx
          go_wp2
          go_roundw
          case rel => exact RelN.mk ⟨k + 1, hlt, by go_num, by rw [hnx.out], hst.out⟩
          case measure => simp [intOf]; omega
        | false =>
          rw [hb3] at hnx
          go_wp2
          go_roundw
          case rel => exact RelN.mk ⟨k + 1, hlt, by go_num, by rw [hnx.out], hst.out⟩
          case measure => simp [intOf]; omega
    · obtain rfl : k = N := by omega
      have hall : any3 (ns.take k) = any3 ns := by rw [hN.out, List.take_length]
      rw [hall]
      have hno := Lib.hid (fun (h : any3 ns = true) (hh : HasT false ns g) => (by
        unfold any3 at h
        obtain ⟨nd, h1, h2⟩ := List.any_eq_true.1 h
        exact hh.no3 nd h1 (by simpa using h2) : False))
      have hcs := hcase.out
      replace hst := Lib.hid hst
      clear hall
      generalize hb0 : any3 ns = b at *
      rcases hcs with ⟨hq0, hN9, hh⟩ | hq0
      · cases b with
        | false =>
          clear hb0 hno hh
          go_wp2_with (go_at_call 7; refine (hAw.out _ hst.out.be).mono ?_; rintro e w10 ⟨rfl, hb10⟩; replace hb10 := Lib.hid (hst.out.be.trans (hb10.mono hst.out.be.size)))
          go_ret
          exact ⟨rfl, hb10.out⟩
        | true =>
          have hno' := Lib.hid (hno.out rfl)
          have hT0 := Lib.hid (fun (w : World) (h : StN W w R A7 k c7 g ns R) => hTx.out false w h.be R A7 k c7 g ns R h.re hN.out hNc hcm7.out hN9)
          have hT1 := Lib.hid (fun (w : World) (h : StN W w R A7 k c7 g ns R) => hTx.out true w h.be R A7 k c7 g ns R h.re hN.out hNc hcm7.out hN9)
          replace hh := Lib.hid hh
          clear hb0 hno hN9 hTx
          go_wp2_with (first
            | (go_at_call_of 11 (Value.bool false); refine (hT0.out _ hst.out).mono ?_; intro e w10 hy; rcases hy with ⟨v, -, hx, -, -⟩ | ⟨rfl, -, hb10⟩
               all_goals first
                 | (exact absurd hx hno'.out)
                 | (have hs10 := Lib.hid (show StN W w10 R A7 k c7 g ns R from ⟨hst.out.re.keep hb10, hst.out.be.trans (hb10.mono hst.out.be.size)⟩); obtain ⟨z0, z1⟩ := hs10.out.re.cells; clear hb10))
            | (go_at_call 11; refine (hT1.out _ hs10.out).mono ?_; intro e w11 hy; rcases hy with ⟨v, rfl, -, hv, hb11⟩ | ⟨-, hx, -⟩
               all_goals first
                 | (exact absurd hh.out hx)
                 | (obtain ⟨Av, cv, rfl, -, -, -⟩ := hv; have hb12 := Lib.hid (hs10.out.be.trans (hb11.mono hs10.out.be.size)); clear hb11))
            | (go_at_call 7; refine (hAw.out _ hb12.out).mono ?_; rintro e w13 ⟨rfl, hb13⟩; replace hb13 := Lib.hid (hb12.out.trans (hb13.mono hb12.out.size))))
          go_ret
          exact ⟨rfl, hb13.out⟩
      · clear hb0 hno
        go_wp2_with (go_at_call 7; refine (hAw.out _ hst.out.be).mono ?_; rintro e w10 ⟨rfl, hb10⟩; replace hb10 := Lib.hid (hst.out.be.trans (hb10.mono hst.out.be.size)))
        go_ret
        exact ⟨rfl, hb10.out⟩
theorem tab_of {W : World} (h : laidMetH Tryz.prog Rows.retextNoneRow.laid W) : Tab W ∧ 1 < W.heap.size := by
  rw [MakeChecks.laidMetH_plain _ _ _ (by kernel_rfl)] at h
  have h3 := h.tail.tail
  have ht : Tab W := Lib.tabIs_of_head (rest := []) gPow0 (by kernel_rfl) Tryz.underlying176 Tryz.underlying39 (by kernel_rfl) (by kernel_rfl) h3
  exact ⟨ht, World.block_lt_of_cell? _ _ (ht.cell gPow0 0 (by decide))⟩

theorem contract (H : Type) (enc : TypeId × Value → H) (W : World) (base : Nat) (args : Array Value) (ds gs : List (DataW H)) (before : List MemPlace)
    (hval : ∀ (j : Nat) t v, Tryz.f6.params[j]? = some t → args[j]? = some v → Value.okWide Tryz.prog W .any base t v)
    (hW : DataW.Whole enc Tryz.prog Tryz.f6.params.toList Rows.retextNoneSpec.vars false W args.toList ds gs before) (hL : laidMetH Tryz.prog Rows.retextNoneRow.laid W) (hsh : W.ShapedOpen Tryz.prog) :
    Calls Tryz.prog 6 args W fun e W' => ∃ v, e = .returned v ∧ Rows.retextNoneSpec.post enc Tryz.prog Tryz.f6 false true false false W args v W' := by
  have hW' := hW
  obtain ⟨p, q, hA, hV, rfl, hfz, hnd⟩ := hW
  rw [Tryz.params6] at hA hval
  obtain ⟨v0, vs0, d0, ds0, p0, q0, hargs, rfl, rfl, h0, r0⟩ := trodAll_cons hA
  obtain ⟨v1, vs1, d1, ds1, p1, q1, rfl, rfl, rfl, h1, r1⟩ := trodAll_cons r0
  obtain ⟨rfl, rfl, rfl⟩ := trodAll_nil r1
  obtain rfl : args = #[v0, v1] := by cases args; simp_all
  obtain ⟨rfl, rfl⟩ := trodVars_none hV
  obtain ⟨A0, n0, c0, l0, rfl, e0, k0, m0, x0⟩ := open_byt Tryz.underlying22 Tryz.underlying5 (by kernel_rfl) (hval 0 22 v0 rfl rfl) h0
  obtain ⟨A1, n1, c1, l1, rfl, e1, k1, m1, x1⟩ := open_byt Tryz.underlying22 Tryz.underlying5 (by kernel_rfl) (hval 1 22 v1 rfl rfl) h1
  obtain ⟨ht, hg⟩ := tab_of hL
  have hmx := max_of hsh
  exact (core W A0 n0 c0 l0 e0 k0 m0 x0 A1 n1 c1 l1 e1 k1 m1 x1 ht hg hmx).mono fun e W' ⟨he, hb⟩ => ⟨_, he, law_post hW' rfl (by kernel_rfl) (by kernel_rfl) rfl hb⟩

theorem laid_met (os : Os) : laidMetH Tryz.prog Rows.retextNoneRow.laid ((World.doorLaid Tryz.prog 4000 os).forCall (fun _ _ => 0) ⟨#[], #[.slice none 0 0, .slice none 0 0], []⟩).memory :=
  laidMetH_of_parts3 (fuel := 8) (laidMet_of_run' 8 (by kernel_rfl) (by kernel_rfl)) (by kernel_rfl) (by kernel_rfl)
theorem reads (os : Os) {H : Type} (enc : TypeId × Value → H) : ∃ places, DataW.whole enc Tryz.prog ((World.doorLaid Tryz.prog 4000 os).forCall (fun _ _ => 0) ⟨#[], #[.slice none 0 0, .slice none 0 0], []⟩).memory Tryz.f6.params.toList Rows.retextNoneSpec.vars false #[Value.slice none 0 0, .slice none 0 0].toList 8 = some ([.nil, .nil], [], places) :=
  ⟨[], by kernel_rfl⟩

set_option maxRecDepth 100000 in
theorem lifted (os : Os) (started : os.Started) (H : Type) (enc : TypeId × Value → H) (F : Stop.Interp) :
    ReturnsInHanded {} Tryz.checked os 6 .any ((OpenSpec.ofChange Rows.retextNoneSpec).preRow enc Tryz.prog Tryz.f6 Rows.retextNoneRow.domain false Rows.retextNoneRow.laid) (((OpenSpec.ofChange Rows.retextNoneSpec).at F).post enc Tryz.prog Tryz.f6 false true false false) := by
  obtain ⟨places, hx⟩ := reads os enc
  refine returnsInHanded_of_row (C := Tryz.checked) (s := (OpenSpec.ofChange Rows.retextNoneSpec)) own started (by kernel_rfl) Tryz.func6
    (witness_row_at (enc := enc) (C := Tryz.checked) false (World.doorLaid Tryz.prog 4000 os) #[.slice none 0 0, .slice none 0 0] rfl (by kernel_rfl) (by kernel_rfl) (by kernel_rfl)
      (OpenSpec.preRow_of_cond 8 hx (by kernel_rfl) (fun k hk => by cases hk) (by kernel_rfl) (laid_met os))) ?_
  intro W base args ds gs before hval hW _ _ _ hL hsh _
  exact contract H enc W base args ds gs before hval hW hL hsh

theorem said : Rows.RetextNoneSaid :=
  OpenClaim.holds_of_cond 6 Tryz.f6 rfl rfl rfl rfl rfl rfl rfl ⟨rfl, rfl, rfl, rfl, rfl⟩ rfl rfl rfl rfl rfl (by kernel_rfl) Tryz.func6 (by kernel_rfl)
    (of_decide_eq_true (by kernel_rfl)) (by unfold Func.isWrapper; first | (rw [if_pos (by decide +kernel)]; kernel_rfl) | (rw [if_neg (by decide +kernel)]; exact ⟨rfl, rfl⟩))
    (fun os started H enc _ F => by rw [OpenClaim.pre_eq_preRow]; exact lifted os started H enc F)

theorem plain (f : FuncId) (fn : Func) (hf : Tryz.pinned.checked.prog.funcNamed "palinode/palinodelaw10.RetextNone" = some f) (hfn : Tryz.pinned.checked.prog.funcs[f]? = some fn) :
    false = Tryz.pinned.checked.prog.looks [] ∧ ∀ (j : Nat) t, fn.params[j]? = some t → Tryz.pinned.checked.prog.wantsStandIn t = false := by
  obtain rfl : f = 6 := Option.some.inj ((show Tryz.prog.funcNamed "palinode/palinodelaw10.RetextNone" = some 6 by kernel_rfl).symm.trans hf) |>.symm
  obtain rfl : fn = Tryz.f6 := (Option.some.inj (Tryz.func6.symm.trans hfn)).symm
  refine ⟨by kernel_rfl, fun j t ht => ?_⟩
  rw [Tryz.params6] at ht
  have hm : t ∈ [22] := by simpa using Array.mem_of_getElem? ht
  have hall : ([22].all fun u => !Tryz.prog.wantsStandIn u) = true := by kernel_rfl
  exact (show Tryz.prog.wantsStandIn t = false by simpa using List.all_eq_true.1 hall t hm)

theorem card : Rows.RetextNoneCardSaid :=
  Claim7.holds_tied_plain_at .later [] _ _ _ _ said (fun _ h => by cases h) (by kernel_rfl) (fun _ h => by cases h) retextNone_row_tie rfl ⟨rfl, rfl⟩ (by kernel_rfl) rfl plain (by kernel_rfl)

end Go.Proofs.YtonjnagcdnmcpaaGreatDoor.RNone
