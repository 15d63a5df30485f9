/- The statement RetextParses: the law returns true for every slice of bytes and either kind, and changes nothing that was there. No condition but what its row lists. -/
import Derived.Test.YtonjnagcdnmcpaaGreatDoorTie
import Derived.Test.YtonjnagcdnmcpaaGreatDoorCards
import Derived.Test.YtonjnagcdnmcpaaGreatDoorMO
set_option linter.unusedVariables false
set_option linter.unusedSimpArgs false
set_option maxRecDepth 100000
namespace Go.Proofs.YtonjnagcdnmcpaaGreatDoor.RParses
open Go.ChangeShapes Go.WideShapes Go.ChangeAt Go.RowKit

set_option maxHeartbeats 16000000 in
theorem core (W : World) (A : Option Addr) (n c : Nat) (l : List UInt8) (hn : n = l.length) (hnc : n ≤ c) (hcm : c ≤ maxLen) (hb : Byt W W.heap.size A l) (x : Bool) (hT : Tab W) (hg : 1 < W.heap.size) (hm : Mx W) :
    Calls Tryz.prog 3 #[.slice A n c, .bool x] W fun e w' => e = .returned (.bool true) ∧ Below W.heap.size W w' := by
  have hAw := Lib.hid (fun (w : World) (hb : Below W.heap.size W w) => awake_rx w (hT.below hb hg) (Nat.lt_of_lt_of_le hg hb.size) (hm.grow hb))
  by_cases hbig : 80 < n
  · clear hn hb hnc hcm hm hT hg
    go_enter Tryz.func3, Tryz.ntmps3
    go_wp2_with (go_at_call 7; refine (hAw.out _ (Below.refl _ _)).mono ?_; rintro e w1 ⟨rfl, hb1⟩)
    go_ret
    exact ⟨rfl, hb1⟩
  have hI := Inp.of hm hn hnc hcm (by omega) hb
  have hrm : RoomK x l := room_short (by omega)
  have hP := Lib.hid (rxparse_any x hI hrm)
  have hQ := Lib.hid (fun w1 (hb1 : Below W.heap.size W w1) => refparse_k x (hI.grow hb1) hrm)
  have hd1 := Lib.hid (fun (ns ms : List Nod) (g q : Nat) (h : FinK x l ns g) (k : FinK x l ms q) => h.det k)
  have hd2 := Lib.hid (fun (ns : List Nod) (g p q : Nat) (h : FinK x l ns g) (k : BadK x l p q) => h.not_bad k)
  have hd3 := Lib.hid (fun (p q p' q' : Nat) (h : BadK x l p q) (k : BadK x l p' q') => h.det k)
  clear hn hb hnc hcm hm hT hg hI hrm
  go_enter Tryz.func3, Tryz.ntmps3
  go_wp2_with (first
    | (go_at_call 8; refine (hP.out).mono ?_; intro e w1 hy; rcases hy with ⟨v1, ns, g, rfl, hfin, hr, ho, hb1⟩ | ⟨p, q, hq, rfl, hbad, hb1⟩
       all_goals first
         | (obtain ⟨A1, c1, rfl, -, hc1, hm1, hN1⟩ := own_nods ho; have hal := (Below.refl w1.heap.size w1).alloc (Nat.le_refl _) (.cells #[.slice A1 ns.length c1, .int .i64 (g : Int)] 26); have h1 := Lib.hid (show StI w1.heap.size (w1.alloc (.cells #[.slice A1 ns.length c1, .int .i64 (g : Int)] 26)) A1 ns.length c1 (g : Int) ns w1.heap.size from ⟨held_new _ _ _, hN1.below hal, hal.size⟩); have hbA := Lib.hid (hb1.trans (hal.mono hb1.size)); replace hfin := Lib.hid hfin; clear hN1 hal ho hb1 hr)
         | (have hal := (Below.refl w1.heap.size w1).alloc (Nat.le_refl _) (.cells #[.slice none 0 0, .int .i64 0] 26); have h1 := Lib.hid (show StI w1.heap.size (w1.alloc (.cells #[.slice none 0 0, .int .i64 0] 26)) none 0 0 0 [] w1.heap.size from ⟨held_new _ _ _, Nods.none_ _ _ _, hal.size⟩); have hbA := Lib.hid (hb1.trans (hal.mono hb1.size)); replace hbad := Lib.hid hbad; clear hal hb1 hq))
    | (go_at_call 9; refine (hQ.out _ hbA.out).mono ?_; intro e w2 hy; rcases hy with ⟨v2, ms, g2, rfl, hfin2, hr2, ho2, hb2⟩ | ⟨p2, q2, hq2, rfl, hbad2, hb2⟩
       all_goals first
         | (exact absurd hbad2 (hd2.out _ _ _ _ hfin.out))
         | (exact absurd hbad.out (hd2.out _ _ _ _ hfin2))
         | (obtain ⟨rfl, rfl⟩ := hd1.out _ _ _ _ hfin.out hfin2; obtain ⟨A2, c2, rfl, -, hc2, hm2, hN2⟩ := own_nods ho2; have hal := (Below.refl w2.heap.size w2).alloc (Nat.le_refl _) (.cells #[.slice A2 ns.length c2, .int .i64 (g : Int)] 26); have h2 := (h1.out.keep hb2).keep hal; obtain ⟨z0, z1⟩ := h2.cells; have hbB := Lib.hid (hbA.out.trans ((hb2.trans (hal.mono hb2.size)).mono hbA.out.size)); have hS := refSame_any A1 A2 ns.length c1 ns.length c2 (g : Int) (g : Int) ns ns _ _ rfl rfl hc1 hc2 hm1 (Nat.le_refl _) (h2.nods.more h2.base) ((hN2.below hal).more hal.size); rw [sameNs_self, decide_eq_true rfl, Bool.and_true] at hS; replace hS := Lib.hid hS; clear hal h2 hN2 ho2 hb2 hr2 hfin2)
         | (obtain ⟨rfl, rfl⟩ := hd3.out _ _ _ _ hbad.out hbad2; have hal := (Below.refl w2.heap.size w2).alloc (Nat.le_refl _) (.cells #[.slice none 0 0, .int .i64 0] 26); have h2 := (h1.out.keep hb2).keep hal; obtain ⟨z0, z1⟩ := h2.cells; have hbB := Lib.hid (hbA.out.trans ((hb2.trans (hal.mono hb2.size)).mono hbA.out.size)); have hS := refSame_any none none 0 0 0 0 0 0 [] [] _ (w2.alloc (.cells #[.slice none 0 0, .int .i64 0] 26)) rfl rfl (Nat.le_refl _) (Nat.le_refl _) (by simp [maxLen]) (Nat.le_refl _) (Nods.none_ _ _ _) (Nods.none_ _ _ _); rw [sameNs_self, decide_eq_true rfl, Bool.and_true] at hS; replace hS := Lib.hid hS; clear hal h2 hb2 hq2 hbad2))
    | (go_at_call 10; refine (hS.out).mono ?_; rintro e w4 ⟨rfl, hb4⟩; have hbD := Lib.hid (hbB.out.trans (hb4.mono hbB.out.size)); clear hb4)
    | (go_at_call 7; refine (hAw.out _ hbD.out).mono ?_; rintro e w6 ⟨rfl, hb6⟩; replace hb6 := Lib.hid (hbD.out.trans (hb6.mono hbD.out.size))))
  all_goals
    go_ret
    exact ⟨rfl, hb6.out⟩
theorem tab_of {W : World} (h : laidMetH Tryz.prog Rows.retextParsesRow.laid W) : Tab W ∧ 1 < W.heap.size := by
  rw [MakeChecks.laidMetH_plain _ _ _ (by kernel_rfl)] at h
  have h3 := h.tail.tail
  have ht : Tab W := Lib.tabIs_of_head (rest := []) gPow0 (by kernel_rfl) Tryz.underlying176 Tryz.underlying39 (by kernel_rfl) (by kernel_rfl) h3
  exact ⟨ht, World.block_lt_of_cell? _ _ (ht.cell gPow0 0 (by decide))⟩

theorem contract (H : Type) (enc : TypeId × Value → H) (W : World) (base : Nat) (args : Array Value) (ds gs : List (DataW H)) (before : List MemPlace)
    (hval : ∀ (j : Nat) t v, Tryz.f3.params[j]? = some t → args[j]? = some v → Value.okWide Tryz.prog W .any base t v)
    (hW : DataW.Whole enc Tryz.prog Tryz.f3.params.toList Rows.retextParsesSpec.vars false W args.toList ds gs before) (hL : laidMetH Tryz.prog Rows.retextParsesRow.laid W) (hsh : W.ShapedOpen Tryz.prog) :
    Calls Tryz.prog 3 args W fun e W' => ∃ v, e = .returned v ∧ Rows.retextParsesSpec.post enc Tryz.prog Tryz.f3 false true false false W args v W' := by
  have hW' := hW
  obtain ⟨p, q, hA, hV, rfl, hfz, hnd⟩ := hW
  rw [Tryz.params3] at hA hval
  obtain ⟨v0, vs0, d0, ds0, p0, q0, hargs, rfl, rfl, h0, r0⟩ := trodAll_cons hA
  obtain ⟨v1, vs1, d1, ds1, p1, q1, rfl, rfl, rfl, h1, r1⟩ := trodAll_cons r0
  obtain ⟨rfl, rfl, rfl⟩ := trodAll_nil r1
  obtain rfl : args = #[v0, v1] := by cases args; simp_all
  obtain ⟨rfl, rfl⟩ := trodVars_none hV
  obtain ⟨A0, n0, c0, l0, rfl, e0, k0, m0, x0⟩ := open_byt Tryz.underlying22 Tryz.underlying5 (by kernel_rfl) (hval 0 22 v0 rfl rfl) h0
  obtain ⟨a1, rfl, rfl, rfl⟩ := open_bool Tryz.underlying4 (hval 1 4 v1 rfl rfl) h1
  obtain ⟨ht, hg⟩ := tab_of hL
  have hmx := max_of hsh
  exact (core W A0 n0 c0 l0 e0 k0 m0 x0 a1 ht hg hmx).mono fun e W' ⟨he, hb⟩ => ⟨_, he, law_post hW' rfl (by kernel_rfl) (by kernel_rfl) rfl hb⟩

theorem laid_met (os : Os) : laidMetH Tryz.prog Rows.retextParsesRow.laid ((World.doorLaid Tryz.prog 4000 os).forCall (fun _ _ => 0) ⟨#[], #[.slice none 0 0, .bool false], []⟩).memory :=
  laidMetH_of_parts3 (fuel := 8) (laidMet_of_run' 8 (by kernel_rfl) (by kernel_rfl)) (by kernel_rfl) (by kernel_rfl)
theorem reads (os : Os) {H : Type} (enc : TypeId × Value → H) : ∃ places, DataW.whole enc Tryz.prog ((World.doorLaid Tryz.prog 4000 os).forCall (fun _ _ => 0) ⟨#[], #[.slice none 0 0, .bool false], []⟩).memory Tryz.f3.params.toList Rows.retextParsesSpec.vars false #[Value.slice none 0 0, .bool false].toList 8 = some ([.nil, .lit (.bool false)], [], places) :=
  ⟨[], by kernel_rfl⟩

set_option maxRecDepth 100000 in
theorem lifted (os : Os) (started : os.Started) (H : Type) (enc : TypeId × Value → H) (F : Stop.Interp) :
    ReturnsInHanded {} Tryz.checked os 3 .any ((OpenSpec.ofChange Rows.retextParsesSpec).preRow enc Tryz.prog Tryz.f3 Rows.retextParsesRow.domain false Rows.retextParsesRow.laid) (((OpenSpec.ofChange Rows.retextParsesSpec).at F).post enc Tryz.prog Tryz.f3 false true false false) := by
  obtain ⟨places, hx⟩ := reads os enc
  refine returnsInHanded_of_row (C := Tryz.checked) (s := (OpenSpec.ofChange Rows.retextParsesSpec)) own started (by kernel_rfl) Tryz.func3
    (witness_row_at (enc := enc) (C := Tryz.checked) false (World.doorLaid Tryz.prog 4000 os) #[.slice none 0 0, .bool false] rfl (by kernel_rfl) (by kernel_rfl) (by kernel_rfl)
      (OpenSpec.preRow_of_cond 8 hx (by kernel_rfl) (fun k hk => by cases hk) (by kernel_rfl) (laid_met os))) ?_
  intro W base args ds gs before hval hW _ _ _ hL hsh _
  exact contract H enc W base args ds gs before hval hW hL hsh

theorem said : Rows.RetextParsesSaid :=
  OpenClaim.holds_of_cond 3 Tryz.f3 rfl rfl rfl rfl rfl rfl rfl ⟨rfl, rfl, rfl, rfl, rfl⟩ rfl rfl rfl rfl rfl (by kernel_rfl) Tryz.func3 (by kernel_rfl)
    (of_decide_eq_true (by kernel_rfl)) (by unfold Func.isWrapper; first | (rw [if_pos (by decide +kernel)]; kernel_rfl) | (rw [if_neg (by decide +kernel)]; exact ⟨rfl, rfl⟩))
    (fun os started H enc _ F => by rw [OpenClaim.pre_eq_preRow]; exact lifted os started H enc F)

theorem plain (f : FuncId) (fn : Func) (hf : Tryz.pinned.checked.prog.funcNamed "palinode/palinodelaw10.RetextParses" = some f) (hfn : Tryz.pinned.checked.prog.funcs[f]? = some fn) :
    false = Tryz.pinned.checked.prog.looks [] ∧ ∀ (j : Nat) t, fn.params[j]? = some t → Tryz.pinned.checked.prog.wantsStandIn t = false := by
  obtain rfl : f = 3 := Option.some.inj ((show Tryz.prog.funcNamed "palinode/palinodelaw10.RetextParses" = some 3 by kernel_rfl).symm.trans hf) |>.symm
  obtain rfl : fn = Tryz.f3 := (Option.some.inj (Tryz.func3.symm.trans hfn)).symm
  refine ⟨by kernel_rfl, fun j t ht => ?_⟩
  rw [Tryz.params3] at ht
  have hm : t ∈ [22, 4] := by simpa using Array.mem_of_getElem? ht
  have hall : ([22, 4].all fun u => !Tryz.prog.wantsStandIn u) = true := by kernel_rfl
  exact (show Tryz.prog.wantsStandIn t = false by simpa using List.all_eq_true.1 hall t hm)

theorem card : Rows.RetextParsesCardSaid :=
  Claim7.holds_tied_plain_at .later [] _ _ _ _ said (fun _ h => by cases h) (by kernel_rfl) (fun _ h => by cases h) retextParses_row_tie rfl ⟨rfl, rfl⟩ (by kernel_rfl) rfl plain (by kernel_rfl)

end Go.Proofs.YtonjnagcdnmcpaaGreatDoor.RParses
