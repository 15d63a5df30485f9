/- The statement RetextBack: the law returns true for every slice of bytes and either kind, and changes nothing that was there. No condition but what its row lists. -/
import Derived.Test.YtonjnagcdnmcpaaGreatDoorTie
import Derived.Test.YtonjnagcdnmcpaaGreatDoorCards
import Derived.Test.YtonjnagcdnmcpaaGreatDoorMO
set_option linter.unusedVariables false
set_option linter.unusedSimpArgs false
set_option maxRecDepth 100000
namespace Go.Proofs.YtonjnagcdnmcpaaGreatDoor.RBack
open Go.ChangeShapes Go.WideShapes Go.ChangeAt Go.RowKit

/-- What Text answers of what was parsed. -/
theorem text_fin {x : Bool} {l : List UInt8} {ns : List Nod} {g : Nat} (hf : FinK x l ns g) (hr : rightN ns (g : Int) = true) (hl : ns.length ≤ 249) {R B : Nat} {w : World} {A : Option Addr} {c : Nat} (h : StI R w A ns.length c (g : Int) ns B) (hc : ns.length ≤ c) (hm : c ≤ maxLen) (hT : Tab w) (hg : 1 < w.heap.size) (hx : Mx w) :
    Calls Tryz.prog 11 #[.agg #[.slice A ns.length c, .int .i64 (g : Int)], .bool x] w fun e w' => ∃ A2 c2, e = .returned (.tuple #[.slice (some A2) (wrT x ns).length c2, .bool true]) ∧ TextAt w' (.slice (some A2) (wrT x ns).length c2) (wrT x ns) ∧ Below w.heap.size w w' := by
  refine (rtext_any x A ns.length c ns (g : Int) B w rfl hc hm h.base h.nods hl hT hg hx).mono fun e w' hy => ?_
  rcases hy with ⟨v, rfl, -, h2, h3⟩ | ⟨-, h2, -⟩
  · obtain ⟨A, c, rfl, k1, k2, k3⟩ := h2
    exact ⟨A, c, rfl, ⟨A, c, rfl, k1, k2, k3⟩, h3⟩
  · exact absurd (hf.hasT hr) h2

set_option maxHeartbeats 16000000 in
theorem core (W : World) (A : Option Addr) (n c : Nat) (l : List UInt8) (hn : n = l.length) (hnc : n ≤ c) (hcm : c ≤ maxLen) (hb : Byt W W.heap.size A l) (x : Bool) (hT : Tab W) (hg : 1 < W.heap.size) (hm : Mx W) :
    Calls Tryz.prog 4 #[.slice A n c, .bool x] W fun e w' => e = .returned (.bool true) ∧ Below W.heap.size W w' := by
  have hAw := Lib.hid (fun (w : World) (hb : Below W.heap.size W w) => awake_rx w (hT.below hb hg) (Nat.lt_of_lt_of_le hg hb.size) (hm.grow hb))
  by_cases hbig : 80 < n
  · clear hn hb hnc hcm hm hT hg
    go_enter Tryz.func4, Tryz.ntmps4
    go_wp2_with (go_at_call 7; refine (hAw.out _ (Below.refl _ _)).mono ?_; rintro e w1 ⟨rfl, hb1⟩)
    go_ret
    exact ⟨rfl, hb1⟩
  have hI := Inp.of hm hn hnc hcm (by omega) hb
  have hP := Lib.hid (refparse_k x hI (room_short (by omega)))
  have hl80 : l.length ≤ 80 := by omega
  have hTx := Lib.hid (fun (ns : List Nod) (g : Nat) (hf : FinK x l ns g) (hr : rightN ns (g : Int) = true) (R B : Nat) (w : World) (A1 : Option Addr) (c1 : Nat) (hbw : Below W.heap.size W w) (h : StI R w A1 ns.length c1 (g : Int) ns B) (h1 : ns.length ≤ c1) (h2 : c1 ≤ maxLen) => text_fin hf hr (by have := hf.many; omega) h h1 h2 (hT.below hbw hg) (Nat.lt_of_lt_of_le hg hbw.size) (hm.grow hbw))
  have hIs := Lib.hid (fun (ns : List Nod) (g : Nat) (hf : FinK x l ns g) (hr : rightN ns (g : Int) = true) (R B : Nat) (w : World) (A1 : Option Addr) (c1 : Nat) (hbw : Below W.heap.size W w) (h : StI R w A1 ns.length c1 (g : Int) ns B) (h1 : ns.length ≤ c1) (h2 : c1 ≤ maxLen) (A2 : Addr) (c2 : Nat) (ht : TextAt w (.slice (some A2) (wrT x ns).length c2) (wrT x ns)) => is_text x (hf.hasT hr) ht (by have := hf.many; omega) (hm.grow hbw) A1 ns.length c1 B rfl h1 h2 h.base h.nods)
  clear hn hb hnc hcm hm hT hg hI hl80
  go_enter Tryz.func4, Tryz.ntmps4
  go_wp2_with (first
    | (go_at_call 9; refine (hP.out).mono ?_; intro e w1 hy; rcases hy with ⟨v1, ns, g, rfl, hfin, hr, ho, hb1⟩ | ⟨p, q, hq, rfl, hbad, hb1⟩
       all_goals first
         | (obtain ⟨A1, c1, rfl, -, hc1, hm1, hN1⟩ := own_nods ho; have hal := (Below.refl w1.heap.size w1).alloc (Nat.le_refl _) (.cells #[.slice A1 ns.length c1, .int .i64 (g : Int)] 26); have h1 := Lib.hid (show StI w1.heap.size (w1.alloc (.cells #[.slice A1 ns.length c1, .int .i64 (g : Int)] 26)) A1 ns.length c1 (g : Int) ns w1.heap.size from ⟨held_new _ _ _, hN1.below hal, hal.size⟩); have hbA := Lib.hid (hb1.trans (hal.mono hb1.size)); replace hfin := Lib.hid hfin; replace hr := Lib.hid hr; replace hc1 := Lib.hid hc1; replace hm1 := Lib.hid hm1; clear hN1 hal ho hb1)
         | (have hbD := Lib.hid (hb1.alloc hb1.size (.cells #[.slice none 0 0, .int .i64 0] 26)); have hd : ((q : Int) != 0) = true := by rw [bne_iff_ne]; omega
            clear hb1 hq hbad))
    | (go_at_call 11; refine (hTx.out ns g hfin.out hr.out _ _ _ A1 c1 hbA.out h1.out hc1.out hm1.out).mono ?_; rintro e w2 ⟨A2, c2, rfl, htx, hb2⟩; have h2 := Lib.hid (h1.out.keep hb2); obtain ⟨z0, z1⟩ := h2.out.cells; have hbB := Lib.hid (hbA.out.trans (hb2.mono hbA.out.size)); replace htx := Lib.hid htx; clear hb2)
    | (go_at_call 12; refine (hIs.out ns g hfin.out hr.out _ _ _ A1 c1 hbB.out h2.out hc1.out hm1.out A2 c2 htx.out).mono ?_; rintro e w4 ⟨rfl, hb4⟩; have hbD := Lib.hid (hbB.out.trans (hb4.mono hbB.out.size)); clear hb4)
    | (go_at_call 7; refine (hAw.out _ hbD.out).mono ?_; rintro e w6 ⟨rfl, hb6⟩; replace hb6 := Lib.hid (hbD.out.trans (hb6.mono hbD.out.size))))
  all_goals
    go_ret
    exact ⟨rfl, hb6.out⟩
theorem tab_of {W : World} (h : laidMetH Tryz.prog Rows.retextBackRow.laid W) : Tab W ∧ 1 < W.heap.size := by
  rw [MakeChecks.laidMetH_plain _ _ _ (by kernel_rfl)] at h
  have h3 := h.tail.tail
  have ht : Tab W := Lib.tabIs_of_head (rest := []) gPow0 (by kernel_rfl) Tryz.underlying176 Tryz.underlying39 (by kernel_rfl) (by kernel_rfl) h3
  exact ⟨ht, World.block_lt_of_cell? _ _ (ht.cell gPow0 0 (by decide))⟩

theorem contract (H : Type) (enc : TypeId × Value → H) (W : World) (base : Nat) (args : Array Value) (ds gs : List (DataW H)) (before : List MemPlace)
    (hval : ∀ (j : Nat) t v, Tryz.f4.params[j]? = some t → args[j]? = some v → Value.okWide Tryz.prog W .any base t v)
    (hW : DataW.Whole enc Tryz.prog Tryz.f4.params.toList Rows.retextBackSpec.vars false W args.toList ds gs before) (hL : laidMetH Tryz.prog Rows.retextBackRow.laid W) (hsh : W.ShapedOpen Tryz.prog) :
    Calls Tryz.prog 4 args W fun e W' => ∃ v, e = .returned v ∧ Rows.retextBackSpec.post enc Tryz.prog Tryz.f4 false true false false W args v W' := by
  have hW' := hW
  obtain ⟨p, q, hA, hV, rfl, hfz, hnd⟩ := hW
  rw [Tryz.params4] at hA hval
  obtain ⟨v0, vs0, d0, ds0, p0, q0, hargs, rfl, rfl, h0, r0⟩ := trodAll_cons hA
  obtain ⟨v1, vs1, d1, ds1, p1, q1, rfl, rfl, rfl, h1, r1⟩ := trodAll_cons r0
  obtain ⟨rfl, rfl, rfl⟩ := trodAll_nil r1
  obtain rfl : args = #[v0, v1] := by cases args; simp_all
  obtain ⟨rfl, rfl⟩ := trodVars_none hV
  obtain ⟨A0, n0, c0, l0, rfl, e0, k0, m0, x0⟩ := open_byt Tryz.underlying22 Tryz.underlying5 (by kernel_rfl) (hval 0 22 v0 rfl rfl) h0
  obtain ⟨a1, rfl, rfl, rfl⟩ := open_bool Tryz.underlying4 (hval 1 4 v1 rfl rfl) h1
  obtain ⟨ht, hg⟩ := tab_of hL
  have hmx := max_of hsh
  exact (core W A0 n0 c0 l0 e0 k0 m0 x0 a1 ht hg hmx).mono fun e W' ⟨he, hb⟩ => ⟨_, he, law_post hW' rfl (by kernel_rfl) (by kernel_rfl) rfl hb⟩

theorem laid_met (os : Os) : laidMetH Tryz.prog Rows.retextBackRow.laid ((World.doorLaid Tryz.prog 4000 os).forCall (fun _ _ => 0) ⟨#[], #[.slice none 0 0, .bool false], []⟩).memory :=
  laidMetH_of_parts3 (fuel := 8) (laidMet_of_run' 8 (by kernel_rfl) (by kernel_rfl)) (by kernel_rfl) (by kernel_rfl)
theorem reads (os : Os) {H : Type} (enc : TypeId × Value → H) : ∃ places, DataW.whole enc Tryz.prog ((World.doorLaid Tryz.prog 4000 os).forCall (fun _ _ => 0) ⟨#[], #[.slice none 0 0, .bool false], []⟩).memory Tryz.f4.params.toList Rows.retextBackSpec.vars false #[Value.slice none 0 0, .bool false].toList 8 = some ([.nil, .lit (.bool false)], [], places) :=
  ⟨[], by kernel_rfl⟩

set_option maxRecDepth 100000 in
theorem lifted (os : Os) (started : os.Started) (H : Type) (enc : TypeId × Value → H) (F : Stop.Interp) :
    ReturnsInHanded {} Tryz.checked os 4 .any ((OpenSpec.ofChange Rows.retextBackSpec).preRow enc Tryz.prog Tryz.f4 Rows.retextBackRow.domain false Rows.retextBackRow.laid) (((OpenSpec.ofChange Rows.retextBackSpec).at F).post enc Tryz.prog Tryz.f4 false true false false) := by
  obtain ⟨places, hx⟩ := reads os enc
  refine returnsInHanded_of_row (C := Tryz.checked) (s := (OpenSpec.ofChange Rows.retextBackSpec)) own started (by kernel_rfl) Tryz.func4
    (witness_row_at (enc := enc) (C := Tryz.checked) false (World.doorLaid Tryz.prog 4000 os) #[.slice none 0 0, .bool false] rfl (by kernel_rfl) (by kernel_rfl) (by kernel_rfl)
      (OpenSpec.preRow_of_cond 8 hx (by kernel_rfl) (fun k hk => by cases hk) (by kernel_rfl) (laid_met os))) ?_
  intro W base args ds gs before hval hW _ _ _ hL hsh _
  exact contract H enc W base args ds gs before hval hW hL hsh

theorem said : Rows.RetextBackSaid :=
  OpenClaim.holds_of_cond 4 Tryz.f4 rfl rfl rfl rfl rfl rfl rfl ⟨rfl, rfl, rfl, rfl, rfl⟩ rfl rfl rfl rfl rfl (by kernel_rfl) Tryz.func4 (by kernel_rfl)
    (of_decide_eq_true (by kernel_rfl)) (by unfold Func.isWrapper; first | (rw [if_pos (by decide +kernel)]; kernel_rfl) | (rw [if_neg (by decide +kernel)]; exact ⟨rfl, rfl⟩))
    (fun os started H enc _ F => by rw [OpenClaim.pre_eq_preRow]; exact lifted os started H enc F)

theorem plain (f : FuncId) (fn : Func) (hf : Tryz.pinned.checked.prog.funcNamed "palinode/palinodelaw10.RetextBack" = some f) (hfn : Tryz.pinned.checked.prog.funcs[f]? = some fn) :
    false = Tryz.pinned.checked.prog.looks [] ∧ ∀ (j : Nat) t, fn.params[j]? = some t → Tryz.pinned.checked.prog.wantsStandIn t = false := by
  obtain rfl : f = 4 := Option.some.inj ((show Tryz.prog.funcNamed "palinode/palinodelaw10.RetextBack" = some 4 by kernel_rfl).symm.trans hf) |>.symm
  obtain rfl : fn = Tryz.f4 := (Option.some.inj (Tryz.func4.symm.trans hfn)).symm
  refine ⟨by kernel_rfl, fun j t ht => ?_⟩
  rw [Tryz.params4] at ht
  have hm : t ∈ [22, 4] := by simpa using Array.mem_of_getElem? ht
  have hall : ([22, 4].all fun u => !Tryz.prog.wantsStandIn u) = true := by kernel_rfl
  exact (show Tryz.prog.wantsStandIn t = false by simpa using List.all_eq_true.1 hall t hm)

theorem card : Rows.RetextBackCardSaid :=
  Claim7.holds_tied_plain_at .later [] _ _ _ _ said (fun _ h => by cases h) (by kernel_rfl) (fun _ h => by cases h) retextBack_row_tie rfl ⟨rfl, rfl⟩ (by kernel_rfl) rfl plain (by kernel_rfl)

end Go.Proofs.YtonjnagcdnmcpaaGreatDoor.RBack
