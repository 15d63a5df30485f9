/- The statement ErePlain: the law returns true for every slice of bytes, and changes nothing that was there. No condition. -/
import Derived.Test.YtnfbgpjadnlgbaaM01
import Derived.Test.YtnfbgpjadnlgbaaM44
import Derived.Test.YtnfbgpjadnlgbaaM54
set_option linter.unusedVariables false
set_option linter.unusedSimpArgs false
set_option maxRecDepth 100000
namespace Go.Proofs.Ytnfbgpjadnlgbaa.EPlain
open Go.ChangeShapes Go.WideShapes Go.ChangeAt Go.RowKit

/-- A byte that means nothing in either kind. -/
def plainX (c : UInt8) : Prop := c ≠ 92 ∧ c ≠ 91 ∧ c ≠ 42 ∧ c ≠ 36 ∧ c ≠ 94 ∧ c ≠ 43 ∧ c ≠ 63 ∧ c ≠ 123 ∧ c ≠ 40 ∧ c ≠ 41 ∧ c ≠ 124
def leafN (c : UInt8) : Nod := if c = 46 then setN allS else setN (oneF c)
def leafs (l : List UInt8) : List Nod := l.map leafN
theorem leafs_take {l : List UInt8} {i : Nat} (hi : i < l.length) : (leafs l).take (i + 1) = (leafs l).take i ++ [leafN (l[i]'hi)] := by
  unfold leafs
  rw [List.take_succ_eq_append_getElem (by simpa using hi), List.getElem_map]
theorem bg_plain {l : List UInt8} (h : ∀ c ∈ l, plainX c) {x : UInt8} {p : List UInt8} (hx : ¬ plainX x) (i : Nat) : bg (x :: p) (l.drop i) = false := by
  cases hd : l.drop i with
  | nil => rfl
  | cons c r =>
    rw [bg_cons]
    have hc : plainX c := h c (List.mem_of_mem_drop (by rw [hd]; exact List.mem_cons_self))
    have : (x == c) = false := by rw [beq_eq_false_iff_ne]; rintro rfl; exact hx hc
    rw [this]; rfl
theorem np (k : UInt8) (h : k = 92 ∨ k = 91 ∨ k = 42 ∨ k = 36 ∨ k = 94 ∨ k = 43 ∨ k = 63 ∨ k = 123 ∨ k = 40 ∨ k = 41 ∨ k = 124) : ¬ plainX k := by
  unfold plainX
  rintro ⟨h1, h2, h3, h4, h5, h6, h7, h8, h9, h10, h11⟩
  rcases h with h | h | h | h | h | h | h | h | h | h | h
  all_goals (first | exact h1 h | exact h2 h | exact h3 h | exact h4 h | exact h5 h | exact h6 h | exact h7 h | exact h8 h | exact h9 h | exact h10 h | exact h11 h)
theorem plain_steps {l : List UInt8} (h : ∀ c ∈ l, plainX c) (hl : l.length ≤ 400) : ∀ i, i ≤ l.length → Steps l cf0 ⟨.L, i, (leafs l).take i, 0, fun _ => false, lP i, []⟩
  | 0, _ => .one (show step l ⟨.B, 0, [], 0, fun _ => false, [], []⟩ = _ from step_plain (bg_plain h (np 94 (by simp)) 0))
  | i + 1, hi => by
    have hlt : i < l.length := hi
    have hd := List.drop_eq_getElem_cons hlt
    have hc : plainX (l[i]'hlt) := h _ (List.getElem_mem hlt)
    have hlen : ((leafs l).take i).length = i := by simp [leafs]; omega
    refine (plain_steps h hl i (by omega)).trans (.head (c1 := ⟨.P (i : Int), i + 1, (leafs l).take (i + 1), 0, fun _ => false, lP i, []⟩) ?_ (.one ?_))
    · rw [step_atom (inG := false) hlt (fun e => by cases e) rfl, atom_at hd, leafs_take hlt]
      have ha : atomR l i (l[i]'hlt :: l.drop (i + 1)) = .nod (i + 1) (leafN (l[i]'hlt)) := by
        unfold plainX at hc
        simp only [atomR, ofL_one, leafN]
        rw [if_neg hc.1, if_neg hc.2.1]
        by_cases h46 : l[i]'hlt = 46
        · rw [if_pos h46, if_pos h46]
        · rw [if_neg h46, if_neg (fun e => hc.2.2.2.1 e.1), if_neg h46]
      rw [ha]
      simp only [stepA, putS]
      rw [if_pos (by rw [hlen]; omega), hlen]
    · rw [lP_succ]
      exact step_off (bg_plain h (np 42 (by simp)) _) (bg_plain h (np 92 (by simp)) _)
def ctI (i : Nat) : Ct := if i = 0 then .B else .L
theorem nx_plain {l : List UInt8} (h : ∀ c ∈ l, plainX c) {x : UInt8} (hx : ¬ plainX x) (i : Nat) : nx l i ≠ (x.toNat : Int) := fun e => by
  have := (nx_bg l i x).1 e
  rw [bg_plain h hx] at this
  cases this
theorem plain_stepsE {l : List UInt8} (h : ∀ c ∈ l, plainX c) (hl : l.length ≤ 400) : ∀ i, i ≤ l.length → StepsE l ce0 ⟨ctI i, i, (leafs l).take i, 0, fun _ => false, lP i, [], []⟩
  | 0, _ => .refl _
  | i + 1, hi => by
    have hlt : i < l.length := hi
    have hd := List.drop_eq_getElem_cons hlt
    have hc : plainX (l[i]'hlt) := h _ (List.getElem_mem hlt)
    have hlen : ((leafs l).take i).length = i := by simp [leafs]; omega
    refine (plain_stepsE h hl i (by omega)).trans (.head (c1 := ⟨.P (i : Int), i + 1, (leafs l).take (i + 1), 0, fun _ => false, lP i, [], []⟩) ?_ (.one ?_))
    · rw [stepE_pie (inG := false) ⟨hlt, nx_plain h (np 124 (by simp)) i, fun e => by cases e⟩ (by unfold ctI; split <;> simp) rfl, pie_at hd, leafs_take hlt]
      have ha : pieR l i (l[i]'hlt :: l.drop (i + 1)) = .nod (i + 1) (leafN (l[i]'hlt)) := by
        unfold plainX at hc
        obtain ⟨c1, c2, c3, c4, c5, c6, c7, c8, c9, c10, c11⟩ := hc
        simp only [pieR, ofL_one, leafN]
        rw [if_neg (show ¬ repB _ from fun hr => by unfold repB at hr; rcases hr with hr | hr | hr | hr; exact c3 hr; exact c6 hr; exact c7 hr; exact c8 hr), if_neg c10, if_neg c5, if_neg c4, if_neg c9, if_neg c1, if_neg c2]
        by_cases h46 : l[i]'hlt = 46
        · rw [if_pos h46, if_pos h46]
        · rw [if_neg h46, if_neg h46]
      rw [ha]
      simp only [stepPm]
      rw [hlen]
    · rw [lP_succ]
      exact stepE_off (nx_plain h (np 42 (by simp)) _) (nx_plain h (np 43 (by simp)) _) (nx_plain h (np 63 (by simp)) _) (nx_plain h (np 123 (by simp)) _)
/-- The tree of a plain text. -/
theorem plain_end {l : List UInt8} (h : ∀ c ∈ l, plainX c) (hl : l.length ≤ 400) : ∃ ns, Ends l cf0 (.fin ns 0) ∧ EndX l (.fin ns 0) := by
  have h1 := plain_steps h hl l.length (Nat.le_refl _)
  have h2 := plain_stepsE h hl l.length (Nat.le_refl _)
  have htk : (leafs l).take l.length = leafs l := List.take_of_length_le (by simp [leafs])
  rw [htk] at h1 h2
  by_cases h0 : l = []
  · subst h0
    exact ⟨[emptyN], h1.ends (.fin rfl), .inl ⟨rfl, rfl⟩⟩
  · have hpos : 0 < l.length := List.length_pos_iff.2 h0
    have hlP : lP l.length ≠ [] := by
      obtain ⟨j, hj⟩ : ∃ j, l.length = j + 1 := ⟨l.length - 1, by omega⟩
      obtain ⟨r, hr, _⟩ := lP_cons j
      rw [hj, hr]; simp
    have hcs := catS_chn (ns := leafs l) (ps := lP l.length) hlP (by simp [leafs, lP]; omega)
    obtain ⟨x, ns, hch⟩ : ∃ x ns, chn 2 (leafs l) (lP l.length) = (x, ns) := ⟨_, _, rfl⟩
    rw [hch] at hcs
    refine ⟨ns, h1.ends (.fin ?_), .inr ⟨h0, h2.ends (.fin ?_)⟩⟩
    · show stepL l ⟨.L, l.length, leafs l, 0, fun _ => false, lP l.length, []⟩ = _
      simp only [stepL]
      rw [if_pos (Nat.le_refl _), hcs]
    · rw [show ctI l.length = .L from by unfold ctI; rw [if_neg (by omega)]]
      show stepEL l _ = _
      simp only [stepEL]
      rw [if_pos (Nat.le_refl _)]
      simp only [altsE, branE, hch]
      rfl
theorem fin_out {w w' : World} {l : List UInt8} {ns : List Nod} {g : Nat} {e : Ending} (he : Ends l cf0 (.fin ns g)) (h : PRes w l e w') :
    ∃ A cap, e = .returned (.tuple #[.agg #[.slice A ns.length cap, .int .i64 (g : Int)], .int .i64 0, .int .i64 0]) ∧ ns.length ≤ cap ∧ cap ≤ maxLen ∧ Nods w' w'.heap.size A ns ∧ Below w.heap.size w w' := by
  rcases h with ⟨v, ns', g', e1, h1, h2, h3, h4⟩ | ⟨p, q, _, _, h1, _⟩
  · have := h1.det he
    injection this with e2 e3
    subst e2
    subst e3
    obtain ⟨A, cap, rfl, _, h5, h6, h7⟩ := own_nods h3
    exact ⟨A, cap, e1, h5, h6, h7, h4⟩
  · cases h1.det he
/-- While the bytes are looked at. -/
def Rel (W : World) (l : List UInt8) (n : Nat) (i : Value) (wr : World) : Prop := ∃ j : Nat, j ≤ n ∧ i = .int .i64 (j : Int) ∧ Below W.heap.size W wr ∧ ∀ c ∈ l.take j, plainX c
theorem Rel.mk {W : World} {l : List UInt8} {n : Nat} {i : Value} {wr : World} (h : ∃ j : Nat, j ≤ n ∧ i = .int .i64 (j : Int) ∧ Below W.heap.size W wr ∧ ∀ c ∈ l.take j, plainX c) : Rel W l n i wr := h

set_option maxHeartbeats 16000000 in
theorem core (W : World) (A : Option Addr) (n c : Nat) (l : List UInt8) (hn : n = l.length) (hnc : n ≤ c) (hcm : c ≤ maxLen) (hb : Byt W W.heap.size A l) (hm : Mx W) :
    Calls Try.prog 6 #[.slice A n c] W fun e w' => e = .returned (.bool true) ∧ Below W.heap.size W w' := by
  have hAw := Lib.hid (fun (w : World) (hm : Mx w) => awake_ere w hm)
  have hm' := Lib.hid hm
  have hn' := Lib.hid hn
  have hcm' := Lib.hid hcm
  unfold maxLen at hcm
  by_cases hbig : 80 < n
  · clear hn hb hnc hcm hm
    go_enter Try.func6, Try.ntmps6
    go_wp2_with (go_at_call 11; refine (hAw.out _ hm'.out).mono ?_; rintro e w1 ⟨rfl, hb1⟩)
    go_ret
    exact ⟨rfl, hb1⟩
  have hbl := Lib.hid (fun (wr : World) (h : Below W.heap.size W wr) => hb.below h)
  clear hn hb hm
  go_enter Try.func6, Try.ntmps6
  go_wp2
  go_loopw [3] (fun i wr => Rel W l n i wr) (fun i _ => n - (intOf i).toNat)
  case atStart => exact Rel.mk ⟨0, by omega, rfl, Below.refl _ _, fun c h => by simp at h⟩
  case round =>
    obtain ⟨j, hj, rfl, hB, hpl⟩ := hrel
    replace hpl := Lib.hid hpl
    by_cases hlt : j < n
    · have hjl : j < l.length := by have := hn'.out; omega
      obtain ⟨ad, hA, -, hcell⟩ := (hbl.out wr hB).at_ hjl
      subst hA
      have hst := Lib.hid (show l.take (j + 1) = l.take j ++ [l[j]'hjl] from List.take_succ_eq_append_getElem hjl)
      generalize l[j]'hjl = x at *
      have hB' := Lib.hid hB
      clear hB
      by_cases hbad : x = 92 ∨ x = 91 ∨ x = 42 ∨ x = 36 ∨ x = 94 ∨ x = 43 ∨ x = 63 ∨ x = 123 ∨ x = 40 ∨ x = 41 ∨ x = 124
      · clear hst
        rcases hbad with rfl | rfl | rfl | rfl | rfl | rfl | rfl | rfl | rfl | rfl | rfl
        all_goals
          go_wp2_with (go_at_call 11; refine (hAw.out _ (hm'.out.grow hB'.out)).mono ?_; rintro e w2 ⟨rfl, hb2⟩; replace hb2 := Lib.hid (hB'.out.trans (hb2.mono hB'.out.size)))
          go_ret
          exact ⟨rfl, hb2.out⟩
      · have hpx := Lib.hid (show plainX x from by unfold plainX; refine ⟨?_, ?_, ?_, ?_, ?_, ?_, ?_, ?_, ?_, ?_, ?_⟩ <;> (intro e; exact hbad (by simp [e])))
        have e92 : ((x.toNat : Int) == 92) = false := u8_ne (k := 92) (fun e => hbad (by simp [e]))
        have e91 : ((x.toNat : Int) == 91) = false := u8_ne (k := 91) (fun e => hbad (by simp [e]))
        have e42 : ((x.toNat : Int) == 42) = false := u8_ne (k := 42) (fun e => hbad (by simp [e]))
        have e36 : ((x.toNat : Int) == 36) = false := u8_ne (k := 36) (fun e => hbad (by simp [e]))
        have e94 : ((x.toNat : Int) == 94) = false := u8_ne (k := 94) (fun e => hbad (by simp [e]))
        have e43 : ((x.toNat : Int) == 43) = false := u8_ne (k := 43) (fun e => hbad (by simp [e]))
        have e63 : ((x.toNat : Int) == 63) = false := u8_ne (k := 63) (fun e => hbad (by simp [e]))
        have e123 : ((x.toNat : Int) == 123) = false := u8_ne (k := 123) (fun e => hbad (by simp [e]))
        have e40 : ((x.toNat : Int) == 40) = false := u8_ne (k := 40) (fun e => hbad (by simp [e]))
        have e41 : ((x.toNat : Int) == 41) = false := u8_ne (k := 41) (fun e => hbad (by simp [e]))
        have e124 : ((x.toNat : Int) == 124) = false := u8_ne (k := 124) (fun e => hbad (by simp [e]))
        clear hbad
        go_wp2
        go_roundw
        case rel =>
          refine Rel.mk ⟨j + 1, hlt, by go_num, hB'.out, fun c hc => ?_⟩
          rw [hst.out] at hc
          rcases List.mem_append.1 hc with hc | hc
          · exact hpl.out c hc
          · simp only [List.mem_singleton] at hc; subst hc; exact hpx.out
        case measure => simp [intOf]; omega
    · obtain rfl : j = n := by omega
      have htk : l.take j = l := List.take_of_length_le (by have := hn'.out; omega)
      have hpl2 := hpl.out
      rw [htk] at hpl2
      obtain ⟨ns, he1, he2⟩ := plain_end hpl2 (by have := hn'.out; omega)
      have hI := Inp.of (hm'.out.grow hB) hn'.out hnc hcm'.out (by omega) ((hbl.out wr hB).more hB.size)
      have hP := Lib.hid (eparse_any hI (by omega))
      have hQ := Lib.hid (fun w1 (hb1 : Below wr.heap.size wr w1) => bparse_any (hI.grow hb1))
      have hfe := Lib.hid (fun w w' e h => fin_outE (w := w) (w' := w') (e := e) he2 h)
      have hfo := Lib.hid (fun w w' e h => fin_out (w := w) (w' := w') (e := e) he1 h)
      obtain ⟨N, hN⟩ : ∃ N, N = ns.length := ⟨_, rfl⟩
      rw [← hN] at hfe hfo
      replace hN := Lib.hid hN
      replace hB := Lib.hid hB
      clear hI he1 he2 hpl hpl2 htk
      go_wp2_with (first
        | (go_at_call 12; refine (hP.out).mono ?_; intro e w1 hy; obtain ⟨A1, k1, rfl, -, hk1, hm1, hN1, hb1⟩ := hfe.out _ _ _ hy; clear hy; have hbA := hb1.alloc hb1.size (.cells #[.slice A1 N k1, .int .i64 0] 27); have hR1 := Lib.hid (held_new w1 27 #[.slice A1 N k1, .int .i64 0]); have hNa := Lib.hid ((hN1.below ((Below.refl _ _).alloc (Nat.le_refl _) (.cells #[.slice A1 N k1, .int .i64 0] 27))).more (show w1.heap.size ≤ (w1.alloc (.cells #[.slice A1 N k1, .int .i64 0] 27)).heap.size by simp)); replace hbA := Lib.hid hbA; clear hN1 hb1)
        | (go_at_call 8; refine (hQ.out _ hbA.out).mono ?_; intro e w2 hy; obtain ⟨A2, k2, rfl, hk2, hm2, hN2, hb2⟩ := hfo.out _ _ _ hy; clear hy; have hR1b := hR1.out.keep hb2; have hNb := Lib.hid ((hNa.out.below hb2).more hb2.size); have hR1c := hR1b.alloc (.cells #[.slice A2 N k2, .int .i64 0] 27); have hR2c := held_new w2 27 #[.slice A2 N k2, .int .i64 0]; have z0 := hR1c.at_ (i := 0) rfl; have z1 := hR1c.at_ (i := 1) rfl; have y0 := hR2c.at_ (i := 0) rfl; have y1 := hR2c.at_ (i := 1) rfl; have hal := (Below.refl w2.heap.size w2).alloc (Nat.le_refl _) (.cells #[.slice A2 N k2, .int .i64 0] 27); have hNc := Lib.hid (hNb.out.below hal); have hNd := Lib.hid (hN2.below hal); have hbC := Lib.hid (hB.out.trans (((hbA.out.trans (hb2.mono hbA.out.size)).trans (hal.mono (hbA.out.trans (hb2.mono hbA.out.size)).size)).mono hB.out.size)); have hsz := Lib.hid hal.size; clear hR1b hR1c hR2c hN2 hb2 hal)
        | (go_at_call 13; refine (refSame_any A1 A2 N k1 N k2 0 0 ns ns w2.heap.size _ hN.out hN.out hk1 hk2 hm1 hsz.out hNc.out hNd.out).mono ?_; rintro e w4 ⟨rfl, hb4⟩; rw [sameNs_self, decide_eq_true rfl, Bool.and_true]; have hbD := Lib.hid (hbC.out.trans (hb4.mono hbC.out.size)))
        | (go_at_call 11; refine (hAw.out _ (hm'.out.grow hbD.out)).mono ?_; rintro e w6 ⟨rfl, hb6⟩; replace hb6 := Lib.hid (hbD.out.trans (hb6.mono hbD.out.size))))
      go_ret
      exact ⟨rfl, hb6.out⟩
theorem contract (H : Type) (enc : TypeId × Value → H) (W : World) (base : Nat) (args : Array Value) (ds gs : List (DataW H)) (before : List MemPlace)
    (hval : ∀ (j : Nat) t v, Try.f6.params[j]? = some t → args[j]? = some v → Value.okWide Try.prog W .any base t v)
    (hW : DataW.Whole enc Try.prog Try.f6.params.toList Rows.erePlainSpec.vars false W args.toList ds gs before) (hsh : W.ShapedOpen Try.prog) :
    Calls Try.prog 6 args W fun e W' => ∃ v, e = .returned v ∧ Rows.erePlainSpec.post enc Try.prog Try.f6 false true false false W args v W' := by
  have hW' := hW
  obtain ⟨p, q, hA, hV, rfl, hfz, hnd⟩ := hW
  rw [Try.params6] at hA hval
  obtain ⟨v0, vs0, d0, ds0, p0, q0, hargs, rfl, rfl, h0, r0⟩ := trodAll_cons hA
  obtain ⟨rfl, rfl, rfl⟩ := trodAll_nil r0
  obtain rfl : args = #[v0] := by cases args; simp_all
  obtain ⟨rfl, rfl⟩ := trodVars_none hV
  obtain ⟨A0, n0, c0, l0, rfl, e0, k0, m0, x0⟩ := open_byt Try.underlying24 Try.underlying5 (by kernel_rfl) (hval 0 24 v0 rfl rfl) h0
  have hmx := max_of hsh
  exact (core W A0 n0 c0 l0 e0 k0 m0 x0 hmx).mono fun e W' ⟨he, hb⟩ => ⟨_, he, law_post hW' rfl (by kernel_rfl) (by kernel_rfl) rfl hb⟩

theorem laid_met (os : Os) : laidMetH Try.prog Rows.erePlainRow.laid ((World.doorLaid Try.prog 4000 os).forCall (fun _ _ => 0) ⟨#[], #[.slice none 0 0], []⟩).memory :=
  laidMetH_of_parts3 (fuel := 8) (laidMet_of_run' 8 (by kernel_rfl) (by kernel_rfl)) (by kernel_rfl) (by kernel_rfl)
theorem reads (os : Os) {H : Type} (enc : TypeId × Value → H) : ∃ places, DataW.whole enc Try.prog ((World.doorLaid Try.prog 4000 os).forCall (fun _ _ => 0) ⟨#[], #[.slice none 0 0], []⟩).memory Try.f6.params.toList Rows.erePlainSpec.vars false #[Value.slice none 0 0].toList 8 = some ([.nil], [], places) :=
  ⟨[], by kernel_rfl⟩

set_option maxRecDepth 100000 in
theorem lifted (os : Os) (started : os.Started) (H : Type) (enc : TypeId × Value → H) (F : Stop.Interp) :
    ReturnsInHanded {} Try.checked os 6 .any ((OpenSpec.ofChange Rows.erePlainSpec).preRow enc Try.prog Try.f6 Rows.erePlainRow.domain false Rows.erePlainRow.laid) (((OpenSpec.ofChange Rows.erePlainSpec).at F).post enc Try.prog Try.f6 false true false false) := by
  obtain ⟨places, hx⟩ := reads os enc
  refine returnsInHanded_of_row (C := Try.checked) (s := (OpenSpec.ofChange Rows.erePlainSpec)) own started (by kernel_rfl) Try.func6
    (witness_row_at (enc := enc) (C := Try.checked) false (World.doorLaid Try.prog 4000 os) #[.slice none 0 0] rfl (by kernel_rfl) (by kernel_rfl) (by kernel_rfl)
      (OpenSpec.preRow_of_cond 8 hx (by kernel_rfl) (fun k hk => by cases hk) (by kernel_rfl) (laid_met os))) ?_
  intro W base args ds gs before hval hW _ _ _ _ hsh _
  exact contract H enc W base args ds gs before hval hW hsh

theorem said : Rows.ErePlainSaid :=
  OpenClaim.holds_of_cond 6 Try.f6 rfl rfl rfl rfl rfl rfl rfl ⟨rfl, rfl, rfl, rfl, rfl⟩ rfl rfl rfl rfl rfl (by kernel_rfl) Try.func6 (by kernel_rfl)
    (of_decide_eq_true (by kernel_rfl)) (by unfold Func.isWrapper; first | (rw [if_pos (by decide +kernel)]; kernel_rfl) | (rw [if_neg (by decide +kernel)]; exact ⟨rfl, rfl⟩))
    (fun os started H enc _ F => by rw [OpenClaim.pre_eq_preRow]; exact lifted os started H enc F)

end Go.Proofs.Ytnfbgpjadnlgbaa.EPlain
