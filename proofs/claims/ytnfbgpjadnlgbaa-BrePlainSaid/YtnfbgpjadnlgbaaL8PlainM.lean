/- The statement BrePlain: the law returns true for every slice of bytes, and changes nothing that was there. No condition. -/
import Derived.Test.YtnfbgpjadnlgbaaM01
import Derived.Test.YtnfbgpjadnlgbaaM44
set_option linter.unusedVariables false
set_option linter.unusedSimpArgs false
set_option maxRecDepth 100000
namespace Go.Proofs.Ytnfbgpjadnlgbaa.Plain
open Go.ChangeShapes Go.WideShapes Go.ChangeAt Go.RowKit

def plainE (c : UInt8) : Prop := isAl c = false ∧ c ≠ 40 ∧ c ≠ 41 ∧ c ≠ 123
def escL (l : List UInt8) : List UInt8 := l.flatMap fun c => [92, c]
theorem escL_nil : escL [] = [] := rfl
theorem escL_cons (c : UInt8) (l : List UInt8) : escL (c :: l) = 92 :: c :: escL l := rfl
theorem escL_snoc (l : List UInt8) (c : UInt8) : escL (l ++ [c]) = escL l ++ [92, c] := by simp [escL]
theorem escL_len (l : List UInt8) : (escL l).length = 2 * l.length := by
  induction l with
  | nil => rfl
  | cons c l ih => rw [escL_cons, List.length_cons, List.length_cons, List.length_cons, ih]; omega
theorem escL_drop (j : Nat) : ∀ l : List UInt8, (escL l).drop (2 * j) = escL (l.drop j) := by
  induction j with
  | zero => intro l; rfl
  | succ j ih =>
    intro l
    cases l with
    | nil => simp [escL]
    | cons c l => rw [escL_cons, show 2 * (j + 1) = 2 * j + 2 by omega, List.drop_succ_cons, List.drop_succ_cons, ih, List.drop_succ_cons]
theorem digits_al {c : UInt8} (h1 : 49 ≤ c) (h2 : c ≤ 57) : isAl c = true := by
  have a1 : 49 ≤ c.toNat := UInt8.le_iff_toNat_le.1 h1
  have a2 : c.toNat ≤ 57 := UInt8.le_iff_toNat_le.1 h2
  unfold isAl cAlnum cDigit
  rw [isW_in (by omega) (by omega)]
  simp
theorem esc_plain {c : UInt8} (h : plainE c) (i : Nat) (r : List UInt8) : escA i (c :: r) = .nod (i + 2) (setN (oneF c)) := by
  obtain ⟨h1, h2, h3, h4⟩ := h
  simp only [escA, ofL_one]
  rw [if_neg h2, if_neg h3, if_neg h4, if_neg (by rintro rfl; exact absurd h1 (by decide)), if_neg (by rintro ⟨a, b⟩; rw [digits_al a b] at h1; cases h1), if_neg (by rw [h1]; decide)]
def setsL (l : List UInt8) : List Nod := l.map fun c => setN (oneF c)
theorem esc_steps {l : List UInt8} (h : ∀ c ∈ l, plainE c) : ∀ j, j ≤ l.length → j ≤ 1000 → Steps (escL l) cf0 ⟨.L, 2 * j, setsL (l.take j), 0, fun _ => false, lP j, []⟩
  | 0, _, _ => .one (show step (escL l) ⟨.B, 0, [], 0, fun _ => false, [], []⟩ = _ from step_plain (by cases l <;> rfl))
  | j + 1, hj, hl => by
    have hlt : j < l.length := by omega
    have hd : (escL l).drop (2 * j) = 92 :: (l[j]'hlt) :: escL (l.drop (j + 1)) := by rw [escL_drop, List.drop_eq_getElem_cons hlt, escL_cons]
    have hc := h _ (List.getElem_mem hlt)
    refine (esc_steps h j (by omega) (by omega)).trans (.head (c1 := ⟨.P (j : Int), 2 * j + 2, setsL (l.take (j + 1)), 0, fun _ => false, lP j, []⟩) ?_ (.one ?_))
    · rw [step_atom (inG := false) (by rw [escL_len]; omega) (fun e => by cases e) rfl, atom_esc hd, esc_plain hc]
      simp only [stepA, putS]
      have hlen : (setsL (l.take j)).length = j := by simp [setsL]; omega
      rw [hlen, if_pos (by omega), List.take_succ_eq_append_getElem hlt]
      simp only [setsL, List.map_append, List.map_cons, List.map_nil]
    · rw [lP_succ]
      have hd2 : (escL l).drop (2 * j + 2) = escL (l.drop (j + 1)) := by rw [show 2 * j + 2 = 2 * (j + 1) by omega, escL_drop]
      refine step_off ?_ ?_
      · rw [hd2]; cases l.drop (j + 1) <;> rfl
      · rw [hd2]
        cases hr : l.drop (j + 1) with
        | nil => rfl
        | cons c r =>
          have hm : c ∈ l := List.mem_of_mem_drop (by rw [hr]; simp)
          rw [escL_cons, bg_cons, bg_cons]
          have : ((123 : UInt8) == c) = false := by rw [beq_eq_false_iff_ne]; exact fun e => (h c hm).2.2.2 e.symm
          rw [this]; simp
theorem catGo_app : ∀ (r : List Int) (x : Int) (ns : List Nod), ns.length + r.length ≤ 1000 → ∃ y m, catGo x ns r = some (y, ns ++ m) ∧ m.length = r.length ∧ ∀ nd ∈ m, nd.kind = 2
  | [], x, ns, _ => ⟨x, [], by rw [List.append_nil]; rfl, rfl, fun _ h => by cases h⟩
  | p :: r, x, ns, h => by
    rw [List.length_cons] at h
    obtain ⟨y, m, h1, h2, h3⟩ := catGo_app r (ns.length : Int) (ns ++ [twoN 2 x p]) (by rw [List.length_append, List.length_singleton]; omega)
    refine ⟨y, twoN 2 x p :: m, by rw [catGo_cons, if_pos (by omega), h1, List.append_assoc]; rfl, by rw [List.length_cons, List.length_cons, h2], fun nd hn => ?_⟩
    rcases List.mem_cons.1 hn with rfl | hn
    · rfl
    · exact h3 nd hn
theorem esc_end {l : List UInt8} (h : ∀ c ∈ l, plainE c) (h1 : 1 ≤ l.length) (h2 : l.length ≤ 60) : ∃ m : List Nod, m.length = l.length - 1 ∧ (∀ nd ∈ m, nd.kind = 2) ∧ Ends (escL l) cf0 (.fin (setsL l ++ m) 0) := by
  have hs := esc_steps h l.length (Nat.le_refl _) (by omega)
  rw [List.take_length] at hs
  obtain ⟨j, hj⟩ : ∃ j, l.length = j + 1 := ⟨l.length - 1, by omega⟩
  obtain ⟨r, hr, hrl⟩ := lP_cons j
  have hlen : (setsL l).length = l.length := by simp [setsL]
  obtain ⟨y, m, e1, e2, e3⟩ := catGo_app r 0 (setsL l) (by rw [hlen]; omega)
  have hst : step (escL l) ⟨.L, 2 * l.length, setsL l, 0, fun _ => false, lP l.length, []⟩ = .fin (setsL l ++ m) 0 := by
    show stepL _ ⟨.L, 2 * l.length, setsL l, 0, fun _ => false, lP l.length, []⟩ = _
    simp only [stepL]
    rw [if_pos (by rw [escL_len]; exact Nat.le_refl _), hj, hr, catS_cons, e1]
  exact ⟨m, by rw [e2]; omega, e3, hs.ends (.fin hst)⟩
theorem set_neq (f : Nat → Bool) (w : World) : (binOp .neq 35 (.agg #[.int .u64 (wd f 0 : Nat), .int .u64 (wd f 1 : Nat), .int .u64 (wd f 2 : Nat), .int .u64 (wd f 3 : Nat)]) (.agg #[.int .u64 (wd f 0 : Nat), .int .u64 (wd f 1 : Nat), .int .u64 (wd f 2 : Nat), .int .u64 (wd f 3 : Nat)])).run Try.prog w = .ok (.bool false) w :=
  (run_neq_struct w _ _ _).trans (by rw [run_equalIn_lit, sameS_of (fun _ _ => rfl)]; rfl)

def Rel1 (W : World) (l : List UInt8) (n : Nat) (pv i : Value) (wr : World) : Prop :=
  ∃ j : Nat, j ≤ n ∧ i = .int .i64 (j : Int) ∧ wr.ownsRow W.heap.size 5 1 pv (2 * j) (bv (escL (l.take j))) ∧ Below W.heap.size W wr ∧ ∀ c ∈ l.take j, plainE c
theorem Rel1.mk {W : World} {l : List UInt8} {n : Nat} {pv i : Value} {wr : World} (h : ∃ j : Nat, j ≤ n ∧ i = .int .i64 (j : Int) ∧ wr.ownsRow W.heap.size 5 1 pv (2 * j) (bv (escL (l.take j))) ∧ Below W.heap.size W wr ∧ ∀ c ∈ l.take j, plainE c) : Rel1 W l n pv i wr := h
def Rel2 (w1 : World) (n N : Nat) (k i : Value) (wr : World) : Prop :=
  ∃ j : Nat, j ≤ N ∧ i = .int .i64 (j : Int) ∧ k = .int .i64 ((min j n : Nat) : Int) ∧ Below w1.heap.size w1 wr
theorem Rel2.mk {w1 : World} {n N : Nat} {k i : Value} {wr : World} (h : ∃ j : Nat, j ≤ N ∧ i = .int .i64 (j : Int) ∧ k = .int .i64 ((min j n : Nat) : Int) ∧ Below w1.heap.size w1 wr) : Rel2 w1 n N k i wr := h
theorem u8_src (w : World) (x : Int) : Src (w.alloc (.cells #[.int .u8 92, .int .u8 x] 5)) (some ⟨w.heap.size, 0, none⟩) [.int .u8 92, .int .u8 x] := src_new w [.int .u8 92, .int .u8 x] 5

theorem fin_out {w w' : World} {ns : List Nod} {g N : Nat} {e : Ending} (h : FinR w ns g N e w') : ∃ A7 c7, e = .returned (.tuple #[.agg #[.slice A7 N c7, .int .i64 (g : Int)], .int .i64 0, .int .i64 0]) ∧ N ≤ c7 ∧ c7 ≤ maxLen ∧ Nods w' w'.heap.size A7 ns ∧ Below w.heap.size w w' := by
  obtain ⟨q, c, e1, ho, hb, h1, h2⟩ := h
  obtain ⟨A7, c7, e7, -, h3, h4, hN⟩ := own_nods ho
  rw [e7] at e1
  exact ⟨A7, c7, e1, h3, h4, hN, hb⟩
set_option maxHeartbeats 16000000 in
theorem core (W : World) (A : Option Addr) (n c : Nat) (l : List UInt8) (hn : n = l.length) (hnc : n ≤ c) (hcm : c ≤ maxLen) (hb : Byt W W.heap.size A l) (hm : Mx W) :
    Calls Try.prog 4 #[.slice A n c] W fun e w' => e = .returned (.bool true) ∧ Below W.heap.size W w' := by
  have hAw := Lib.hid (fun (w : World) (hm : Mx w) => awake_any w hm)
  have hm' := Lib.hid hm
  have hn' := Lib.hid hn
  clear hm
  unfold maxLen at hcm
  by_cases hbig : 60 < n
  · clear hn hb hnc hcm
    go_enter Try.func4, Try.ntmps4
    go_wp2_with (go_at_call 7; refine (hAw.out _ hm'.out).mono ?_; rintro e w1 ⟨rfl, hb1⟩)
    go_ret
    exact ⟨rfl, hb1⟩
  by_cases h0 : n < 1
  · clear hn hb hnc hcm
    go_enter Try.func4, Try.ntmps4
    go_wp2_with (go_at_call 7; refine (hAw.out _ hm'.out).mono ?_; rintro e w1 ⟨rfl, hb1⟩)
    go_ret
    exact ⟨rfl, hb1⟩
  obtain ⟨i0, hi0, hz0, hz1, hz2⟩ := info_parts u8_info
  replace hz1 := Lib.hid hz1
  replace hz2 := Lib.hid hz2
  have hbl := Lib.hid (fun (wr : World) (h : Below W.heap.size W wr) => hb.below h)
  clear hn hb
  go_enter Try.func4, Try.ntmps4
  go_wp2
  go_loopw [3, 4] (fun pv i wr => Rel1 W l n pv i wr) (fun _ i _ => n - (intOf i).toNat)
  case atStart => exact Rel1.mk ⟨0, by omega, rfl, World.ownsRow_nil _ _ _ _, Below.refl _ _, fun c h => by simp at h⟩
  case round =>
    obtain ⟨j, hj, rfl, hown, hB, hpl⟩ := hrel
    replace hpl := Lib.hid hpl
    by_cases hlt : j < n
    · have hjl : j < l.length := by have := hn'.out; omega
      obtain ⟨ad, hA, -, hcell⟩ := (hbl.out wr hB).at_ hjl
      subst hA
      have hst := Lib.hid (show l.take (j + 1) = l.take j ++ [l[j]'hjl] from List.take_succ_eq_append_getElem hjl)
      generalize l[j]'hjl = x at *
      have hAl := Lib.hid (fun w => refAlnum_any x w)
      obtain ⟨Ab, cb, rfl, hAb, hAc, -, -⟩ := own_byt hown
      have hw0 : IntKind.i64.wrap (x.toNat : Int) = (x.toNat : Int) := IntWalk.i64_in _ (by have := UInt8.toNat_lt x; omega)
      have hown' := Lib.hid hown
      have hB' := Lib.hid hB
      clear hown hB hAb
      cases hal : isAl x with
      | true =>
        rw [hal] at hAl
        clear hal
        go_wp2_with (first
          | (go_at_call 9; refine (hAl.out _).mono ?_; rintro e w1 ⟨rfl, rfl⟩)
          | (go_at_call 7; refine (hAw.out _ (hm'.out.grow hB'.out)).mono ?_; rintro e w2 ⟨rfl, hb2⟩; replace hb2 := Lib.hid (hB'.out.trans (hb2.mono hB'.out.size))))
        go_ret
        exact ⟨rfl, hb2.out⟩
      | false =>
        rw [hal] at hAl
        by_cases h40 : x = 40 ∨ x = 41 ∨ x = 123
        · clear hal hst hw0
          rcases h40 with rfl | rfl | rfl
          all_goals
            go_wp2_with (first
              | (go_at_call 9; refine (hAl.out _).mono ?_; rintro e w1 ⟨rfl, rfl⟩)
              | (go_at_call 7; refine (hAw.out _ (hm'.out.grow hB'.out)).mono ?_; rintro e w2 ⟨rfl, hb2⟩; replace hb2 := Lib.hid (hB'.out.trans (hb2.mono hB'.out.size))))
            go_ret
            exact ⟨rfl, hb2.out⟩
        · have e40 : ((x.toNat : Int) == 40) = false := u8_ne (fun e => h40 (.inl e))
          have e41 : ((x.toNat : Int) == 41) = false := u8_ne (fun e => h40 (.inr (.inl e)))
          have e123 : ((x.toNat : Int) == 123) = false := u8_ne (fun e => h40 (.inr (.inr e)))
          have hpx := Lib.hid (show plainE x from ⟨hal, fun e => h40 (.inl e), fun e => h40 (.inr (.inl e)), fun e => h40 (.inr (.inr e))⟩)
          clear hal h40
          go_wp2_with (first
            | (go_at_call 9; refine (hAl.out _).mono ?_; rintro e w1 ⟨rfl, rfl⟩)
            | (at_builtin; refine wpList_append_at rfl _ _ 24 rfl W.heap.size 5 i0 (.int .u8 0) 1 1 Try.underlying24 hi0 hz0 hz1.out hz2.out rfl (by decide) (.slice Ab (2 * j) cb) (2 * j) (bv (escL (l.take j))) rfl (own_below hown'.out ((Below.refl _ _).alloc (Nat.le_refl _) _)) (some ⟨wr.heap.size, 0, none⟩) 2 2 [.int .u8 92, .int .u8 (x.toNat : Int)] rfl rfl (u8_src wr _) (by simp [Value.oneCell']) (by unfold maxLen; omega) (by omega) (by have := hB'.out.size; simp; omega) ?_; intro v7 w7 hown7 hg7 _; replace hown7 := Lib.hid hown7; replace hg7 := Lib.hid hg7))
          go_roundw
          case rel =>
            refine Rel1.mk ⟨j + 1, hlt, by go_num, ?_, (hB'.out.alloc hB'.out.size _).grown hg7.out (by have := hB'.out.size; simp; omega) (fun k e => (hown'.out.lt k e).1), fun c hc => ?_⟩
            · rw [hst.out, escL_snoc, bv_append, show 2 * (j + 1) = 2 * j + 2 by omega]; exact hown7.out
            · rw [hst.out] at hc
              rcases List.mem_append.1 hc with hc | hc
              · exact hpl.out c hc
              · simp only [List.mem_singleton] at hc; subst hc; exact hpx.out
          case measure => simp [intOf]; omega
    · obtain rfl : j = n := by omega
      have htk : l.take j = l := List.take_of_length_le (by have := hn'.out; omega)
      rw [htk] at hown hpl
      obtain ⟨Ab, cb, rfl, hAb, hAc, hAm, hBy⟩ := own_byt hown
      have hI := Inp.of (hm'.out.grow hB) (n := 2 * j) (l := escL l) hAb hAc hAm (by omega) hBy
      obtain ⟨m, hml, hmk, he⟩ := esc_end hpl.out (by have := hn'.out; omega) (by have := hn'.out; omega)
      obtain ⟨N, hN⟩ : ∃ N, N = 2 * j - 1 := ⟨_, rfl⟩
      have hnl := hn'.out
      have hslen : (setsL l).length = j := by simp [setsL]; omega
      have hP := Lib.hid (bparse_fin hI he (k := N) (by rw [List.length_append, hslen, hml]; omega))
      have hq : ((N : Int) != 2 * (j : Int) - 1) = false := by rw [bne_eq_false_iff_eq]; omega
      have hw2 : IntKind.i64.wrap (2 * (j : Int)) = 2 * (j : Int) := IntWalk.i64_in _ (by omega)
      have hw3 : IntKind.i64.wrap (2 * (j : Int) - 1) = 2 * (j : Int) - 1 := IntWalk.i64_in _ (by omega)
      have hN1 : N ≤ 200 := by omega
      replace hB := Lib.hid hB
      replace hmk := Lib.hid hmk
      replace hml := Lib.hid hml
      replace hslen := Lib.hid hslen
      clear hown hI hBy hAb htk hi0 hz0 hpl hAc hAm he
      have hlenN := Lib.hid (show (setsL l ++ m).length = N from by rw [List.length_append, hslen.out, hml.out]; omega)
      replace hN := Lib.hid hN
      replace hnl := Lib.hid hnl
      have hjN := Lib.hid (show j ≤ N by have := hN.out; omega)
      go_wp2_with (first
        | (go_at_call 8; refine (hP.out).mono ?_; intro e w1 hy; obtain ⟨A7, c7, rfl, hc3, hc4, hNd, hb1⟩ := fin_out hy; clear hy; unfold maxLen at hc4; replace hb1 := hB.out.trans (hb1.mono hB.out.size); have hR := Lib.hid (held_new w1 27 #[.slice A7 N c7, .int .i64 0]); have z0 := hR.out.at_ (i := 0) rfl; replace hb1 := Lib.hid (hb1.alloc hb1.size (.cells #[.slice A7 N c7, .int .i64 0] 27)); replace hNd := Lib.hid ((hNd.below ((Below.refl _ _).alloc (Nat.le_refl _) (.cells #[.slice A7 N c7, .int .i64 0] 27))).more (le_alloc _ (.cells #[.slice A7 N c7, .int .i64 0] 27)))))
      generalize hG : w1.heap.size = G at *
      generalize w1.alloc (.cells #[.slice A7 N c7, .int .i64 0] 27) = w2 at *
      clear hG z0 hP hq hw2 hw3
      go_loopw [8, 9] (fun k i wr => Rel2 w2 j N k i wr) (fun _ i _ => N - (intOf i).toNat)
      case atStart => exact Rel2.mk ⟨0, by omega, rfl, by simp, Below.refl _ _⟩
      case round =>
        obtain ⟨i, hiN, rfl, rfl, hW⟩ := hrel
        have z0 := (hR.out.keep hW).at_ (i := 0) rfl
        have hW' := Lib.hid hW
        by_cases hlt2 : i < N
        · obtain ⟨ad, b, o, hA, hp, -, hd⟩ := (hNd.out.below hW).at_ (k := i) (by rw [hlenN.out]; exact hlt2)
          subst hA
          clear hW
          by_cases hij : i < j
          · rw [show min i j = i by omega]
            have hil : i < l.length := by have := hnl.out; omega
            rw [show (setsL l ++ m)[i]'(by rw [hlenN.out]; exact hlt2) = setN (oneF (l[i]'hil)) from by
              rw [List.getElem_append_left (by rw [hslen.out]; exact hij)]; simp [setsL]] at hd
            obtain ⟨al, hAl2, -, hcl⟩ := (hbl.out wr (hb1.out.trans (hW'.out.mono hb1.out.size))).at_ hil
            subst hAl2
            generalize l[i]'hil = x at *
            have hOn := Lib.hid (fun w => refOne_any x w)
            rw [setC_lit] at hOn
            have d0 := hd 0 _ rfl
            have d6 := hd 6 _ rfl
            have d7 := hd 7 _ rfl
            have d8 := hd 8 _ rfl
            have d9 := hd 9 _ rfl
            rw [Nat.add_zero] at d0
            replace d0 : wr.cell? ⟨b, o, none⟩ = some (.int .i64 1) := d0
            have hq1 := set_neq (oneF x)
            have hq2 : ∀ p q w, (eqGuard .neq 35 p q (.agg #[.int .u64 (wd (oneF x) 0 : Nat), .int .u64 (wd (oneF x) 1 : Nat), .int .u64 (wd (oneF x) 2 : Nat), .int .u64 (wd (oneF x) 3 : Nat)]) (.agg #[.int .u64 (wd (oneF x) 0 : Nat), .int .u64 (wd (oneF x) 1 : Nat), .int .u64 (wd (oneF x) 2 : Nat), .int .u64 (wd (oneF x) 3 : Nat)])).run Try.prog w = .ok () w := fun p q w => run_eqGuard_agg w .neq _ p q _ _ guard_set
            replace d6 : wr.cell? ⟨b, o + 6, none⟩ = some (.int .u64 (wd (oneF x) 0 : Nat)) := d6
            replace d7 : wr.cell? ⟨b, o + 7, none⟩ = some (.int .u64 (wd (oneF x) 1 : Nat)) := d7
            replace d8 : wr.cell? ⟨b, o + 8, none⟩ = some (.int .u64 (wd (oneF x) 2 : Nat)) := d8
            replace d9 : wr.cell? ⟨b, o + 9, none⟩ = some (.int .u64 (wd (oneF x) 3 : Nat)) := d9
            clear hd
            generalize wd (oneF x) 0 = s0 at *
            generalize wd (oneF x) 1 = s1 at *
            generalize wd (oneF x) 2 = s2 at *
            generalize wd (oneF x) 3 = s3 at *
            have hcl' := Lib.hid (show wr.cell? (al.add i) = some (.int .u8 (x.toNat : Int)) from hcl)
            have hS0 := Lib.hid (show wr.cell? ⟨G, 0, none⟩ = some (.slice (some ad) N c7) ∧ wr.cell? ⟨b, o + 6, none⟩ = some (.int .u64 (s0 : Int)) ∧ wr.cell? ⟨b, o + 7, none⟩ = some (.int .u64 (s1 : Int)) ∧ wr.cell? ⟨b, o + 8, none⟩ = some (.int .u64 (s2 : Int)) ∧ wr.cell? ⟨b, o + 9, none⟩ = some (.int .u64 (s3 : Int)) ∧ wr.cell? (al.add i) = some (.int .u8 (x.toNat : Int)) from ⟨z0, d6, d7, d8, d9, hcl⟩)
            have hge : ¬ (j : Int) ≤ (i : Int) := by omega
            have hgd : decide ((j : Int) ≤ (i : Int)) = false := decide_eq_false hge
            have hKp := Lib.hid (fun (w3 : World) (hb3 : Below wr.drew.heap.size wr.drew w3) => (show w3.cell? ⟨G, 0, none⟩ = some (.slice (some ad) N c7) ∧ w3.cell? ⟨b, o + 6, none⟩ = some (.int .u64 (s0 : Int)) ∧ w3.cell? ⟨b, o + 7, none⟩ = some (.int .u64 (s1 : Int)) ∧ w3.cell? ⟨b, o + 8, none⟩ = some (.int .u64 (s2 : Int)) ∧ w3.cell? ⟨b, o + 9, none⟩ = some (.int .u64 (s3 : Int)) ∧ w3.cell? (al.add i) = some (.int .u8 (x.toNat : Int)) from
              ⟨(hb3.cell (p := ⟨G, 0, none⟩) (World.block_lt_of_cell? _ _ hS0.out.1)).trans hS0.out.1, (hb3.cell (p := ⟨b, o + 6, none⟩) (World.block_lt_of_cell? _ _ hS0.out.2.1)).trans hS0.out.2.1, (hb3.cell (p := ⟨b, o + 7, none⟩) (World.block_lt_of_cell? _ _ hS0.out.2.2.1)).trans hS0.out.2.2.1, (hb3.cell (p := ⟨b, o + 8, none⟩) (World.block_lt_of_cell? _ _ hS0.out.2.2.2.1)).trans hS0.out.2.2.2.1, (hb3.cell (p := ⟨b, o + 9, none⟩) (World.block_lt_of_cell? _ _ hS0.out.2.2.2.2.1)).trans hS0.out.2.2.2.2.1, (hb3.cell (World.block_lt_of_cell? _ _ hS0.out.2.2.2.2.2)).trans hS0.out.2.2.2.2.2⟩))
            have hgn : ¬ j ≤ i := by omega
            have hgb : decide (j ≤ i) = false := decide_eq_false hgn
            clear hge
            go_wp2
            have hS1 := Lib.hid (show wr.drew.cell? ⟨G, 0, none⟩ = some (.slice (some ad) N c7) ∧ wr.drew.cell? ⟨b, o + 6, none⟩ = some (.int .u64 (s0 : Int)) ∧ wr.drew.cell? ⟨b, o + 7, none⟩ = some (.int .u64 (s1 : Int)) ∧ wr.drew.cell? ⟨b, o + 8, none⟩ = some (.int .u64 (s2 : Int)) ∧ wr.drew.cell? ⟨b, o + 9, none⟩ = some (.int .u64 (s3 : Int)) ∧ wr.drew.cell? (al.add i) = some (.int .u8 (x.toNat : Int)) from hS0.out)
            go_region_held3 (fun w' => w'.cell? ⟨G, 0, none⟩ = some (.slice (some ad) N c7) ∧ w'.cell? ⟨b, o + 6, none⟩ = some (.int .u64 (s0 : Int)) ∧ w'.cell? ⟨b, o + 7, none⟩ = some (.int .u64 (s1 : Int)) ∧ w'.cell? ⟨b, o + 8, none⟩ = some (.int .u64 (s2 : Int)) ∧ w'.cell? ⟨b, o + 9, none⟩ = some (.int .u64 (s3 : Int)) ∧ w'.cell? (al.add i) = some (.int .u8 (x.toNat : Int)))
              (first | with_reducible exact hS1.out | with_reducible exact hS3.out | go_keep)
              (first
              | (go_at_call 10; refine (hOn.out _).mono ?_; rintro e w3 ⟨rfl, hb3⟩; have hS3 := Lib.hid (hKp.out w3 hb3); have hW3 := Lib.hid (hW'.out.drew.trans (hb3.mono hW'.out.drew.size))))
            go_wp2
            go_roundw
            case rel => exact Rel2.mk ⟨i + 1, by omega, by go_num, by rw [show min (i + 1) j = i + 1 by omega]; go_num, hW3.out⟩
            case measure => simp [intOf]; omega
          · rw [show min i j = j by omega]
            have hmi : i - j < m.length := by have := hml.out; have := hnl.out; have := hN.out; omega
            rw [show (setsL l ++ m)[i]'(by rw [hlenN.out]; exact hlt2) = m[i - j]'hmi from by
              rw [List.getElem_append_right (by rw [hslen.out]; omega)]; simp only [hslen.out]] at hd
            have hk2 := hmk.out _ (List.getElem_mem hmi)
            have d0 := hd 0 _ rfl
            rw [hk2, Nat.add_zero] at d0
            clear hd hk2
            go_wp2
            go_roundw
            case rel => exact Rel2.mk ⟨i + 1, by omega, by go_num, by rw [show min (i + 1) j = j by omega], hW'.out⟩
            case measure => simp [intOf]; omega
        · obtain rfl : i = N := by omega
          rw [show min i j = j by have := hjN.out; omega]
          clear hW
          have hL := Lib.hid (hb1.out.trans (hW'.out.mono hb1.out.size))
          go_wp2_with (go_at_call 7; refine (hAw.out _ (hm'.out.grow hL.out)).mono ?_; rintro e w4 ⟨rfl, hb4⟩; replace hb4 := Lib.hid (hL.out.trans (hb4.mono hL.out.size)))
          go_ret
          exact ⟨rfl, hb4.out⟩
theorem contract (H : Type) (enc : TypeId × Value → H) (W : World) (base : Nat) (args : Array Value) (ds gs : List (DataW H)) (before : List MemPlace)
    (hval : ∀ (j : Nat) t v, Try.f4.params[j]? = some t → args[j]? = some v → Value.okWide Try.prog W .any base t v)
    (hW : DataW.Whole enc Try.prog Try.f4.params.toList Rows.brePlainSpec.vars false W args.toList ds gs before) (hsh : W.ShapedOpen Try.prog) :
    Calls Try.prog 4 args W fun e W' => ∃ v, e = .returned v ∧ Rows.brePlainSpec.post enc Try.prog Try.f4 false true false false W args v W' := by
  have hW' := hW
  obtain ⟨p, q, hA, hV, rfl, hfz, hnd⟩ := hW
  rw [Try.params4] at hA hval
  obtain ⟨v0, vs0, d0, ds0, p0, q0, hargs, rfl, rfl, h0, r0⟩ := trodAll_cons hA
  obtain ⟨rfl, rfl, rfl⟩ := trodAll_nil r0
  obtain rfl : args = #[v0] := by cases args; simp_all
  obtain ⟨rfl, rfl⟩ := trodVars_none hV
  obtain ⟨A0, n0, c0, l0, rfl, e0, k0, m0, x0⟩ := open_byt Try.underlying24 Try.underlying5 (by kernel_rfl) (hval 0 24 v0 rfl rfl) h0
  have hmx := max_of hsh
  exact (core W A0 n0 c0 l0 e0 k0 m0 x0 hmx).mono fun e W' ⟨he, hb⟩ => ⟨_, he, law_post hW' rfl (by kernel_rfl) (by kernel_rfl) rfl hb⟩

theorem laid_met (os : Os) : laidMetH Try.prog Rows.brePlainRow.laid ((World.doorLaid Try.prog 4000 os).forCall (fun _ _ => 0) ⟨#[], #[.slice none 0 0], []⟩).memory :=
  laidMetH_of_parts3 (fuel := 8) (laidMet_of_run' 8 (by kernel_rfl) (by kernel_rfl)) (by kernel_rfl) (by kernel_rfl)
theorem reads (os : Os) {H : Type} (enc : TypeId × Value → H) : ∃ places, DataW.whole enc Try.prog ((World.doorLaid Try.prog 4000 os).forCall (fun _ _ => 0) ⟨#[], #[.slice none 0 0], []⟩).memory Try.f4.params.toList Rows.brePlainSpec.vars false #[Value.slice none 0 0].toList 8 = some ([.nil], [], places) :=
  ⟨[], by kernel_rfl⟩

set_option maxRecDepth 100000 in
theorem lifted (os : Os) (started : os.Started) (H : Type) (enc : TypeId × Value → H) (F : Stop.Interp) :
    ReturnsInHanded {} Try.checked os 4 .any ((OpenSpec.ofChange Rows.brePlainSpec).preRow enc Try.prog Try.f4 Rows.brePlainRow.domain false Rows.brePlainRow.laid) (((OpenSpec.ofChange Rows.brePlainSpec).at F).post enc Try.prog Try.f4 false true false false) := by
  obtain ⟨places, hx⟩ := reads os enc
  refine returnsInHanded_of_row (C := Try.checked) (s := (OpenSpec.ofChange Rows.brePlainSpec)) own started (by kernel_rfl) Try.func4
    (witness_row_at (enc := enc) (C := Try.checked) false (World.doorLaid Try.prog 4000 os) #[.slice none 0 0] rfl (by kernel_rfl) (by kernel_rfl) (by kernel_rfl)
      (OpenSpec.preRow_of_cond 8 hx (by kernel_rfl) (fun k hk => by cases hk) (by kernel_rfl) (laid_met os))) ?_
  intro W base args ds gs before hval hW _ _ _ _ hsh _
  exact contract H enc W base args ds gs before hval hW hsh

theorem said : Rows.BrePlainSaid :=
  OpenClaim.holds_of_cond 4 Try.f4 rfl rfl rfl rfl rfl rfl rfl ⟨rfl, rfl, rfl, rfl, rfl⟩ rfl rfl rfl rfl rfl (by kernel_rfl) Try.func4 (by kernel_rfl)
    (of_decide_eq_true (by kernel_rfl)) (by unfold Func.isWrapper; first | (rw [if_pos (by decide +kernel)]; kernel_rfl) | (rw [if_neg (by decide +kernel)]; exact ⟨rfl, rfl⟩))
    (fun os started H enc _ F => by rw [OpenClaim.pre_eq_preRow]; exact lifted os started H enc F)

end Go.Proofs.Ytnfbgpjadnlgbaa.Plain
