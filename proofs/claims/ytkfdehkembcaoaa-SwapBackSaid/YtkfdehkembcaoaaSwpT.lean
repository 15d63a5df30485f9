/- Contract: a part is told to the function that joins. -/
import Derived.Test.YtkfdehkembcaoaaSwpS
set_option linter.unusedVariables false
set_option linter.unusedSimpArgs false
set_option maxRecDepth 100000
namespace Go.Proofs.Ytkfdehkembcaoaa
open Go.RowKit

theorem JAt.merged {w w1 : World} {base hi J G m n cap lo : Nat} {ys : List (Prt × Value)} {q p : Prt} {u u' : Value} (hJ : Held w J 22 #[.slice (some ⟨G, 0, none⟩) n cap]) (hlo : base ≤ J) (hbh : base ≤ hi) (hhi : hi ≤ w.heap.size)
    (hn : n = (ys ++ [(q, u)]).length) (hm : ys.length = m) (hown : w.ownsRow base 45 3 (.slice (some ⟨G, 0, none⟩) n cap) (ys ++ [(q, u)]).length (prtsL (ys ++ [(q, u)]))) (h2 : base ≤ lo) (h3 : lo ≤ hi) (h4 : ∀ y ∈ ys, OwnB w base y.2 y.1.b ∧ ∀ k, y.2.ownBlock = some k → k < lo) (h5 : OwnB w lo u q.b)
    (hu : OwnB w1 lo u' (q.b ++ p.b)) (hA : Apd lo u w w1) :
    JAt (w1.setCell ⟨G, m * 3 + 2, none⟩ u') base (w1.setCell ⟨G, m * 3 + 2, none⟩ u').heap.size J (ys.map Prod.fst ++ [⟨q.kind, q.grp, q.b ++ p.b⟩]) (.slice (some ⟨G, 0, none⟩) n cap) ∧ ∀ w0, Below base w0 w → Below base w0 (w1.setCell ⟨G, m * 3 + 2, none⟩ u') := by
  subst hm
  have hrow1 := World.ownsRow.kept hown hA.grown (sw_ne hown h5 (by decide))
  have hJ1 := hA.held _ _ _ (by decide) hJ
  have hGb := World.ownsRow.lt hrow1 G rfl
  obtain ⟨cur, hG⟩ : ∃ cur, Held w1 G 45 cur := by
    rcases hrow1.2 with ⟨h, _⟩ | ⟨g, c, cur, h, _, hg, _⟩
    · cases h
    · have e : g = G := by injection h with h; injection h with h; injection h with h; exact h.symm
      subst e; exact ⟨cur, hg⟩
  have hne : J ≠ G := Held.apart hJ1 hG (by decide)
  have mv : ∀ b0 x l, OwnB w1 b0 x l → OwnB (w1.setCell ⟨G, ys.length * 3 + 2, none⟩ u') b0 x l := fun b0 x l ho => sw_far hG (by decide) ho _ _
  have hsz : (w1.setCell ⟨G, ys.length * 3 + 2, none⟩ u').heap.size = w1.heap.size := by simp
  subst hn
  have hst := World.ownsRow.stored hrow1 (ys.length * 3 + 2) u'
  rw [prtsL_set] at hst
  refine ⟨⟨hJ1.far (a := ⟨G, _, none⟩) hne _, hlo, Nat.le_refl _, by rw [hsz]; exact Nat.le_trans hbh (Nat.le_trans hhi hA.grown.size), ys ++ [(⟨q.kind, q.grp, q.b ++ p.b⟩, u')], by simp, ?_, .inr ⟨ys, _, u', lo, rfl, h2, by rw [hsz]; exact Nat.le_trans h3 (Nat.le_trans hhi hA.grown.size), fun y hy => ⟨?_, (h4 y hy).2⟩, mv _ _ _ hu, fun k hk => by rw [hsz]; exact (World.ownsRow.lt hu k hk).2⟩⟩, fun w0 h0 => ?_⟩
  · have e : (ys ++ [(({ kind := q.kind, grp := q.grp, b := q.b ++ p.b } : Prt), u')]).length = (ys ++ [(q, u)]).length := by simp
    rw [e, show prtsL (ys ++ [(({ kind := q.kind, grp := q.grp, b := q.b ++ p.b } : Prt), u')]) = prtsL (ys ++ [(q, u')]) by rw [prtsL_app, prtsL_app]; rfl]
    exact hst.1
  · refine mv _ _ _ (World.ownsRow.kept (h4 y hy).1 hA.grown ?_)
    cases hyb : y.2.ownBlock with
    | none => exact .inl rfl
    | some k =>
      refine .inr fun e => ?_
      have := (h4 y hy).2 k hyb
      have := (World.ownsRow.lt h5 k e.symm).1
      omega
  · exact (below_append h0 (sw_base h5 h2) (Nat.le_trans h2 (Nat.le_trans h3 hhi)) hA.grown).setCell (p := ⟨G, _, none⟩) hGb.1 _
theorem sw_slice {w : World} {base : Nat} {e : TypeId} {size : Nat} {v : Value} {n : Nat} {xs : List Value} (h : w.ownsRow base e size v n xs) : ∃ A c, v = .slice A n c := by
  rcases h.2 with ⟨rfl, rfl⟩ | ⟨g, cap, _, rfl, _⟩
  · exact ⟨_, _, rfl⟩
  · exact ⟨_, _, rfl⟩
theorem sw_slice' {w : World} {base : Nat} {e : TypeId} {size : Nat} {v : Value} {n : Nat} {xs : List Value} (h : w.ownsRow base e size v n xs) : ∃ A m c, v = .slice A m c :=
  let ⟨A, c, h⟩ := sw_slice h; ⟨A, n, c, h⟩
/-- The loop of the function that joins, over one part. -/
def RelJ (w : World) (base J : Nat) (l : List Prt) (p : Prt) (i : Value) (wr : World) : Prop :=
  (i = .int .i64 0 ∧ wr = w) ∨ (i = .int .i64 1 ∧ ∃ v', JAt wr base wr.heap.size J (joinP l p) v' ∧ ∀ w0, Below base w0 w → Below base w0 wr)
section
variable {w : World} {base hi J N : Nat} {l : List Prt} {p : Prt} {v : Value} {A : Option Addr} {n c : Nat}
set_option maxHeartbeats 8000000 in
theorem join_nil (A0 : Option Addr) (c0 : Nat) (hJ : Held w J 22 #[.slice A0 0 c0]) (hlo : base ≤ J) (hbh : base ≤ hi) (hhi : hi ≤ w.heap.size) (hp : OwnB w hi (.slice A n c) p.b) (hN : Held w N 45 #[.int .i64 p.kind, .int .i64 p.grp, .slice A n c]) (hown : w.ownsRow base 45 3 (.slice A0 0 c0) 0 []) :
    Calls Try.prog 35 #[.slice (some ⟨N, 0, none⟩) 1 1, .pointer (some ⟨J, 0, none⟩)] w fun e w' => (∃ v', e = .returned v' ∧ JAt w' base w'.heap.size J (joinP [] p) v') ∧ ∀ w0, Below base w0 w → Below base w0 w' := by
  have hownh := Lib.hid (show w.ownsRow base 45 3 (.slice A0 0 c0) ([] : List (Prt × Value)).length (prtsL []) from hown)
  have hls := Lib.hid (show Lst w base hi [] from .inl rfl)
  have hlen := Lib.hid (show ([] : List (Prt × Value)).length ≤ 1000000 from Nat.zero_le _)
  have hjo := Lib.hid (show joinP [] p = ([] ++ [(p, Value.slice A n c)]).map Prod.fst from rfl)
  clear hown
  have hJh := Lib.hid hJ
  have hph := Lib.hid hp
  have hNh := Lib.hid hN
  have hI := Lib.hid (fun w' => isText_any p.kind p.grp (.slice A n c) w')
  clear hp hJ hN
  go_enter Try.func35, Try.ntmps35
  go_wp2
  go_loopw [9] (RelJ w base J [] p) (fun i _ => 1 - (intOf i).toNat)
  case atStart => exact .inl ⟨rfl, rfl⟩
  case round =>
    rcases hrel with ⟨rfl, rfl⟩ | ⟨rfl, v', hJf, hB⟩
    · have n0 : wr.cell? ⟨N, 0, none⟩ = some (.int .i64 p.kind) := hNh.out.at_ rfl
      have n1 : wr.cell? ⟨N, 1, none⟩ = some (.int .i64 p.grp) := hNh.out.at_ rfl
      have n2 : wr.cell? ⟨N, 2, none⟩ = some (.slice A n c) := hNh.out.at_ rfl
      have hb2 := Lib.hid ((Below.refl wr.heap.size wr).alloc (Nat.le_refl _) (.cells #[.int .i64 p.kind, .int .i64 p.grp, .slice A n c] 45))
      have hP2 := Lib.hid (held_new wr 45 #[.int .i64 p.kind, .int .i64 p.grp, .slice A n c])
      have hJ2 := Lib.hid (hJh.out.keep hb2.out)
      go_upto_region 4 with fail
      generalize wr.alloc (.cells #[.int .i64 p.kind, .int .i64 p.grp, .slice A n c] 45) = w2 at *
      have j0 : w2.cell? ⟨J, 0, none⟩ = some (.slice A0 0 c0) := hJ2.out.at_ rfl
      have p0 : w2.cell? ⟨wr.heap.size, 0, none⟩ = some (.int .i64 p.kind) := hP2.out.at_ rfl
      have p1 : w2.cell? ⟨wr.heap.size, 1, none⟩ = some (.int .i64 p.grp) := hP2.out.at_ rfl
      have p2 : w2.cell? ⟨wr.heap.size, 2, none⟩ = some (.slice A n c) := hP2.out.at_ rfl
      clear n0 n1 n2
      have hbX := hb2
      have hN3 := Lib.hid (fun (wX : World) => held_new wX 45 #[.int .i64 p.kind, .int .i64 p.grp, .slice A n c])
      go_wp2_with (first
        | fail | (at_builtin; refine wpList_push rfl (.tmp 41) (.tmp 43) rfl rfl (own_below hownh.out ((hbX.out).trans ((((Below.refl w2.heap.size w2).alloc (Nat.le_refl _) (.cells #[.int .i64 p.kind, .int .i64 p.grp, .slice A n c] 45))).mono hbX.out.size))) rfl (hN3.out w2) hlen.out (Nat.le_trans (Nat.le_trans hbh hhi) (hbX.out.alloc hbX.out.size (.cells #[.int .i64 p.kind, .int .i64 p.grp, .slice A n c] 45)).size) ?_; intro v' w' h1 h2; obtain ⟨A5, n5, c5, rfl⟩ := sw_slice' h1; have hbY := hbX.out.alloc hbX.out.size (.cells #[.int .i64 p.kind, .int .i64 p.grp, .slice A n c] 45); have hfin := Lib.hid (JAt.pushed (hJh.out.keep hbY) hlo hbh (Nat.le_trans hhi hbY.size) (own_below hownh.out hbY) (hls.out.move fun _ _ _ ho => ho.keep hbY) (hph.out.keep hbY) h1 h2); have hJw := (hJh.out.keep hbY).grown h2 (fun e => (hJh.out.keep hbY).not_own (own_below hownh.out hbY) (by decide) e.symm); have cj : w'.cell? ⟨J, 0, none⟩ = some (.slice A0 0 c0) := hJw.at_ rfl; have fj : w'.frozen? ⟨J, 0, none⟩ = false := hJw.thawed 0; have hbYh := Lib.hid hbY; clear hbY hJw))
      go_roundw
      case rel => exact .inr ⟨rfl, _, by rw [hjo.out]; exact hfin.out.1, fun w0 h0 => hfin.out.2 w0 (h0.trans (hbYh.out.mono (Nat.le_trans (Nat.le_trans hbh hhi) (Nat.le_refl _)) ))⟩
      case measure => simp [intOf]
    · have hJf' := Lib.hid hJf
      have hB' := Lib.hid hB
      have jj := hJf.held.at_ (i := 0) rfl
      have j1 : wr.cell? ⟨J, 0, none⟩ = some v' := jj
      clear hJf hB jj
      go_wp2
      go_ret
      exact ⟨⟨_, rfl, hJf'.out⟩, hB'.out⟩
set_option maxHeartbeats 8000000 in
theorem join_two (G m nn cap lo : Nat) (ys : List (Prt × Value)) (q : Prt) (Au : Option Addr) (nu cu : Nat) (hJ : Held w J 22 #[.slice (some ⟨G, 0, none⟩) nn cap]) (hlo : base ≤ J) (hbh : base ≤ hi) (hhi : hi ≤ w.heap.size) (hp : OwnB w hi (.slice A n c) p.b) (hN : Held w N 45 #[.int .i64 p.kind, .int .i64 p.grp, .slice A n c]) (hn : nn = m + 1) (hm : ys.length = m) (hm2 : m ≤ 999999) (hown : w.ownsRow base 45 3 (.slice (some ⟨G, 0, none⟩) nn cap) (ys ++ [(q, Value.slice Au nu cu)]).length (prtsL (ys ++ [(q, Value.slice Au nu cu)]))) (h2 : base ≤ lo) (h3 : lo ≤ hi) (h4 : ∀ y ∈ ys, OwnB w base y.2 y.1.b ∧ ∀ k, y.2.ownBlock = some k → k < lo) (h5 : OwnB w lo (.slice Au nu cu) q.b) (h6 : ∀ k, (Value.slice Au nu cu).ownBlock = some k → k < hi) (hk : ¬ (p.kind = 0 ∧ q.kind = 0)) :
    Calls Try.prog 35 #[.slice (some ⟨N, 0, none⟩) 1 1, .pointer (some ⟨J, 0, none⟩)] w fun e w' => (∃ v', e = .returned v' ∧ JAt w' base w'.heap.size J (joinP (ys.map Prod.fst ++ [q]) p) v') ∧ ∀ w0, Below base w0 w → Below base w0 w' := by
  have hls := Lib.hid (show Lst w base hi (ys ++ [(q, Value.slice Au nu cu)]) from .inr ⟨ys, q, _, lo, rfl, h2, h3, h4, h5, h6⟩)
  have hownh := Lib.hid hown
  have hlen := Lib.hid (show (ys ++ [(q, Value.slice Au nu cu)]).length ≤ 1000000 from by rw [List.length_append, hm]; show m + 1 ≤ 1000000; omega)
  have hgs := Lib.hid (fun (wX : World) (hb : Below w.heap.size w wX) => show wX.cell? ⟨G, m * 3, none⟩ = some (.int .i64 q.kind) ∧ wX.cell? ⟨G, m * 3 + 1, none⟩ = some (.int .i64 q.grp) ∧ wX.cell? ⟨G, m * 3 + 2, none⟩ = some (.slice Au nu cu) from by
    subst hm
    subst hn
    have ho := own_below hown hb
    have e : ys.length + 1 = (ys ++ [(q, Value.slice Au nu cu)]).length := by simp
    rw [e] at ho
    have hc : ∀ j, j < 3 → wX.cell? ⟨G, ys.length * 3 + j, none⟩ = (prtL ((ys ++ [(q, Value.slice Au nu cu)])[ys.length]'(by simp)))[j]? := fun j hj => by
      rw [ho.cellAt (ys.length * 3 + j) (by rw [List.length_append]; show _ < (ys.length + 1) * 3; omega), prtsL_at _ _ (by simp) j hj]
    have eg : (ys ++ [(q, Value.slice Au nu cu)])[ys.length]'(by simp) = (q, Value.slice Au nu cu) := by simp
    rw [eg] at hc
    exact ⟨hc 0 (by omega), hc 1 (by omega), hc 2 (by omega)⟩)
  have hIq := Lib.hid (fun w' => isText_any q.kind q.grp (.slice Au nu cu) w')
  have hmn : m < nn := by omega
  have hmn' : (m : Int) < (nn : Int) := by omega
  have hmn'' : ¬ nn ≤ m := by omega
  have hwm : IntKind.i64.wrap ((nn : Int) - 1) = (m : Int) := by rw [show (nn : Int) - 1 = (m : Int) by omega]; exact IntWalk.i64_in _ (by omega)
  have hg0 : decide ((0 : Int) ≤ (m : Int)) = true := decide_eq_true (by omega)
  have hm0 : (0 : Int) ≤ (m : Int) := by omega
  have hjo := Lib.hid (show joinP (ys.map Prod.fst ++ [q]) p = ((ys ++ [(q, Value.slice Au nu cu)]) ++ [(p, Value.slice A n c)]).map Prod.fst from by rw [joinP_two hk]; simp)
  have hkh := Lib.hid hk
  replace hn := Lib.hid hn
  replace hm := Lib.hid hm
  clear hown h2 h3 h4 h5 h6 hk
  have hJh := Lib.hid hJ
  have hph := Lib.hid hp
  have hNh := Lib.hid hN
  have hI := Lib.hid (fun w' => isText_any p.kind p.grp (.slice A n c) w')
  clear hp hJ hN
  go_enter Try.func35, Try.ntmps35
  go_wp2
  go_loopw [9] (RelJ w base J (ys.map Prod.fst ++ [q]) p) (fun i _ => 1 - (intOf i).toNat)
  case atStart => exact .inl ⟨rfl, rfl⟩
  case round =>
    rcases hrel with ⟨rfl, rfl⟩ | ⟨rfl, v', hJf, hB⟩
    · have n0 : wr.cell? ⟨N, 0, none⟩ = some (.int .i64 p.kind) := hNh.out.at_ rfl
      have n1 : wr.cell? ⟨N, 1, none⟩ = some (.int .i64 p.grp) := hNh.out.at_ rfl
      have n2 : wr.cell? ⟨N, 2, none⟩ = some (.slice A n c) := hNh.out.at_ rfl
      have hb2 := Lib.hid ((Below.refl wr.heap.size wr).alloc (Nat.le_refl _) (.cells #[.int .i64 p.kind, .int .i64 p.grp, .slice A n c] 45))
      have hP2 := Lib.hid (held_new wr 45 #[.int .i64 p.kind, .int .i64 p.grp, .slice A n c])
      have hJ2 := Lib.hid (hJh.out.keep hb2.out)
      go_upto_region 4 with fail
      generalize wr.alloc (.cells #[.int .i64 p.kind, .int .i64 p.grp, .slice A n c] 45) = w2 at *
      have j0 : w2.cell? ⟨J, 0, none⟩ = some (.slice (some ⟨G, 0, none⟩) nn cap) := hJ2.out.at_ rfl
      have p0 : w2.cell? ⟨wr.heap.size, 0, none⟩ = some (.int .i64 p.kind) := hP2.out.at_ rfl
      have p1 : w2.cell? ⟨wr.heap.size, 1, none⟩ = some (.int .i64 p.grp) := hP2.out.at_ rfl
      have p2 : w2.cell? ⟨wr.heap.size, 2, none⟩ = some (.slice A n c) := hP2.out.at_ rfl
      clear n0 n1 n2
      have hPX := Lib.hid (fun (wX : World) (hb : Below w2.heap.size w2 wX) => show (wX.cell? ⟨wr.heap.size, 0, none⟩ = some (.int .i64 p.kind) ∧ wX.cell? ⟨wr.heap.size, 1, none⟩ = some (.int .i64 p.grp) ∧ wX.cell? ⟨wr.heap.size, 2, none⟩ = some (.slice A n c)) ∧ wX.cell? ⟨J, 0, none⟩ = some (.slice (some ⟨G, 0, none⟩) nn cap) from ⟨⟨(hP2.out.keep hb).at_ rfl, (hP2.out.keep hb).at_ rfl, (hP2.out.keep hb).at_ rfl⟩, (hJ2.out.keep hb).at_ rfl⟩)
      by_cases hpk : p.kind = 0
      · have hqk : (q.kind == 0) = false := by rw [beq_eq_false_iff_ne]; exact fun e => hkh.out ⟨hpk, e⟩
        have hpk' : (p.kind == 0) = true := by rw [beq_iff_eq]; exact hpk
        rw [hpk'] at hI
        rw [hqk] at hIq
        replace hpk := Lib.hid hpk
        clear hqk hpk'
        have hN3 := Lib.hid (fun (wX : World) => held_new wX 45 #[.int .i64 p.kind, .int .i64 p.grp, .slice A n c])
        go_wp2_with (first
          | (go_at_call 27; with_reducible refine (hI.out _).mono ?_; rintro e w3 ⟨rfl, hb3⟩; have hbX := Lib.hid (hb2.out.trans (hb3.mono hb2.out.size)); obtain ⟨⟨s0, s1, s2⟩, s3⟩ := hPX.out w3 hb3; obtain ⟨g0, g1, g2⟩ := hgs.out w3 hbX.out) | (have _h := hbX; go_at_call 27; with_reducible refine (hIq.out _).mono ?_; rintro e w4 ⟨rfl, hb4⟩; have hbZ := Lib.hid (hbX.out.trans (hb4.mono hbX.out.size)); obtain ⟨⟨t0, t1, t2⟩, t3⟩ := hPX.out w4 (hb3.trans (hb4.mono hb3.size))) | (at_builtin; refine wpList_push rfl (.tmp 41) (.tmp 43) rfl rfl (own_below hownh.out ((hbZ.out).trans ((((Below.refl w4.heap.size w4).alloc (Nat.le_refl _) (.cells #[.int .i64 p.kind, .int .i64 p.grp, .slice A n c] 45))).mono hbZ.out.size))) rfl (hN3.out w4) hlen.out (Nat.le_trans (Nat.le_trans hbh hhi) (hbZ.out.alloc hbZ.out.size (.cells #[.int .i64 p.kind, .int .i64 p.grp, .slice A n c] 45)).size) ?_; intro v' w' h1 h2; obtain ⟨A5, n5, c5, rfl⟩ := sw_slice' h1; have hbY := hbZ.out.alloc hbZ.out.size (.cells #[.int .i64 p.kind, .int .i64 p.grp, .slice A n c] 45); have hfin := Lib.hid (JAt.pushed (hJh.out.keep hbY) hlo hbh (Nat.le_trans hhi hbY.size) (own_below hownh.out hbY) (hls.out.move fun _ _ _ ho => ho.keep hbY) (hph.out.keep hbY) h1 h2); have hJw := (hJh.out.keep hbY).grown h2 (fun e => (hJh.out.keep hbY).not_own (own_below hownh.out hbY) (by decide) e.symm); have cj : w'.cell? ⟨J, 0, none⟩ = some (.slice (some ⟨G, 0, none⟩) nn cap) := hJw.at_ rfl; have fj : w'.frozen? ⟨J, 0, none⟩ = false := hJw.thawed 0; have hbYh := Lib.hid hbY; clear hbY hJw))
        go_roundw
        case rel => exact .inr ⟨rfl, _, by rw [hjo.out]; exact hfin.out.1, fun w0 h0 => hfin.out.2 w0 (h0.trans (hbYh.out.mono (Nat.le_trans (Nat.le_trans hbh hhi) (Nat.le_refl _)) ))⟩
        case measure => simp [intOf]
      · have hpk' : (p.kind == 0) = false := by rw [beq_eq_false_iff_ne]; exact hpk
        rw [hpk'] at hI
        replace hpk := Lib.hid hpk
        clear hpk'
        have hN3 := Lib.hid (fun (wX : World) => held_new wX 45 #[.int .i64 p.kind, .int .i64 p.grp, .slice A n c])
        go_wp2_with (first
          | (go_at_call 27; with_reducible refine (hI.out _).mono ?_; rintro e w3 ⟨rfl, hb3⟩; have hbX := Lib.hid (hb2.out.trans (hb3.mono hb2.out.size)); obtain ⟨⟨s0, s1, s2⟩, s3⟩ := hPX.out w3 hb3; obtain ⟨g0, g1, g2⟩ := hgs.out w3 hbX.out) | (at_builtin; refine wpList_push rfl (.tmp 41) (.tmp 43) rfl rfl (own_below hownh.out ((hbX.out).trans ((((Below.refl w3.heap.size w3).alloc (Nat.le_refl _) (.cells #[.int .i64 p.kind, .int .i64 p.grp, .slice A n c] 45))).mono hbX.out.size))) rfl (hN3.out w3) hlen.out (Nat.le_trans (Nat.le_trans hbh hhi) (hbX.out.alloc hbX.out.size (.cells #[.int .i64 p.kind, .int .i64 p.grp, .slice A n c] 45)).size) ?_; intro v' w' h1 h2; obtain ⟨A5, n5, c5, rfl⟩ := sw_slice' h1; have hbY := hbX.out.alloc hbX.out.size (.cells #[.int .i64 p.kind, .int .i64 p.grp, .slice A n c] 45); have hfin := Lib.hid (JAt.pushed (hJh.out.keep hbY) hlo hbh (Nat.le_trans hhi hbY.size) (own_below hownh.out hbY) (hls.out.move fun _ _ _ ho => ho.keep hbY) (hph.out.keep hbY) h1 h2); have hJw := (hJh.out.keep hbY).grown h2 (fun e => (hJh.out.keep hbY).not_own (own_below hownh.out hbY) (by decide) e.symm); have cj : w'.cell? ⟨J, 0, none⟩ = some (.slice (some ⟨G, 0, none⟩) nn cap) := hJw.at_ rfl; have fj : w'.frozen? ⟨J, 0, none⟩ = false := hJw.thawed 0; have hbYh := Lib.hid hbY; clear hbY hJw))
        go_roundw
        case rel => exact .inr ⟨rfl, _, by rw [hjo.out]; exact hfin.out.1, fun w0 h0 => hfin.out.2 w0 (h0.trans (hbYh.out.mono (Nat.le_trans (Nat.le_trans hbh hhi) (Nat.le_refl _)) ))⟩
        case measure => simp [intOf]
    · have hJf' := Lib.hid hJf
      have hB' := Lib.hid hB
      have jj := hJf.held.at_ (i := 0) rfl
      have j1 : wr.cell? ⟨J, 0, none⟩ = some v' := jj
      clear hJf hB jj
      go_wp2
      go_ret
      exact ⟨⟨_, rfl, hJf'.out⟩, hB'.out⟩
set_option maxHeartbeats 8000000 in
theorem join_one (G m nn cap lo : Nat) (ys : List (Prt × Value)) (q : Prt) (Au : Option Addr) (nu cu : Nat) (hJ : Held w J 22 #[.slice (some ⟨G, 0, none⟩) nn cap]) (hlo : base ≤ J) (hbh : base ≤ hi) (hhi : hi ≤ w.heap.size) (hp : OwnB w hi (.slice A n c) p.b) (hN : Held w N 45 #[.int .i64 p.kind, .int .i64 p.grp, .slice A n c]) (hn : nn = m + 1) (hm : ys.length = m) (hm2 : m ≤ 999999) (hown : w.ownsRow base 45 3 (.slice (some ⟨G, 0, none⟩) nn cap) (ys ++ [(q, Value.slice Au nu cu)]).length (prtsL (ys ++ [(q, Value.slice Au nu cu)]))) (h2 : base ≤ lo) (h3 : lo ≤ hi) (h4 : ∀ y ∈ ys, OwnB w base y.2 y.1.b ∧ ∀ k, y.2.ownBlock = some k → k < lo) (h5 : OwnB w lo (.slice Au nu cu) q.b) (h6 : ∀ k, (Value.slice Au nu cu).ownBlock = some k → k < hi) (hkp : p.kind = 0) (hkq : q.kind = 0) (hbl : q.b.length + p.b.length ≤ 1000000000) :
    Calls Try.prog 35 #[.slice (some ⟨N, 0, none⟩) 1 1, .pointer (some ⟨J, 0, none⟩)] w fun e w' => (∃ v', e = .returned v' ∧ JAt w' base w'.heap.size J (joinP (ys.map Prod.fst ++ [q]) p) v') ∧ ∀ w0, Below base w0 w → Below base w0 w' := by
  have hls := Lib.hid (show Lst w base hi (ys ++ [(q, Value.slice Au nu cu)]) from .inr ⟨ys, q, _, lo, rfl, h2, h3, h4, h5, h6⟩)
  have hownh := Lib.hid hown
  have hlen := Lib.hid (show (ys ++ [(q, Value.slice Au nu cu)]).length ≤ 1000000 from by rw [List.length_append, hm]; show m + 1 ≤ 1000000; omega)
  have hgs := Lib.hid (fun (wX : World) (hb : Below w.heap.size w wX) => show wX.cell? ⟨G, m * 3, none⟩ = some (.int .i64 q.kind) ∧ wX.cell? ⟨G, m * 3 + 1, none⟩ = some (.int .i64 q.grp) ∧ wX.cell? ⟨G, m * 3 + 2, none⟩ = some (.slice Au nu cu) from by
    subst hm
    subst hn
    have ho := own_below hown hb
    have e : ys.length + 1 = (ys ++ [(q, Value.slice Au nu cu)]).length := by simp
    rw [e] at ho
    have hc : ∀ j, j < 3 → wX.cell? ⟨G, ys.length * 3 + j, none⟩ = (prtL ((ys ++ [(q, Value.slice Au nu cu)])[ys.length]'(by simp)))[j]? := fun j hj => by
      rw [ho.cellAt (ys.length * 3 + j) (by rw [List.length_append]; show _ < (ys.length + 1) * 3; omega), prtsL_at _ _ (by simp) j hj]
    have eg : (ys ++ [(q, Value.slice Au nu cu)])[ys.length]'(by simp) = (q, Value.slice Au nu cu) := by simp
    rw [eg] at hc
    exact ⟨hc 0 (by omega), hc 1 (by omega), hc 2 (by omega)⟩)
  have hIq := Lib.hid (fun w' => isText_any q.kind q.grp (.slice Au nu cu) w')
  have hmn : m < nn := by omega
  have hmn' : (m : Int) < (nn : Int) := by omega
  have hmn'' : ¬ nn ≤ m := by omega
  have hwm : IntKind.i64.wrap ((nn : Int) - 1) = (m : Int) := by rw [show (nn : Int) - 1 = (m : Int) by omega]; exact IntWalk.i64_in _ (by omega)
  have hg0 : decide ((0 : Int) ≤ (m : Int)) = true := decide_eq_true (by omega)
  have hm0 : (0 : Int) ≤ (m : Int) := by omega
  have hjo := Lib.hid (show joinP (ys.map Prod.fst ++ [q]) p = ys.map Prod.fst ++ [⟨q.kind, q.grp, q.b ++ p.b⟩] from joinP_one hkp hkq)
  have hkp' : (p.kind == 0) = true := by rw [beq_iff_eq]; exact hkp
  have hkq' : (q.kind == 0) = true := by rw [beq_iff_eq]; exact hkq
  rw [hkq'] at hIq
  have hn2 := Lib.hid (show nn = (ys ++ [(q, Value.slice Au nu cu)]).length from by rw [List.length_append, hm]; exact hn)
  have h2h := Lib.hid h2
  have h3h := Lib.hid h3
  have h4h := Lib.hid h4
  have h5h := Lib.hid h5
  replace hn := Lib.hid hn
  have hmh := Lib.hid hm
  clear hown h2 h3 h4 h5 h6 hkp hkq hkq' hm
  have hJh := Lib.hid hJ
  have hph := Lib.hid hp
  have hNh := Lib.hid hN
  have hI := Lib.hid (fun w' => isText_any p.kind p.grp (.slice A n c) w')
  clear hp hJ hN
  go_enter Try.func35, Try.ntmps35
  go_wp2
  go_loopw [9] (RelJ w base J (ys.map Prod.fst ++ [q]) p) (fun i _ => 1 - (intOf i).toNat)
  case atStart => exact .inl ⟨rfl, rfl⟩
  case round =>
    rcases hrel with ⟨rfl, rfl⟩ | ⟨rfl, v', hJf, hB⟩
    · have n0 : wr.cell? ⟨N, 0, none⟩ = some (.int .i64 p.kind) := hNh.out.at_ rfl
      have n1 : wr.cell? ⟨N, 1, none⟩ = some (.int .i64 p.grp) := hNh.out.at_ rfl
      have n2 : wr.cell? ⟨N, 2, none⟩ = some (.slice A n c) := hNh.out.at_ rfl
      have hb2 := Lib.hid ((Below.refl wr.heap.size wr).alloc (Nat.le_refl _) (.cells #[.int .i64 p.kind, .int .i64 p.grp, .slice A n c] 45))
      have hP2 := Lib.hid (held_new wr 45 #[.int .i64 p.kind, .int .i64 p.grp, .slice A n c])
      have hJ2 := Lib.hid (hJh.out.keep hb2.out)
      go_upto_region 4 with fail
      generalize wr.alloc (.cells #[.int .i64 p.kind, .int .i64 p.grp, .slice A n c] 45) = w2 at *
      have j0 : w2.cell? ⟨J, 0, none⟩ = some (.slice (some ⟨G, 0, none⟩) nn cap) := hJ2.out.at_ rfl
      have p0 : w2.cell? ⟨wr.heap.size, 0, none⟩ = some (.int .i64 p.kind) := hP2.out.at_ rfl
      have p1 : w2.cell? ⟨wr.heap.size, 1, none⟩ = some (.int .i64 p.grp) := hP2.out.at_ rfl
      have p2 : w2.cell? ⟨wr.heap.size, 2, none⟩ = some (.slice A n c) := hP2.out.at_ rfl
      clear n0 n1 n2
      have hPX := Lib.hid (fun (wX : World) (hb : Below w2.heap.size w2 wX) => show (wX.cell? ⟨wr.heap.size, 0, none⟩ = some (.int .i64 p.kind) ∧ wX.cell? ⟨wr.heap.size, 1, none⟩ = some (.int .i64 p.grp) ∧ wX.cell? ⟨wr.heap.size, 2, none⟩ = some (.slice A n c)) ∧ wX.cell? ⟨J, 0, none⟩ = some (.slice (some ⟨G, 0, none⟩) nn cap) from ⟨⟨(hP2.out.keep hb).at_ rfl, (hP2.out.keep hb).at_ rfl, (hP2.out.keep hb).at_ rfl⟩, (hJ2.out.keep hb).at_ rfl⟩)
      rw [hkp'] at hI
      clear hkp'
      go_upto_region 6 with (first
        | (go_at_call 27; with_reducible refine (hI.out _).mono ?_; rintro e w3 ⟨rfl, hb3⟩; have hbX := Lib.hid (hb2.out.trans (hb3.mono hb2.out.size)); obtain ⟨⟨s0, s1, s2⟩, s3⟩ := hPX.out w3 hb3; obtain ⟨g0, g1, g2⟩ := hgs.out w3 hbX.out)
        | (have _h := hbX; go_at_call 27; with_reducible refine (hIq.out _).mono ?_; rintro e w4 ⟨rfl, hb4⟩; have hbZ := Lib.hid (hbX.out.trans (hb4.mono hbX.out.size)); obtain ⟨⟨t0, t1, t2⟩, t3⟩ := hPX.out w4 (hb3.trans (hb4.mono hb3.size))))
      have hbD := Lib.hid (show Below wr.heap.size wr w4.drew from below_drewN hbZ.out 1)
      have hP4 := Lib.hid (show Held w4.drew wr.heap.size 45 #[.int .i64 p.kind, .int .i64 p.grp, .slice A n c] from (hP2.out.keep (hb3.trans (hb4.mono hb3.size))).drew)
      have hSd : w4.drew.cell? ⟨J, 0, none⟩ = some (.slice (some ⟨G, 0, none⟩) nn cap) ∧ w4.drew.cell? ⟨wr.heap.size, 2, none⟩ = some (.slice A n c) := ⟨t3, t2⟩
      have hGd := hgs.out _ hbD.out
      obtain ⟨-, -, gd2⟩ := hGd
      have hGP := Lib.hid (show G ≠ wr.heap.size from Nat.ne_of_lt (World.ownsRow.lt hownh.out G rfl).2)
      clear s0 s1 s2 s3 g0 g1 g2 t0 t1 t2 t3 hb3 hb4 j0 p0 p1 p2
      generalize hwP : wr.heap.size = P at *
      go_wp2
      refine wp_region_held_drew (S := (fun w' => w'.cell? ⟨J, 0, none⟩ = some (.slice (some ⟨G, 0, none⟩) nn cap) ∧ w'.cell? ⟨P, 2, none⟩ = some (.slice A n c))) (by kernel_rfl) hSd (fun hS => ?_)
      generalize w4.drew = wd at *
      refine wpAnyH_take (i := 0) (v := ?_) rfl (by kernel_rfl) (by kernel_rfl) (by kernel_rfl) (fun _ _ _ h => h) (Or.inl ⟨by rfl, ?_⟩) hS ?_
      rotate_left
      · (intro w' hS'; have ha := hS'.1; go_simp; try with_reducible rfl)
      (try simp only [Act.put, List.getElem_toArray, List.getElem_cons_zero, List.getElem_cons_succ, List.setIfInBounds_toArray, List.set_cons_zero, List.set_cons_succ])
      refine wpAnyH_take (i := 1) (v := ?_) rfl (by kernel_rfl) (by kernel_rfl) (by kernel_rfl) (fun _ _ _ h => h) (Or.inl ⟨by rfl, ?_⟩) hS ?_
      rotate_left
      · (intro w' hS'; go_simp; try with_reducible rfl)
      (try simp only [Act.put, List.getElem_toArray, List.getElem_cons_zero, List.getElem_cons_succ, List.setIfInBounds_toArray, List.set_cons_zero, List.set_cons_succ])
      refine wpAnyH_take (i := 2) (v := ?_) rfl (by kernel_rfl) (by kernel_rfl) (by kernel_rfl) (fun _ _ _ h => h) (Or.inl ⟨by rfl, ?_⟩) hS ?_
      rotate_left
      · (intro w' hS'; have ha := hS'.1; go_simp; try with_reducible rfl)
      (try simp only [Act.put, List.getElem_toArray, List.getElem_cons_zero, List.getElem_cons_succ, List.setIfInBounds_toArray, List.set_cons_zero, List.set_cons_succ])
      refine wpAnyH_take (i := 3) (v := ?_) rfl (by kernel_rfl) (by kernel_rfl) (by kernel_rfl) (fun _ _ _ h => h) (Or.inl ⟨by rfl, ?_⟩) hS ?_
      rotate_left
      · (intro w' hS'; go_simp; try with_reducible rfl)
      (try simp only [Act.put, List.getElem_toArray, List.getElem_cons_zero, List.getElem_cons_succ, List.setIfInBounds_toArray, List.set_cons_zero, List.set_cons_succ])
      refine wpAnyH_take (i := 4) (v := ?_) rfl (by kernel_rfl) (by kernel_rfl) (by kernel_rfl) (fun _ _ _ h => h) (Or.inl ⟨by rfl, ?_⟩) hS ?_
      rotate_left
      · (intro w' hS'; go_simp; try with_reducible rfl)
      (try simp only [Act.put, List.getElem_toArray, List.getElem_cons_zero, List.getElem_cons_succ, List.setIfInBounds_toArray, List.set_cons_zero, List.set_cons_succ])
      refine wpAnyH_take (i := 5) (v := ?_) rfl (by kernel_rfl) (by kernel_rfl) (by kernel_rfl) (fun _ _ _ h => h) (Or.inl ⟨by rfl, ?_⟩) hS ?_
      rotate_left
      · (intro w' hS'; go_simp; try with_reducible rfl)
      (try simp only [Act.put, List.getElem_toArray, List.getElem_cons_zero, List.getElem_cons_succ, List.setIfInBounds_toArray, List.set_cons_zero, List.set_cons_succ])
      refine wpAnyH_take (i := 7) (v := ?_) rfl (by kernel_rfl) (by kernel_rfl) (by kernel_rfl) (fun _ _ _ h => h) (Or.inl ⟨by rfl, ?_⟩) hS ?_
      rotate_left
      · (intro w' hS'; go_simp; try with_reducible rfl)
      (try simp only [Act.put, List.getElem_toArray, List.getElem_cons_zero, List.getElem_cons_succ, List.setIfInBounds_toArray, List.set_cons_zero, List.set_cons_succ])
      refine wpAnyH_take (i := 8) (v := ?_) rfl (by kernel_rfl) (by kernel_rfl) (by kernel_rfl) (fun _ _ _ h => h) (Or.inl ⟨by rfl, ?_⟩) hS ?_
      rotate_left
      · (intro w' hS'; have ha := hS'.2; go_simp; try with_reducible rfl)
      (try simp only [Act.put, List.getElem_toArray, List.getElem_cons_zero, List.getElem_cons_succ, List.setIfInBounds_toArray, List.set_cons_zero, List.set_cons_succ])
      refine wpAnyH_ready (rs := [6]) (by kernel_rfl) (by simp) ?_
      refine AllReadyH.cons rfl (fun K hK => ?_) AllReadyH.nil
      go_simp
      refine hK.out _ _ hS (fun _ => ?_)
      clear hK K
      (try simp only [Act.put, List.getElem_toArray, List.getElem_cons_zero, List.getElem_cons_succ, List.setIfInBounds_toArray, List.set_cons_zero, List.set_cons_succ])
      refine wpAnyH_ready (rs := [9]) (by kernel_rfl) (by simp) ?_
      refine AllReadyH.cons rfl (fun K hK => ?_) AllReadyH.nil
      rw [if_pos (by rfl)]
      have hpd := Lib.hid (hph.out.keep (hwP.symm ▸ hbD.out))
      have h5d := Lib.hid (h5h.out.keep (hwP.symm ▸ hbD.out))
      have hJd := Lib.hid (hJh.out.keep (hwP.symm ▸ hbD.out))
      have hrd := Lib.hid (own_below hownh.out (hwP.symm ▸ hbD.out))
      have h4d := Lib.hid (fun y hy => And.intro ((h4h.out y hy).1.keep (hwP.symm ▸ hbD.out)) (h4h.out y hy).2)
      have hhd : hi ≤ wd.heap.size := Nat.le_trans hhi (by rw [← hwP]; exact hbD.out.size)
      refine wp_app (.tmp 35) (.tmp 37) rfl rfl h5d.out rfl hpd.out.byt hbl (Nat.le_trans h3h.out hhd) ?_
      intro u' w5 hu5 hA5
      obtain ⟨A5, n5, c5, rfl⟩ := hu5.slice
      have hfin := Lib.hid (JAt.merged (p := p) hJd.out hlo hbh hhd hn2.out hmh.out hrd.out h2h.out h3h.out h4d.out h5d.out hu5 hA5)
      have hS5 : w5.cell? ⟨J, 0, none⟩ = some (.slice (some ⟨G, 0, none⟩) nn cap) ∧ w5.cell? ⟨P, 2, none⟩ = some (.slice A n c) := ⟨(hA5.held _ _ _ (by decide) hJd.out).at_ rfl, (hA5.held _ _ _ (by decide) hP4.out).at_ rfl⟩
      have hP5 := Lib.hid (hA5.held _ _ _ (by decide) hP4.out)
      have hr5 := World.ownsRow.kept hrd.out hA5.grown (sw_ne hrd.out h5d.out (by decide))
      have gc : w5.cell? ⟨G, m * 3 + 2, none⟩ = some (.slice Au nu cu) := by
        have e := hr5
        rw [← hn2.out] at e
        have h1 := e.cellAt (m * 3 + 2) (by have := hn.out; omega)
        rw [h1, ← hmh.out]
        rw [prtsL_at _ _ (by simp) 2 (by omega)]
        simp [prtL]
      have gf : w5.frozen? ⟨G, m * 3 + 2, none⟩ = false := by
        have e := hr5
        rw [← hn2.out] at e
        exact e.frozenAt _
      refine hK.out _ _ hS5 (fun _ => ?_)
      clear hK K hr5
      replace hS := hS5
      (try simp only [Act.put, List.getElem_toArray, List.getElem_cons_zero, List.getElem_cons_succ, List.setIfInBounds_toArray, List.set_cons_zero, List.set_cons_succ])
      refine wpAnyH_take (i := 10) (v := ?_) rfl (by kernel_rfl) (by kernel_rfl) (by kernel_rfl) (fun _ _ _ h => h) (Or.inl ⟨by rfl, ?_⟩) hS ?_
      rotate_left
      · (intro w' hS'; go_simp; try with_reducible rfl)
      (try simp only [Act.put, List.getElem_toArray, List.getElem_cons_zero, List.getElem_cons_succ, List.setIfInBounds_toArray, List.set_cons_zero, List.set_cons_succ])
      refine wpAnyH_take (i := 11) (v := ?_) rfl (by kernel_rfl) (by kernel_rfl) (by kernel_rfl) (fun _ _ _ h => h) (Or.inl ⟨by rfl, ?_⟩) hS ?_
      rotate_left
      · (intro w' hS'; go_simp; try with_reducible rfl)
      (try simp only [Act.put, List.getElem_toArray, List.getElem_cons_zero, List.getElem_cons_succ, List.setIfInBounds_toArray, List.set_cons_zero, List.set_cons_succ])
      refine wpAnyH_ready (rs := [12]) (by kernel_rfl) (by simp) ?_
      refine AllReadyH.cons rfl (fun K hK => ?_) AllReadyH.nil
      go_simp
      refine hK.out _ _ ⟨hfin.out.1.held.at_ rfl, (hP5.out.far (a := ⟨G, _, none⟩) (fun e => hGP.out e.symm) _).at_ rfl⟩ (fun hS => ?_)
      clear hK K
      (try simp only [Act.put, List.getElem_toArray, List.getElem_cons_zero, List.getElem_cons_succ, List.setIfInBounds_toArray, List.set_cons_zero, List.set_cons_succ])
      refine wpAnyH_done (by kernel_rfl) ?_ _
      go_wp2
      go_roundw
      case rel => exact .inr ⟨rfl, _, by rw [hjo.out]; exact hfin.out.1, fun w0 h0 => hfin.out.2 w0 (h0.trans (hbD.out.mono (Nat.le_trans hbh hhi)))⟩
      case measure => simp [intOf]
    · have hJf' := Lib.hid hJf
      have hB' := Lib.hid hB
      have jj := hJf.held.at_ (i := 0) rfl
      have j1 : wr.cell? ⟨J, 0, none⟩ = some v' := jj
      clear hJf hB jj
      go_wp2
      go_ret
      exact ⟨⟨_, rfl, hJf'.out⟩, hB'.out⟩
/-- A part is told to the function that joins. -/
theorem join_any (h : JAt w base hi J l v) (hp : OwnB w hi (.slice A n c) p.b) (hN : Held w N 45 #[.int .i64 p.kind, .int .i64 p.grp, .slice A n c]) (hl : l.length ≤ 900000) (hb : prtB l + p.b.length ≤ 1000000000) :
    Calls Try.prog 35 #[.slice (some ⟨N, 0, none⟩) 1 1, .pointer (some ⟨J, 0, none⟩)] w fun e w' => (∃ v', e = .returned v' ∧ JAt w' base w'.heap.size J (joinP l p) v') ∧ ∀ w0, Below base w0 w → Below base w0 w' := by
  obtain ⟨xs, rfl, hrow, hls⟩ := h.row
  rcases hls with rfl | ⟨ys, q, u, lo, rfl, h2, h3, h4, h5, h6⟩
  · obtain ⟨A0, c0, rfl⟩ := sw_slice hrow
    exact join_nil A0 c0 h.held h.lo h.bh h.hi_ hp hN hrow
  · obtain ⟨Au, nu, cu, rfl⟩ := h5.slice
    have hlen : (ys ++ [(q, Value.slice Au nu cu)]).length = ys.length + 1 := by simp
    obtain ⟨G, cap, hv⟩ : ∃ G cap, v = .slice (some ⟨G, 0, none⟩) (ys.length + 1) cap := by
      rcases hrow.2 with ⟨_, h0⟩ | ⟨g, cap, _, rfl, _⟩
      · rw [hlen] at h0; cases h0
      · exact ⟨g, cap, by rw [hlen]⟩
    subst hv
    have hm2 : ys.length ≤ 999999 := by rw [List.length_map, hlen] at hl; omega
    rw [List.map_append] at hb ⊢
    have hbl : q.b.length + p.b.length ≤ 1000000000 := by
      rw [prtB_app] at hb
      have e : prtB ([(q, Value.slice Au nu cu)].map Prod.fst) = q.b.length := by simp [prtB]
      omega
    by_cases hk : p.kind = 0 ∧ q.kind = 0
    · exact join_one G ys.length (ys.length + 1) cap lo ys q Au nu cu h.held h.lo h.bh h.hi_ hp hN rfl rfl hm2 hrow h2 h3 h4 h5 h6 hk.1 hk.2 hbl
    · exact join_two G ys.length (ys.length + 1) cap lo ys q Au nu cu h.held h.lo h.bh h.hi_ hp hN rfl rfl hm2 hrow h2 h3 h4 h5 h6 hk
end
end Go.Proofs.Ytkfdehkembcaoaa
