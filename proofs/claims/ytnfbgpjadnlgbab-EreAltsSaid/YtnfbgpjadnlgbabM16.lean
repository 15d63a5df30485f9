/- Contracts: slices.Clone at nodes; Re. -/
import Derived.Test.YtnfbgpjadnlgbabM10
import Derived.Test.YtnfbgpjadnlgbabM15
import Derived.OwnWalk
set_option linter.unusedVariables false
set_option maxRecDepth 100000
namespace Go.Proofs.Ytnfbgpjadnlgbab
open Go.RowKit

theorem node_info' : (Try.prog.info? 34).map (fun i => (i.zero, i.size, i.bytes)) = some (some (.agg #[.int .i64 0, .int .i64 0, .int .i64 0, .int .i64 0, .int .i64 0, .int .i64 0, .int .u64 0, .int .u64 0, .int .u64 0, .int .u64 0]), 10, 80) := by kernel_rfl
theorem nods_src {w : World} {B : Nat} {A : Option Addr} {ns : List Nod} (h : Nods w B A ns) : Src w A (nodsL ns) := fun j u hj => by
  have hl : j < ns.length * 10 := by have := (List.getElem?_eq_some_iff.1 hj).1; rwa [nodsL_len] at this
  obtain ⟨ad, hA, _, hc⟩ := h (j / 10) (by omega)
  refine ⟨ad, hA, ?_⟩
  have e : j / 10 * 10 + j % 10 = j := by omega
  have := hc (j % 10) u (by rw [← nodsL_at ns (j / 10) (j % 10) (by omega) (by omega), e]; exact hj)
  rwa [e] at this
theorem own_empty (w : World) (t : TypeId) : (w.alloc (.cells #[] t)).ownsRow w.heap.size t 10 (.slice (some ⟨w.heap.size, 0, none⟩) 0 0) 0 (nodsL []) := by
  refine ⟨rfl, .inr ⟨w.heap.size, 0, #[], rfl, Nat.le_refl _, heap_alloc_new w _, Nat.le_refl _, Nat.zero_le _, rfl, rfl⟩⟩

set_option maxRecDepth 100000 in
set_option maxHeartbeats 2000000 in
theorem cloneNs_any (A : Option Addr) (n c : Nat) (ns : List Nod) (B : Nat) (w : World) (hn : n = ns.length) (hl : n ≤ 1000) (h : Nods w B A ns) (hB : B ≤ w.heap.size) :
    Calls Try.prog 21 #[.slice A n c] w fun e w' => ∃ v', e = .returned v' ∧ w'.ownsRow w.heap.size 34 10 v' ns.length (nodsL ns) ∧ Below w.heap.size w w' := by
  obtain ⟨i0, hi0, hq0, hq1, hq2⟩ := info_parts node_info'
  have hI2 := Lib.hid hq2
  have hb0 : Below w.heap.size w (w.alloc (.cells #[] 34)) := (Below.refl _ _).alloc (Nat.le_refl _) _
  have hS := Lib.hid (nods_src (h.below (hb0.mono hB)))
  have hE := Lib.hid (own_empty w 34)
  have hH := Lib.hid hn
  have hb := Lib.hid hb0
  clear hq2 hb0 hn
  cases A with
  | none =>
    have : ns = [] := by cases ns with | nil => rfl | cons x r => obtain ⟨ad, e, _⟩ := h 0 (by simp); cases e
    subst this
    obtain rfl : n = 0 := hH.out
    have he : ∀ w : World, (binOp .eql 24 (.slice none 0 c) (.slice none 0 0)).run Try.prog w = .ok (.bool true) w := fun _ => rfl
    clear h
    go_enter Try.func21, Try.ntmps21
    go_wp2
    go_ret
    exact ⟨_, rfl, World.ownsRow_nil _ _ _ _, Below.refl _ _⟩
  | some ad =>
    have he : ∀ w : World, (binOp .eql 24 (.slice (some ad) n c) (.slice none 0 0)).run Try.prog w = .ok (.bool false) w := fun _ => rfl
    clear h
    go_enter Try.func21, Try.ntmps21
    go_wp2_with (at_builtin; refine wpList_append_at rfl _ _ 24 rfl w.heap.size 34 i0 _ 10 80 Try.underlying24 hi0 hq0 hq1 hI2.out rfl (by decide) (.slice (some ⟨w.heap.size, 0, none⟩) 0 0) 0 (nodsL []) rfl hE.out (some ad) n c (nodsL ns) rfl (by rw [nodsL_len, hH.out]) hS.out (nodsL_one ns) (by unfold maxLen; omega) (by omega) (by simp) ?_; intro v2 w2 hown2 hg2 hb2)
    go_ret
    refine ⟨_, rfl, ?_, hb.out.grown hg2 (by simp) (fun k e => by have : w.heap.size = k := Option.some.inj e; omega)⟩
    rw [Nat.zero_add, hH.out] at hown2
    exact hown2

/-- What Re answers: yes, or no. -/
def ReYes (w : World) (ns : List Nod) (g : Nat) (e : Ending) (w' : World) : Prop :=
  ∃ v', e = .returned (.tuple #[.agg #[v', .int .i64 (g : Int)], .bool true]) ∧ w'.ownsRow w.heap.size 34 10 v' ns.length (nodsL ns) ∧ Below w.heap.size w w'
def ReNo (w : World) (e : Ending) (w' : World) : Prop := e = .returned (.tuple #[.agg #[.slice none 0 0, .int .i64 0], .bool false]) ∧ Below w.heap.size w w'

set_option maxHeartbeats 4000000 in
theorem re_out (B T o : Nat) (v : Value) (ns : List Nod) (g : Nat) (x : Int) (w : World) (h : Bldr w B T o v ns g) (hx : okP (ns.length : Int) x = false) :
    Calls Try.prog 14 #[.pointer (some ⟨T, o, none⟩), .int .i64 x] w (ReNo w) := by
  have hb : Below w.heap.size w (w.alloc (.cells #[.slice none 0 0, .int .i64 0] 26)) := (Below.refl _ _).alloc (Nat.le_refl _) _
  have hH := Lib.hid (has_any B T o v ns g x _ (h.keep hb))
  rw [hx] at hH
  replace hb := Lib.hid hb
  clear h hx
  go_enter Try.func14, Try.ntmps14
  go_wp2_with (go_at_call 20; refine (hH.out).mono ?_; rintro e w' ⟨rfl, rfl⟩)
  exact bodyPost_ret (v := .tuple #[.agg #[.slice none 0 0, .int .i64 0], .bool false]) (results_cell_two Try.results14 _ _ w.heap.size 26 #[.slice none 0 0, .int .i64 0] (0, 0) _ rfl rfl (heap_alloc_new w _) Try.underlying26 rfl (by kernel_rfl)) rfl ⟨rfl, hb.out⟩

theorem own_cut {w : World} {B : Nat} {v : Value} {ns : List Nod} (h : w.ownsRow B 34 10 v ns.length (nodsL ns)) (m : Nat) (hm : m ≤ ns.length) : ∀ A n c, v = .slice A n c → Nods w w.heap.size A (ns.take m) := by
  intro A n c e
  obtain ⟨A', c', e', _, _, _, h'⟩ := own_nods h
  rw [e] at e'
  injection e' with e1
  subst e1
  exact h'.take m

theorem cell_far2 {w : World} {a : Addr} {G : Nat} {u1 u2 v : Value} (h : w.cell? a = some v) (hne : a.block ≠ G) : ((w.setCell ⟨G, 0, none⟩ u1).setCell ⟨G, 1, none⟩ u2).cell? a = some v := by
  rw [World.cell?_of_block ((heap_setCell_other (w.setCell ⟨G, 0, none⟩ u1) ⟨G, 1, none⟩ a.block u2 hne).trans (heap_setCell_other w ⟨G, 0, none⟩ a.block u1 hne))]
  exact h
theorem own_low {w : World} {B B' : Nat} {e : TypeId} {s n : Nat} {v : Value} {xs : List Value} (h : w.ownsRow B e s v n xs) (hB : B' ≤ B) : w.ownsRow B' e s v n xs :=
  ⟨h.1, h.2.imp id fun ⟨g, cap, cur, e1, hb, r⟩ => ⟨g, cap, cur, e1, Nat.le_trans hB hb, r⟩⟩
theorem own_far {w : World} {B G : Nat} {e t : TypeId} {s n : Nat} {v : Value} {xs : List Value} {cs : Array Value} (h : Held w G t cs) (hne : e ≠ t) (ho : w.ownsRow B e s v n xs) (i : Nat) (u : Value) : (w.setCell ⟨G, i, none⟩ u).ownsRow B e s v n xs := by
  have hb : Below 0 w (w.setCell ⟨G, i, none⟩ u) := (Below.refl 0 w).setCell (Nat.zero_le _) u
  exact ho.kept (v := v) ⟨hb.os, hb.tape, hb.output, hb.size, fun k _ hk => Below.heap_setCell w _ u k (fun e => hk (by rw [e]))⟩ (.inr (h.not_own ho hne))
/-- Behind the making of the copy. -/
structure Fin2 (W w : World) (G : Nat) (v : Value) (ms : List Nod) (g : Nat) : Prop where
  re : Held w G 26 #[v, .int .i64 (g : Int)]
  z : Held w W.heap.size 26 #[.slice none 0 0, .int .i64 0]
  low : Below W.heap.size W w
  own : w.ownsRow W.heap.size 34 10 v ms.length (nodsL ms)
theorem Fin2.keep {W w w' : World} {G : Nat} {v : Value} {ms : List Nod} {g : Nat} (h : Fin2 W w G v ms g) (hb : Below w.heap.size w w') : Fin2 W w' G v ms g := ⟨h.re.keep hb, h.z.keep hb, h.low.trans (hb.mono h.low.size), own_below h.own hb⟩
/-- While Re is under way. -/
structure St2 (W w : World) (B T o : Nat) (v : Value) (ns : List Nod) (g : Nat) : Prop where
  b : Bldr w B T o v ns g
  z : Held w W.heap.size 26 #[.slice none 0 0, .int .i64 0]
  low : Below W.heap.size W w
theorem St2.keep {W w w' : World} {B T o : Nat} {v : Value} {ns : List Nod} {g : Nat} (h : St2 W w B T o v ns g) (hb : Below w.heap.size w w') : St2 W w' B T o v ns g := ⟨h.b.keep hb, h.z.keep hb, h.low.trans (hb.mono h.low.size)⟩
set_option maxRecDepth 100000 in
set_option maxHeartbeats 8000000 in
theorem re_in (B T o : Nat) (v : Value) (ns : List Nod) (g : Nat) (x : Nat) (w : World) (h : Bldr w B T o v ns g) (hx : x < ns.length) :
    Calls Try.prog 14 #[.pointer (some ⟨T, o, none⟩), .int .i64 (x : Int)] w fun e w' => (rightN (ns.take (x + 1)) (g : Int) = true ∧ ReYes w (ns.take (x + 1)) g e w') ∨ (rightN (ns.take (x + 1)) (g : Int) = false ∧ ReNo w e w') := by
  have hb : Below w.heap.size w (w.alloc (.cells #[.slice none 0 0, .int .i64 0] 26)) := (Below.refl _ _).alloc (Nat.le_refl _) _
  have h1 := h.keep hb
  have hH := Lib.hid (has_any B T o v ns g (x : Int) _ h1)
  rw [okP_yes (by omega) (by omega)] at hH
  have hTl := Lib.hid h.lt
  obtain ⟨A, cap, rfl, hk1, hk2, hN⟩ := h.slice
  have hl := h.len
  have hZ := held_new w 26 #[.slice none 0 0, .int .i64 0]
  have hC := Lib.hid (fun (w' : World) (hb' : Below w.heap.size w w') => cloneNs_any A (x + 1) cap (ns.take (x + 1)) w.heap.size w' (by rw [List.length_take]; omega) (by omega) ((hN.take (x + 1)).below hb') hb'.size)
  have hb' := Lib.hid hb
  have h1' := Lib.hid h1
  have hZ' := Lib.hid hZ
  have hlen : (ns.take (x + 1)).length = x + 1 := by rw [List.length_take]; omega
  generalize ns.take (x + 1) = ms at *
  unfold maxLen at hk2
  replace hlen := Lib.hid hlen
  have hs1 : IntKind.i64.wrap ((x : Int) + 1) = (x : Int) + 1 := IntWalk.i64_in _ (by omega)
  have hs2 : ((x : Int) + 1).toNat = x + 1 := by omega
  have hs3 : (0 : Int) ≤ (x : Int) + 1 := by omega
  have hs4 : (x : Int) + 1 ≤ (cap : Int) := by omega
  generalize hL : ns.length = L at *
  replace hL := Lib.hid hL
  clear hb h1 h hN hZ
  go_enter Try.func14, Try.ntmps14
  go_wp2_with (go_at_call 20; refine (hH.out).mono ?_; rintro e w' ⟨rfl, rfl⟩)
  have hTne : T ≠ w.heap.size + 1 := by have := hTl.out; omega
  have hS1 := Lib.hid (show St2 w (w.alloc (.cells #[.slice none 0 0, .int .i64 0] 26)).drew B T o (.slice A L cap) ns g from ⟨h1'.out.drew, hZ'.out.drew, hb'.out.drew⟩)
  have hS2 := Lib.hid (show St2 w ((w.alloc (.cells #[.slice none 0 0, .int .i64 0] 26)).alloc (.cells #[.slice none 0 0, .int .i64 0] 26)).drew B T o (.slice A L cap) ns g from
    ⟨(h1'.out.keep ((Below.refl _ _).alloc (Nat.le_refl _) _)).drew, (hZ'.out.alloc _).drew, (alloc2_below w _ _).drew⟩)
  have hZ2 := Lib.hid ((held_new2 w (.cells #[.slice none 0 0, .int .i64 0] 26) 26 #[.slice none 0 0, .int .i64 0]).drew)
  clear h1' hb' hZ' hH
  go_region_held3 (fun w' => w'.cell? ⟨T, o, none⟩ = some (.slice A L cap) ∧ w'.cell? ⟨T, o + 1, none⟩ = some (.int .i64 (g : Int)))
    (first | exact ⟨hS3.out.b.cv, hS3.out.b.cg⟩ | exact ⟨(hS3.out.b.keep ((Below.refl _ _).alloc (Nat.le_refl _) _)).cv, (hS3.out.b.keep ((Below.refl _ _).alloc (Nat.le_refl _) _)).cg⟩ | exact ⟨cell_far2 hS3.out.b.cv hTne, cell_far2 hS3.out.b.cg hTne⟩ | exact ⟨hS1.out.b.cv, hS1.out.b.cg⟩ | exact ⟨hS2.out.b.cv, hS2.out.b.cg⟩ | go_keep)
    (first
    | (go_at_call 21; (with_reducible refine (hC.out _ hS1.out.low).mono ?_); rintro e w3 ⟨v3, rfl, ho3, hb3⟩; have hS3 := Lib.hid (hS1.out.keep hb3); obtain ⟨A3, c3, rfl, -, -, -, -⟩ := own_nods ho3; have ho3' := Lib.hid ho3; clear ho3)
    | (go_at_call 21; refine (hC.out _ hS2.out.low).mono ?_; rintro e w3 ⟨v3, rfl, ho3, hb3⟩; have hS3 := Lib.hid (hS2.out.keep hb3); have hZ3 := Lib.hid (hZ2.out.keep hb3); have z0 := hZ3.out.at_ (i := 0) rfl; have z1 := hZ3.out.at_ (i := 1) rfl; have y0 := hZ3.out.thawed 0; have y1 := hZ3.out.thawed 1; obtain ⟨A3, c3, rfl, -, -, -, -⟩ := own_nods ho3; have ho3' := Lib.hid ho3; clear ho3))
  · have hF := Lib.hid (show Fin2 w (w3.alloc (.cells #[.slice A3 ms.length c3, .int .i64 (g : Int)] 26)) w3.heap.size (.slice A3 ms.length c3) ms g from
      ⟨held_new w3 _ _, hS3.out.z.alloc _, hS3.out.low.alloc hS3.out.low.size _, own_low (own_below ho3'.out ((Below.refl _ _).alloc (Nat.le_refl _) _)) (by show w.heap.size ≤ (w.alloc _).heap.size; rw [sizeA']; omega)⟩)
    generalize w3.alloc (.cells #[.slice A3 ms.length c3, .int .i64 (g : Int)] 26) = w4 at *
    generalize w3.heap.size = G at *
    obtain ⟨A4, c4, e4, -, hc4, hm4, hN4⟩ := own_nods hF.out.own
    injection e4 with e4 _ e5
    subst e4
    subst e5
    have hRt := Lib.hid (right_any A3 ms.length c3 ms (g : Int) w4.heap.size w4 rfl hc4 hm4 (Nat.le_refl _) hN4)
    clear hN4 hc4 hm4 hS3 ho3' hb3 hS1 hS2 hZ2 hC hs1 hs2 hs3 hs4 hx hk1 hl hTne hk2
    generalize hmn : ms.length = M at *
    replace hmn := Lib.hid hmn
    cases hr : rightN ms (g : Int)
    · rw [hr] at hRt
      replace hr := Lib.hid hr
      have r0 := hF.out.re.at_ (i := 0) rfl
      have r1 := hF.out.re.at_ (i := 1) rfl
      go_wp2_with (go_at_call 22; refine (hRt.out).mono ?_; rintro e w5 ⟨rfl, hb5⟩
                   have hF5 := Lib.hid (hF.out.keep hb5)
                   have r50 := hF5.out.re.at_ (i := 0) rfl
                   have r51 := hF5.out.re.at_ (i := 1) rfl
                   have z50 := hF5.out.z.at_ (i := 0) rfl
                   have z51 := hF5.out.z.at_ (i := 1) rfl
                   have y50 := hF5.out.z.thawed 0
                   have y51 := hF5.out.z.thawed 1)
      exact bodyPost_ret (v := .tuple #[.agg #[.slice none 0 0, .int .i64 0], .bool false]) (results_cell_two Try.results14 _ _ w.heap.size 26 #[.slice none 0 0, .int .i64 0] (0, 0) _ rfl rfl ((hF5.out.z.put 0 _).put 1 _) Try.underlying26 rfl (by kernel_rfl)) rfl
        (.inr ⟨hr.out, rfl, (hF5.out.low.setCell (Nat.le_refl _) _).setCell (Nat.le_refl _) _⟩)
    · rw [hr] at hRt
      replace hr := Lib.hid hr
      have r0 := hF.out.re.at_ (i := 0) rfl
      have r1 := hF.out.re.at_ (i := 1) rfl
      go_wp2_with (go_at_call 22; refine (hRt.out).mono ?_; rintro e w5 ⟨rfl, hb5⟩
                   have hF5 := Lib.hid (hF.out.keep hb5)
                   have r50 := hF5.out.re.at_ (i := 0) rfl
                   have r51 := hF5.out.re.at_ (i := 1) rfl
                   have z50 := hF5.out.z.at_ (i := 0) rfl
                   have z51 := hF5.out.z.at_ (i := 1) rfl
                   have y50 := hF5.out.z.thawed 0
                   have y51 := hF5.out.z.thawed 1)
      exact bodyPost_ret (v := .tuple #[.agg #[.slice A3 M c3, .int .i64 (g : Int)], .bool true]) (results_cell_two Try.results14 _ _ w.heap.size 26 #[.slice A3 M c3, .int .i64 (g : Int)] (0, 0) _ rfl rfl ((hF5.out.z.put 0 _).put 1 _) Try.underlying26 rfl (by kernel_rfl)) rfl
        (.inl ⟨hr.out, _, rfl, by have q := own_far (hF5.out.z.put 0 (.slice A3 M c3)) (by decide) (own_far hF5.out.z (by decide) hF5.out.own 0 (.slice A3 M c3)) 1 (.int .i64 (g : Int)); rw [hmn.out] at q ⊢; exact q, (hF5.out.low.setCell (Nat.le_refl _) _).setCell (Nat.le_refl _) _⟩)
  · have hF := Lib.hid (show Fin2 w ((w3.setCell ⟨w.heap.size + 1, 0, none⟩ (.slice A3 ms.length c3)).setCell ⟨w.heap.size + 1, 1, none⟩ (.int .i64 (g : Int))) (w.heap.size + 1) (.slice A3 ms.length c3) ms g from
      ⟨(hZ3.out.put 0 _).put 1 _, (hS3.out.z.far (fun e => by have : w.heap.size = w.heap.size + 1 := e; omega) _).far (fun e => by have : w.heap.size = w.heap.size + 1 := e; omega) _,
        (hS3.out.low.setCell (by show w.heap.size ≤ w.heap.size + 1; omega) _).setCell (by show w.heap.size ≤ w.heap.size + 1; omega) _,
        own_low (own_far (hZ3.out.put 0 _) (by decide) (own_far hZ3.out (by decide) ho3'.out _ _) _ _) (by show w.heap.size ≤ ((w.alloc _).alloc _).heap.size; rw [sizeA', sizeA']; omega)⟩)
    generalize (w3.setCell ⟨w.heap.size + 1, 0, none⟩ (.slice A3 ms.length c3)).setCell ⟨w.heap.size + 1, 1, none⟩ (.int .i64 (g : Int)) = w4 at *
    clear hZ3 z0 z1 y0 y1
    obtain ⟨A4, c4, e4, -, hc4, hm4, hN4⟩ := own_nods hF.out.own
    injection e4 with e4 _ e5
    subst e4
    subst e5
    have hRt := Lib.hid (right_any A3 ms.length c3 ms (g : Int) w4.heap.size w4 rfl hc4 hm4 (Nat.le_refl _) hN4)
    clear hN4 hc4 hm4 hS3 ho3' hb3 hS1 hS2 hZ2 hC hs1 hs2 hs3 hs4 hx hk1 hl hTne hk2
    generalize hmn : ms.length = M at *
    replace hmn := Lib.hid hmn
    cases hr : rightN ms (g : Int)
    · rw [hr] at hRt
      replace hr := Lib.hid hr
      have r0 := hF.out.re.at_ (i := 0) rfl
      have r1 := hF.out.re.at_ (i := 1) rfl
      go_wp2_with (go_at_call 22; refine (hRt.out).mono ?_; rintro e w5 ⟨rfl, hb5⟩
                   have hF5 := Lib.hid (hF.out.keep hb5)
                   have r50 := hF5.out.re.at_ (i := 0) rfl
                   have r51 := hF5.out.re.at_ (i := 1) rfl
                   have z50 := hF5.out.z.at_ (i := 0) rfl
                   have z51 := hF5.out.z.at_ (i := 1) rfl
                   have y50 := hF5.out.z.thawed 0
                   have y51 := hF5.out.z.thawed 1)
      exact bodyPost_ret (v := .tuple #[.agg #[.slice none 0 0, .int .i64 0], .bool false]) (results_cell_two Try.results14 _ _ w.heap.size 26 #[.slice none 0 0, .int .i64 0] (0, 0) _ rfl rfl ((hF5.out.z.put 0 _).put 1 _) Try.underlying26 rfl (by kernel_rfl)) rfl
        (.inr ⟨hr.out, rfl, (hF5.out.low.setCell (Nat.le_refl _) _).setCell (Nat.le_refl _) _⟩)
    · rw [hr] at hRt
      replace hr := Lib.hid hr
      have r0 := hF.out.re.at_ (i := 0) rfl
      have r1 := hF.out.re.at_ (i := 1) rfl
      go_wp2_with (go_at_call 22; refine (hRt.out).mono ?_; rintro e w5 ⟨rfl, hb5⟩
                   have hF5 := Lib.hid (hF.out.keep hb5)
                   have r50 := hF5.out.re.at_ (i := 0) rfl
                   have r51 := hF5.out.re.at_ (i := 1) rfl
                   have z50 := hF5.out.z.at_ (i := 0) rfl
                   have z51 := hF5.out.z.at_ (i := 1) rfl
                   have y50 := hF5.out.z.thawed 0
                   have y51 := hF5.out.z.thawed 1)
      exact bodyPost_ret (v := .tuple #[.agg #[.slice A3 M c3, .int .i64 (g : Int)], .bool true]) (results_cell_two Try.results14 _ _ w.heap.size 26 #[.slice A3 M c3, .int .i64 (g : Int)] (0, 0) _ rfl rfl ((hF5.out.z.put 0 _).put 1 _) Try.underlying26 rfl (by kernel_rfl)) rfl
        (.inl ⟨hr.out, _, rfl, by have q := own_far (hF5.out.z.put 0 (.slice A3 M c3)) (by decide) (own_far hF5.out.z (by decide) hF5.out.own 0 (.slice A3 M c3)) 1 (.int .i64 (g : Int)); rw [hmn.out] at q ⊢; exact q, (hF5.out.low.setCell (Nat.le_refl _) _).setCell (Nat.le_refl _) _⟩)
end Go.Proofs.Ytnfbgpjadnlgbab
