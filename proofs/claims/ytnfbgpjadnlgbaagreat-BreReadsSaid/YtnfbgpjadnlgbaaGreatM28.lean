/- What the machine puts is a tree; the contract of bre.Parse; bre.Parse of a text whose end is known; the contract of the law's awake. -/
import Derived.Test.YtnfbgpjadnlgbaaGreatM13
import Derived.Test.YtnfbgpjadnlgbaaGreatM27
set_option linter.unusedVariables false
set_option maxRecDepth 100000
namespace Go.Proofs.YtnfbgpjadnlgbaaGreat
open Go.RowKit

def headC : Ct → List Int
  | .P x => [x]
  | _ => []
def rootsC (c : Cf) : List Int := headC c.ct ++ (c.ps ++ c.lv.flatMap (·.2))
def opensC (c : Cf) : List Int := c.lv.map fun a => (a.1 : Int)
structure InvC (c : Cf) : Prop where
  tree : Tree c.ns c.g (rootsC c)
  grp : ∀ q, 1 ≤ q → q ≤ c.g → grpsN c.ns q + cntI (opensC c) q = 1
  opn : ∀ q ∈ opensC c, 1 ≤ q ∧ q ≤ (c.g : Int)
  nine : c.g ≤ 9
  clg : ∀ q, c.cl q = true → 1 ≤ q ∧ q ≤ c.g
  last : match c.ct with
    | .P x => x = (c.ns.length : Int) - 1
    | .L => ∀ hne : c.ps ≠ [], c.ps.getLast hne = (c.ns.length : Int) - 1
    | .B => c.ps = []
theorem inv0 : InvC cf0 := ⟨Tree.nil_ 0, fun q h1 h2 => by simp [cf0] at h2; omega, fun q h => by simp [opensC, cf0] at h, by simp [cf0], fun q h => by simp [cf0] at h, rfl⟩
theorem atomR_nod {t : List UInt8} {i : Nat} {r : List UInt8} {j : Nat} {nd : Nod} (h : atomR t i r = .nod j nd) : (∃ f, nd = setN f) ∨ nd = eolN := by
  cases r with
  | nil => cases h
  | cons c r =>
    simp only [atomR] at h
    split at h
    · cases r with
      | nil => cases h
      | cons x r =>
        simp only [escA] at h
        repeat' split at h
        all_goals first
          | (simp only [Am.nod.injEq] at h; exact .inl ⟨_, h.2.symm⟩)
          | cases h
    · split at h
      · unfold brkA at h
        split at h
        · cases h
        · simp only [Am.nod.injEq] at h; exact .inl ⟨_, h.2.symm⟩
      · repeat' split at h
        all_goals first
          | (simp only [Am.nod.injEq] at h; exact .inl ⟨_, h.2.symm⟩)
          | (simp only [Am.nod.injEq] at h; exact .inr h.2.symm)
theorem putS_go {ns : List Nod} {i : Nat} {n : Nod} {k : Int → List Nod → Rs} {c : Cf} (h : putS ns i n k = .go c) : ns.length < 1000 ∧ k (ns.length : Int) (ns ++ [n]) = .go c := by
  unfold putS at h
  split at h
  · exact ⟨by assumption, h⟩
  · cases h
theorem InvC.leaf {c : Cf} (h : InvC c) (hct : c.ct = .L) {nd : Nod} {j : Nat} (hl : c.ns.length < 1000) (hp : partsN nd = []) (hf : fitsN nd (c.ns.length : Int) (c.g : Int) = true) (hk : nd.kind ≠ 5) :
    InvC ⟨.P (c.ns.length : Int), j, c.ns ++ [nd], c.g, c.cl, c.ps, c.lv⟩ := by
  obtain ⟨ct, i, ns, g, cl, ps, lv⟩ := c
  simp only at hct
  subst hct
  refine ⟨Tree.node (P := []) h.tree hl hp hf, fun q h1 h2 => ?_, h.opn, h.nine, h.clg, by simp⟩
  rw [grpsN_snoc, if_neg (fun e => hk e.1)]
  have := h.grp q h1 h2
  simp only [opensC] at this ⊢
  omega
theorem step_inv {t : List UInt8} {c c' : Cf} (h : InvC c) (hs : step t c = .go c') : InvC c' := by
  obtain ⟨ct, i, ns, g, cl, ps, lv⟩ := c
  have hat : ∀ c1 : Cf, c1.ct = .L → InvC c1 → stepA c1 (atomA t c1.i) = .go c' → InvC c' := by
    intro c1 hct h1 hs
    cases ha : atomA t c1.i with
    | bad e => rw [ha] at hs; cases hs
    | opn =>
      rw [ha] at hs
      simp only [stepA] at hs
      split at hs
      · rename_i hg
        injection hs with hs
        subst hs
        have ht := h1.tree
        obtain ⟨ct, i, ns, g, cl, ps, lv⟩ := c1
        simp only at hct
        subst hct
        refine ⟨(by simpa [rootsC, headC] using ht.more (Nat.le_succ g)), fun q q1 q2 => ?_, fun q hq => ?_, hg, fun q hq => ?_, rfl⟩
        · simp only [opensC, List.map_cons] at q2 ⊢
          rw [cntI_cons]
          by_cases hq : q = g + 1
          · subst hq
            have e1 : grpsN ns (g + 1) = 0 := cntI_zero fun x hx e => by
              obtain ⟨nd, hn, rfl⟩ := List.mem_map.1 hx
              obtain ⟨hn, hk⟩ := List.mem_filter.1 hn
              obtain ⟨k, hk2, rfl⟩ := List.getElem_of_mem hn
              have := fits_grp (ht.fit k hk2) (by simpa using hk)
              simp only at this
              omega
            have e2 : cntI (lv.map fun a => (a.1 : Int)) (g + 1) = 0 := cntI_zero fun x hx e => by
              have := h1.opn x hx
              simp only at this
              omega
            rw [if_pos rfl]; omega
          · have := h1.grp q q1 (by simp only; omega)
            simp only [opensC] at this
            rw [if_neg (by omega)]; omega
        · simp only [opensC, List.map_cons, List.mem_cons] at hq
          simp only
          rcases hq with rfl | hq
          · omega
          · have := h1.opn q hq
            simp only at this
            omega
        · have := h1.clg q hq
          simp only at this ⊢
          omega
      · cases hs
    | bak q =>
      rw [ha] at hs
      simp only [stepA] at hs
      split at hs
      · rename_i hq
        obtain ⟨hl, hs⟩ := putS_go hs
        injection hs with hs
        subst hs
        have hqg := h1.clg q hq
        exact h1.leaf hct hl rfl (fits_back (by omega) (by omega)) (by simp [backN])
      · cases hs
    | nod j nd =>
      rw [ha] at hs
      simp only [stepA] at hs
      obtain ⟨hl, hs⟩ := putS_go hs
      injection hs with hs
      subst hs
      unfold atomA at ha
      rcases atomR_nod ha with ⟨f, rfl⟩ | rfl
      · exact h1.leaf hct hl rfl (fits_set f _ _) (by simp [setN])
      · exact h1.leaf hct hl rfl (fits_plain 8 (.inr (.inr rfl)) _ _) (by decide)
  cases ct with
  | B =>
    have hps : ps = [] := h.last
    subst hps
    change stepB t _ = _ at hs
    simp only [stepB] at hs
    split at hs
    · obtain ⟨hl, hs⟩ := putS_go hs
      injection hs with hs
      subst hs
      have ht := h.tree
      refine ⟨Tree.node (P := []) ht hl rfl (fits_plain 7 (.inr (.inl rfl)) _ _), fun q h1 h2 => ?_, h.opn, h.nine, h.clg, fun _ => by simp⟩
      rw [grpsN_snoc, if_neg (by rintro ⟨e, _⟩; exact absurd e (by decide))]
      have := h.grp q h1 h2
      simp only [opensC] at this ⊢
      omega
    · injection hs with hs
      subst hs
      exact ⟨h.tree, h.grp, h.opn, h.nine, h.clg, fun hne => absurd rfl hne⟩
  | P x =>
    have hx : x = (ns.length : Int) - 1 := h.last
    have ht : Tree ns g ([x] ++ (ps ++ lv.flatMap (·.2))) := h.tree
    have hok := ht.ok x (by simp)
    have hrep : ∀ (lo hi : Int) (j : Nat), timesN lo hi = true → ns.length < 1000 → InvC ⟨.P (ns.length : Int), j, ns ++ [repN x lo hi], g, cl, ps, lv⟩ := fun lo hi j htm hl => by
      refine ⟨Tree.node (P := [x]) ht hl rfl (fits_rep hok htm), fun q h1 h2 => ?_, h.opn, h.nine, h.clg, by simp⟩
      rw [grpsN_snoc, if_neg (by rintro ⟨e, _⟩; simp [repN] at e)]
      have := h.grp q h1 h2
      simp only [opensC] at this ⊢
      omega
    change stepP t _ x = _ at hs
    simp only [stepP] at hs
    split at hs
    · obtain ⟨hl, hs⟩ := putS_go hs
      injection hs with hs
      subst hs
      exact hrep 0 (-1) _ (by decide) hl
    · split at hs
      · cases hv : ivl t i with
        | none => rw [hv] at hs; cases hs
        | some p =>
          obtain ⟨lo, hi, j⟩ := p
          rw [hv] at hs
          simp only at hs
          obtain ⟨hl, hs⟩ := putS_go hs
          injection hs with hs
          subst hs
          refine hrep lo hi _ ?_ hl
          unfold ivl at hv
          obtain ⟨⟨a, b, k⟩, h1, h2⟩ := Option.map_eq_some_iff.1 hv
          simp only [Prod.mk.injEq] at h2
          obtain ⟨rfl, rfl, rfl⟩ := h2
          exact (ivB_ok h1).2.1
      · injection hs with hs
        subst hs
        refine ⟨ht.perm ?_, h.grp, h.opn, h.nine, h.clg, fun _ => by simp [hx]⟩
        show ([x] ++ (ps ++ lv.flatMap (·.2))).Perm ([] ++ ((ps ++ [x]) ++ lv.flatMap (·.2)))
        rw [List.nil_append, ← List.append_assoc]
        exact List.Perm.append_right _ List.perm_append_comm
  | L =>
    change stepL t _ = _ at hs
    cases lv with
    | nil =>
      simp only [stepL] at hs
      split at hs
      · split at hs <;> cases hs
      · exact hat _ rfl h hs
    | cons a lv =>
      obtain ⟨q, p⟩ := a
      simp only [stepL] at hs
      split at hs
      · cases hs
      · split at hs
        · cases hc : catS ns ps with
          | none => rw [hc] at hs; cases hs
          | some r =>
            obtain ⟨x, ns'⟩ := r
            rw [hc] at hs
            simp only at hs
            obtain ⟨hl, hs⟩ := putS_go hs
            injection hs with hs
            subst hs
            have ht : Tree ns g (ps ++ (p ++ lv.flatMap (·.2))) := by simpa [rootsC, headC] using h.tree
            obtain ⟨k1, k2, k3⟩ := catS_tree ht h.last hc
            have hqg := h.opn (q : Int) (by simp [opensC])
            simp only at hqg
            have hq1 : 1 ≤ q := by omega
            have hq2 : q ≤ g := by omega
            have hxo := k1.ok x (by simp)
            refine ⟨Tree.node (P := [x]) k1 hl rfl (fits_group hxo (by omega) (by omega)), fun z h1 h2 => ?_, fun z hz => h.opn z (by simp only [opensC, List.map_cons, List.mem_cons] at hz ⊢; exact .inr hz), h.nine, fun z hz => ?_, by simp⟩
            · rw [grpsN_snoc, k3]
              have := h.grp z h1 h2
              simp only [opensC, List.map_cons] at this ⊢
              rw [cntI_cons] at this
              have e5 : (groupN (q : Int) x).kind = 5 := rfl
              have eg : (groupN (q : Int) x).grp = (q : Int) := rfl
              rw [e5, eg]
              by_cases hz : (q : Int) = (z : Int)
              · rw [if_pos hz] at this
                rw [if_pos ⟨rfl, hz⟩]; omega
              · rw [if_neg hz] at this
                rw [if_neg (fun e => hz e.2)]; omega
            · simp only [setQ] at hz
              split at hz
              · rename_i e
                subst e
                exact ⟨hq1, hq2⟩
              · exact h.clg z hz
        · exact hat _ rfl h hs
theorem Steps.inv {t : List UInt8} {c c' : Cf} (hs : Steps t c c') (h : InvC c) : InvC c' := by
  induction hs with
  | refl => exact h
  | head h1 _ ih => exact ih (step_inv h h1)
/-- Where nothing is open what was put is right, and its last node is the whole. -/
theorem InvC.right {i : Nat} {ns : List Nod} {g : Nat} {cl : Nat → Bool} {ps : List Int} {x : Int} {ns' : List Nod} (h : InvC ⟨.L, i, ns, g, cl, ps, []⟩) (hc : catS ns ps = some (x, ns')) : rightN ns' (g : Int) = true ∧ x = (ns'.length : Int) - 1 ∧ 1 ≤ ns'.length ∧ g ≤ 9 := by
  have ht : Tree ns g (ps ++ []) := by simpa [rootsC, headC] using h.tree
  obtain ⟨k1, k2, k3⟩ := catS_tree ht h.last hc
  have hxo := k1.ok x (by simp)
  rw [okP_iff] at hxo
  have h9 : g ≤ 9 := h.nine
  have h1 : 1 ≤ ns'.length := by omega
  refine ⟨?_, k2, h1, h9⟩
  rw [rightN_end ⟨h1, k1.len, by omega, by omega⟩ k1.fit]
  rw [onceL_yes, onceL_yes]
  · rfl
  · intro k hk
    rw [List.length_map, List.length_range, Int.toNat_natCast] at hk
    rw [List.getElem_map, List.getElem_range, k3]
    have := h.grp (k + 1) (by omega) (by simp only; omega)
    simpa [opensC, cntI] using this
  · intro k hk
    rw [List.length_map, List.length_range] at hk
    rw [List.getElem_map, List.getElem_range]
    have := k1.use k (by omega)
    rw [cntI_cons, if_neg (by omega)] at this
    simpa [cntI] using this
/-- What Parse answers. -/
def PRes (w : World) (l : List UInt8) (e : Ending) (w' : World) : Prop :=
  (∃ v ns g, e = .returned (.tuple #[.agg #[v, .int .i64 ((g : Nat) : Int)], .int .i64 0, .int .i64 0]) ∧ Ends l cf0 (.fin ns g) ∧ rightN ns (g : Int) = true ∧ w'.ownsRow w.heap.size 39 10 v ns.length (nodsL ns) ∧ Below w.heap.size w w') ∨
  (∃ p q : Nat, q ≠ 0 ∧ e = .returned (.tuple #[.agg #[.slice none 0 0, .int .i64 0], .int .i64 (p : Int), .int .i64 (q : Int)]) ∧ Ends l cf0 (.bad p q) ∧ Below w.heap.size w w')
set_option maxHeartbeats 8000000 in
theorem bparse_any {A : Option Addr} {n c : Nat} {l : List UInt8} {w : World} (h : Inp w A n c l) :
    Calls Tryz.prog 6 #[.slice A n c] w (PRes w l) := by
  have hb1 : Below w.heap.size w (w.alloc (.cells #[.slice none 0 0, .int .i64 0] 26)) := (Below.refl _ _).alloc (Nat.le_refl _) _
  have hR := Lib.hid (held_new w 26 #[.slice none 0 0, .int .i64 0])
  have hN := Lib.hid (new_any A n c (w.alloc (.cells #[.slice none 0 0, .int .i64 0] 26)))
  have hsz : w.heap.size < (w.alloc (.cells #[.slice none 0 0, .int .i64 0] 26)).heap.size := by simp
  have hPn := Lib.hid (fun (w1 : World) (hb : Below w.heap.size w w1) => psr_new h hb 47 (by decide) (by decide))
  have hBr := Lib.hid (fun (w2 : World) (B T : Nat) (hP : Psr w2 B T A n c l (.slice none 0 0) [] 0 0 noCl 0) => br_all n false w2 B T A n c l _ [] 0 0 noCl hP (by omega))
  have hn := Lib.hid h.1
  replace hb1 := Lib.hid hb1
  clear h
  unfold psrC noCl at hN hPn
  go_enter Tryz.func6, Tryz.ntmps6
  go_wp2_with (first
    | (go_at_call 13; refine (hN.out).mono ?_; rintro e w1 ⟨rfl, hb⟩; have hbw := hb1.out.trans (hb.mono hb1.out.size); have hP1 := Lib.hid (hPn.out w1 hbw); have hTR : w.heap.size < w1.heap.size := Nat.lt_of_lt_of_le hsz hb.size; have hRk := Lib.hid (hR.out.keep hb); replace hbw := Lib.hid hbw; clear hb)
    | (go_at_call 15; refine (hBr.out _ _ _ hP1.out).mono ?_; intro y w3 hy; rcases hy with ⟨x, v2, ns2, g2, i2, cl2, ns1, ps2, rfl, ok2, h2, k2, q1, q2, q3, q4, q5, q6⟩ | ⟨v2, ns2, g2, i2, cl2, e2, he2, rfl, h2, k2, q6⟩
       all_goals first
         | (have hst := q6 [] rfl
            have hir := (hst.inv inv0).right q4
            have hen := Lib.hid (hst.ends (.fin (show step l ⟨.L, i2, ns1, g2, cl2, ps2, []⟩ = .fin ns2 g2 by
              show stepL l ⟨.L, i2, ns1, g2, cl2, ps2, []⟩ = _
              have hq5 : i2 = n := by simpa using q5
              simp only [stepL]
              rw [if_pos (by rw [hq5, hn.out]; exact Nat.le_refl _), q4])))
            have hr := Lib.hid hir.1
            have hTo := Lib.hid (told_ok h2 hir.1 hir.2.2.1 x hir.2.1)
            have hR3 := Lib.hid (((hRk.out.alloc _)).chp k2 (by omega) (by intro e; cases e))
            have hb3 := Lib.hid ((hbw.out.alloc hbw.out.size _).trans (k2.below (by have := hbw.out.size; simp; omega) (by omega) (fun k e => by cases e)))
            clear h2 k2 q1 q2 q3 q4 q5 q6 hst hir ok2)
         | (have hTo := Lib.hid (told_bad h2 he2 (-1))
            have hR3 := Lib.hid (((hRk.out.alloc _)).chp k2 (by omega) (by intro e; cases e))
            have hb3 := Lib.hid ((hbw.out.alloc hbw.out.size _).trans (k2.below (by have := hbw.out.size; simp; omega) (by omega) (fun k e => by cases e)))
            have hen := Lib.hid (q6 [] rfl)
            replace he2 := Lib.hid he2
            clear h2 k2 q6))
    | (go_at_call 14; refine (hTo.out).mono ?_; intro y w4 hy; first
       | (obtain ⟨v4, rfl, ho4, hb4⟩ := hy; obtain ⟨A4, c4, rfl, -, -, -, -⟩ := own_nods ho4; replace ho4 := Lib.hid ho4; have hR4 := Lib.hid (hR3.out.keep hb4); have z := hR4.out.at_ (i := 0) rfl; have z1 := hR4.out.at_ (i := 1) rfl; have y0 := hR4.out.thawed 0; have y1 := hR4.out.thawed 1; replace hb4 := Lib.hid (hb3.out.trans (hb4.mono hb3.out.size)))
       | (obtain ⟨rfl, hb4⟩ := hy; have hR4 := Lib.hid (hR3.out.keep hb4); have z := hR4.out.at_ (i := 0) rfl; have z1 := hR4.out.at_ (i := 1) rfl; have y0 := hR4.out.thawed 0; have y1 := hR4.out.thawed 1; replace hb4 := Lib.hid (hb3.out.trans (hb4.mono hb3.out.size)))))
  · have hown : (w4.setCell ⟨w.heap.size, 0, none⟩ (.slice A4 ns2.length c4)).setCell ⟨w.heap.size, 1, none⟩ (.int .i64 (g2 : Int)) |>.ownsRow w.heap.size 39 10 (.slice A4 ns2.length c4) ns2.length (nodsL ns2) :=
      own_low (own_far (hR4.out.put 0 (.slice A4 ns2.length c4)) (by decide) (own_far hR4.out (by decide) ho4.out 0 _) 1 _) hb3.out.size
    exact bodyPost_ret (v := .tuple #[.agg #[.slice A4 ns2.length c4, .int .i64 (g2 : Int)], .int .i64 0, .int .i64 0]) (results_cell_three Tryz.results6 _ _ w.heap.size 26 #[.slice A4 ns2.length c4, .int .i64 (g2 : Int)] (0, 0) _ rfl rfl rfl ((hR4.out.put 0 _).put 1 _) Tryz.underlying26 rfl (by kernel_rfl)) rfl
      (.inl ⟨_, ns2, g2, rfl, hen.out, hr.out, hown, (hb4.out.setCell (p := ⟨w.heap.size, 0, none⟩) (Nat.le_refl _) _).setCell (p := ⟨w.heap.size, 1, none⟩) (Nat.le_refl _) _⟩)
  · exact bodyPost_ret (v := .tuple #[.agg #[.slice none 0 0, .int .i64 0], .int .i64 (i2 : Int), .int .i64 (e2 : Int)]) (results_cell_three Tryz.results6 _ _ w.heap.size 26 #[.slice none 0 0, .int .i64 0] (0, 0) _ rfl rfl rfl ((hR4.out.put 0 _).put 1 _) Tryz.underlying26 rfl (by kernel_rfl)) rfl
      (.inr ⟨i2, e2, he2.out, rfl, hen.out, (hb4.out.setCell (p := ⟨w.heap.size, 0, none⟩) (Nat.le_refl _) _).setCell (p := ⟨w.heap.size, 1, none⟩) (Nat.le_refl _) _⟩)
end Go.Proofs.YtnfbgpjadnlgbaaGreat

namespace Go.Proofs.YtnfbgpjadnlgbaaGreat
open Go.RowKit

def runS : Nat → List UInt8 → Cf → Rs
  | 0, _, c => .go c
  | k + 1, t, c => match step t c with
    | .go c' => runS k t c'
    | .bad i e => .bad i e
    | .fin ns g => .fin ns g
theorem runS_ends : ∀ (k : Nat) (t : List UInt8) (c : Cf) (r : Rs), runS k t c = r → (∀ c2, r ≠ .go c2) → Ends t c r
  | 0, t, c, r, h, hr => absurd h.symm (hr c)
  | k + 1, t, c, r, h, hr => by
    unfold runS at h
    cases hs : step t c with
    | go c' =>
      rw [hs] at h
      obtain ⟨c2, h1, h2, h3⟩ := runS_ends k t c' r h hr
      exact ⟨c2, .head hs h1, h2, h3⟩
    | bad i e => rw [hs] at h; exact ⟨c, .refl c, by rw [hs]; exact h, hr⟩
    | fin ns g => rw [hs] at h; exact ⟨c, .refl c, by rw [hs]; exact h, hr⟩
theorem ends_fin {k : Nat} {t : List UInt8} {ns : List Nod} {g : Nat} (h : runS k t cf0 = .fin ns g) : Ends t cf0 (.fin ns g) := runS_ends k t cf0 _ h fun _ => by simp
theorem ends_bad {k : Nat} {t : List UInt8} {p q : Nat} (h : runS k t cf0 = .bad p q) : Ends t cf0 (.bad p q) := runS_ends k t cf0 _ h fun _ => by simp
theorem bparse_fin {A : Option Addr} {n c : Nat} {l : List UInt8} {w : World} (h : Inp w A n c l) {ns : List Nod} {g k : Nat} (he : Ends l cf0 (.fin ns g)) (hk : ns.length = k) :
    Calls Tryz.prog 6 #[.slice A n c] w (FinR w ns g k) := by
  subst hk
  refine (bparse_any h).mono fun e w' hh => ?_
  rcases hh with ⟨v, ns', g', e1, h1, h2, h3, h4⟩ | ⟨p, q, _, _, h1, _⟩
  · have := h1.det he
    injection this with e2 e3
    subst e2
    subst e3
    obtain ⟨q, cap, rfl, _, h5, h6⟩ := own_at h3 (rightN_len h2).1
    exact ⟨q, cap, e1, h3, h4, h5, h6⟩
  · cases h1.det he
theorem bparse_bad {A : Option Addr} {n c : Nat} {l : List UInt8} {w : World} (h : Inp w A n c l) {p q : Nat} (he : Ends l cf0 (.bad p q)) :
    Calls Tryz.prog 6 #[.slice A n c] w fun e w' => e = .returned (.tuple #[.agg #[.slice none 0 0, .int .i64 0], .int .i64 (p : Int), .int .i64 (q : Int)]) ∧ Below w.heap.size w w' := by
  refine (bparse_any h).mono fun e w' hh => ?_
  rcases hh with ⟨v, ns', g', e1, h1, h2, h3, h4⟩ | ⟨p', q', _, e1, h1, hb⟩
  · cases h1.det he
  · have := h1.det he
    injection this with e2 e3
    subst e2
    subst e3
    exact ⟨e1, hb⟩
/-- The second node of a* stays a repetition. -/
structure OwnC (w : World) (q : Nat) : Prop where
  lt : q < w.heap.size
  kind : w.cell? ⟨q, 10, none⟩ = some (.int .i64 4)
theorem OwnC.keep {w w' : World} {q : Nat} (h : OwnC w q) (hb : Below w.heap.size w w') : OwnC w' q := ⟨Nat.lt_of_lt_of_le h.lt hb.size, (hb.cell (p := ⟨q, 10, none⟩) h.lt).trans h.kind⟩
theorem OwnC.alloc {w : World} {q : Nat} (h : OwnC w q) (o : Obj) : OwnC (w.alloc o) q := h.keep ((Below.refl _ _).alloc (Nat.le_refl _) o)
theorem OwnC.mk' {w : World} {B q cap : Nat} (h : w.ownsRow B 39 10 (.slice (some ⟨q, 0, none⟩) 2 cap) 2 (nodsL [setN (ofL [97]), repN 0 0 (-1)])) : OwnC w q :=
  ⟨(h.lt q rfl).2, by rw [h.cellAt 10 (by decide)]; rfl⟩
theorem aw1 : Ends [97, 42] cf0 (.fin [setN (ofL [97]), repN 0 0 (-1)] 0) := ends_fin (k := 10) (by rfl)
theorem aw2 : Ends [42, 97] cf0 (.fin [setN (ofL [42]), setN (ofL [97]), twoN 2 0 1] 0) := ends_fin (k := 10) (by rfl)
theorem aw3 : ∃ ns, ns.length = 4 ∧ Ends [92, 40, 97, 92, 41, 92, 49] cf0 (.fin ns 1) := ⟨[setN (ofL [97]), groupN 1 0, backN 1, twoN 2 1 2], rfl, ends_fin (k := 20) (by rfl)⟩
theorem aw4 : Ends [97, 98, 92, 40] cf0 (.bad 4 14) := ends_bad (k := 12) (by rfl)

set_option maxHeartbeats 8000000 in
theorem awake_any (w : World) (hm : Mx w) : Calls Tryz.prog 5 #[] w fun e w' => e = .returned (.bool true) ∧ Below w.heap.size w w' := by
  obtain ⟨ns3, hn3, he3⟩ := aw3
  have hP1 := Lib.hid (show ∀ w, Mx w → Calls Tryz.prog 6 #[.slice (some ⟨w.heap.size, 0, none⟩) 2 2] (w.alloc (.cells #[.int .u8 97, .int .u8 42] 5 (2, 3))) (FinR _ _ 0 2) from fun w hm => bparse_fin (const_inp hm [97, 42] 2 rfl (by decide) (2, 3)) aw1 rfl)
  have hP2 := Lib.hid (show ∀ w, Mx w → Calls Tryz.prog 6 #[.slice (some ⟨w.heap.size, 0, none⟩) 2 2] (w.alloc (.cells #[.int .u8 42, .int .u8 97] 5 (2, 3))) (FinR _ _ 0 3) from fun w hm => bparse_fin (const_inp hm [42, 97] 2 rfl (by decide) (2, 3)) aw2 rfl)
  have hP3 := Lib.hid (show ∀ w, Mx w → Calls Tryz.prog 6 #[.slice (some ⟨w.heap.size, 0, none⟩) 7 7] (w.alloc (.cells #[.int .u8 92, .int .u8 40, .int .u8 97, .int .u8 92, .int .u8 41, .int .u8 92, .int .u8 49] 5 (7, 8))) (FinR _ ns3 1 4) from fun w hm => bparse_fin (const_inp hm [92, 40, 97, 92, 41, 92, 49] 7 rfl (by decide) (7, 8)) he3 hn3)
  have hP4 := Lib.hid (show ∀ w, Mx w → Calls Tryz.prog 6 #[.slice (some ⟨w.heap.size, 0, none⟩) 4 4] (w.alloc (.cells #[.int .u8 97, .int .u8 98, .int .u8 92, .int .u8 40] 5 (4, 5))) (fun e w' => e = .returned (.tuple #[.agg #[.slice none 0 0, .int .i64 0], .int .i64 4, .int .i64 14]) ∧ Below (w.heap.size + 1) (w.alloc (.cells #[.int .u8 97, .int .u8 98, .int .u8 92, .int .u8 40] 5 (4, 5))) w') from fun w hm => by
    have := bparse_bad (const_inp hm [97, 98, 92, 40] 4 rfl (by decide) (4, 5)) aw4
    rw [sizeA'] at this
    exact this)
  have hm' := Lib.hid hm
  have kc := fun (w : World) (C : Array Value) (n c : Nat) => Lib.run_convert_bytes_const (P := Tryz.prog) w 22 5 C n c Tryz.underlying22 Tryz.underlying5
  have kc2 := fun (w : World) (o : Obj) (C : Array Value) (n c : Nat) => (by have := kc (w.alloc o) C n c; rw [sizeA'] at this; exact this : (convert 22 22 (.slice (some ⟨w.heap.size + 1, 0, none⟩) n c)).run Tryz.prog ((w.alloc o).alloc (.cells C 5)) = .ok (.slice (some ⟨w.heap.size + 1, 0, none⟩) n c) ((w.alloc o).alloc (.cells C 5 (C.size, C.size + 1))))
  replace hP2 := Lib.hid (fun (w : World) (o : Obj) (hm : Mx (w.alloc o)) => (by have := hP2.out (w.alloc o) hm; rw [sizeA'] at this; exact this : Calls Tryz.prog 6 #[.slice (some ⟨w.heap.size + 1, 0, none⟩) 2 2] ((w.alloc o).alloc (.cells #[.int .u8 42, .int .u8 97] 5 (2, 3))) (FinR ((w.alloc o).alloc (.cells #[.int .u8 42, .int .u8 97] 5 (2, 3))) [setN (ofL [42]), setN (ofL [97]), twoN 2 0 1] 0 3)))
  replace hP3 := Lib.hid (fun (w : World) (o : Obj) (hm : Mx (w.alloc o)) => (by have := hP3.out (w.alloc o) hm; rw [sizeA'] at this; exact this : Calls Tryz.prog 6 #[.slice (some ⟨w.heap.size + 1, 0, none⟩) 7 7] ((w.alloc o).alloc (.cells #[.int .u8 92, .int .u8 40, .int .u8 97, .int .u8 92, .int .u8 41, .int .u8 92, .int .u8 49] 5 (7, 8))) (FinR ((w.alloc o).alloc (.cells #[.int .u8 92, .int .u8 40, .int .u8 97, .int .u8 92, .int .u8 41, .int .u8 92, .int .u8 49] 5 (7, 8))) ns3 1 4)))
  replace hP4 := Lib.hid (fun (w : World) (o : Obj) (hm : Mx (w.alloc o)) => (by have := hP4.out (w.alloc o) hm; rw [sizeA'] at this; exact this.mono fun e w' h => ⟨h.1, by rw [sizeA', sizeA']; exact h.2⟩ : Calls Tryz.prog 6 #[.slice (some ⟨w.heap.size + 1, 0, none⟩) 4 4] ((w.alloc o).alloc (.cells #[.int .u8 97, .int .u8 98, .int .u8 92, .int .u8 40] 5 (4, 5))) (fun e w' => e = .returned (.tuple #[.agg #[.slice none 0 0, .int .i64 0], .int .i64 4, .int .i64 14]) ∧ Below ((w.alloc o).alloc (.cells #[.int .u8 97, .int .u8 98, .int .u8 92, .int .u8 40] 5 (4, 5))).heap.size ((w.alloc o).alloc (.cells #[.int .u8 97, .int .u8 98, .int .u8 92, .int .u8 40] 5 (4, 5))) w')))
  clear hm hn3 he3
  go_enter Tryz.func5, Tryz.ntmps5
  go_wp2_with (first
    | (go_at_call 6; with_reducible show Calls _ _ _ (World.alloc w _) _; refine (hP1.out _ hm'.out).mono ?_; intro e w1 hy; obtain ⟨q1, c1, rfl, ho1, hb1, -, -⟩ := hy.ex; have hL1 := (((Below.refl w.heap.size w).alloc (Nat.le_refl _) _).trans (hb1.mono (le_alloc _ _))); have hR1 := Lib.hid (held_new w1 26 #[(.slice (some ⟨q1, 0, none⟩) 2 c1), .int .i64 0]); have hO1 := Lib.hid ((OwnC.mk' ho1).alloc (.cells #[(.slice (some ⟨q1, 0, none⟩) 2 c1), .int .i64 0] 26)); replace hL1 := Lib.hid (hL1.alloc hL1.size (.cells #[(.slice (some ⟨q1, 0, none⟩) 2 c1), .int .i64 0] 26)))
    | (go_at_call 6; with_reducible show Calls _ _ _ (World.alloc (World.alloc w1 _) _) _; refine (hP2.out _ _ (hm'.out.grow hL1.out)).mono ?_; intro e w2 hy; obtain ⟨q2, c2, rfl, -, hb2, -, -⟩ := hy.ex; have hL2 := hL1.out.trans ((((Below.refl (w1.alloc (.cells #[(.slice (some ⟨q1, 0, none⟩) 2 c1), .int .i64 0] 26)).heap.size (w1.alloc (.cells #[(.slice (some ⟨q1, 0, none⟩) 2 c1), .int .i64 0] 26))).alloc (Nat.le_refl _) _).trans (hb2.mono (le_alloc _ _))).mono hL1.out.size); replace hR1 := Lib.hid (((hR1.out.alloc _).keep hb2).alloc (.cells #[(.slice (some ⟨q2, 0, none⟩) 3 c2), .int .i64 0] 26)); have hR2 := Lib.hid (held_new w2 26 #[(.slice (some ⟨q2, 0, none⟩) 3 c2), .int .i64 0]); replace hO1 := Lib.hid (((hO1.out.alloc _).keep hb2).alloc (.cells #[(.slice (some ⟨q2, 0, none⟩) 3 c2), .int .i64 0] 26)); replace hL2 := Lib.hid (hL2.alloc hL2.size (.cells #[(.slice (some ⟨q2, 0, none⟩) 3 c2), .int .i64 0] 26)))
    | (go_at_call 6; with_reducible show Calls _ _ _ (World.alloc (World.alloc w2 _) _) _; refine (hP3.out _ _ (hm'.out.grow hL2.out)).mono ?_; intro e w3 hy; obtain ⟨q3, c3, rfl, -, hb3, -, -⟩ := hy.ex; have hL3 := hL2.out.trans ((((Below.refl (w2.alloc (.cells #[(.slice (some ⟨q2, 0, none⟩) 3 c2), .int .i64 0] 26)).heap.size (w2.alloc (.cells #[(.slice (some ⟨q2, 0, none⟩) 3 c2), .int .i64 0] 26))).alloc (Nat.le_refl _) _).trans (hb3.mono (le_alloc _ _))).mono hL2.out.size); replace hR1 := Lib.hid (((hR1.out.alloc _).keep hb3).alloc (.cells #[(.slice (some ⟨q3, 0, none⟩) 4 c3), .int .i64 1] 26)); replace hR2 := Lib.hid (((hR2.out.alloc _).keep hb3).alloc (.cells #[(.slice (some ⟨q3, 0, none⟩) 4 c3), .int .i64 1] 26)); have hR3 := Lib.hid (held_new w3 26 #[(.slice (some ⟨q3, 0, none⟩) 4 c3), .int .i64 1]); replace hO1 := Lib.hid (((hO1.out.alloc _).keep hb3).alloc (.cells #[(.slice (some ⟨q3, 0, none⟩) 4 c3), .int .i64 1] 26)); replace hL3 := Lib.hid (hL3.alloc hL3.size (.cells #[(.slice (some ⟨q3, 0, none⟩) 4 c3), .int .i64 1] 26)))
    | (go_at_call 6; with_reducible show Calls _ _ _ (World.alloc (World.alloc w3 _) _) _; refine (hP4.out _ _ (hm'.out.grow hL3.out)).mono ?_; intro e w4 hy; obtain ⟨rfl, hb4⟩ := hy; have hL4 := hL3.out.trans ((((Below.refl (w3.alloc (.cells #[(.slice (some ⟨q3, 0, none⟩) 4 c3), .int .i64 1] 26)).heap.size (w3.alloc (.cells #[(.slice (some ⟨q3, 0, none⟩) 4 c3), .int .i64 1] 26))).alloc (Nat.le_refl _) _).trans (hb4.mono (le_alloc _ _))).mono hL3.out.size); replace hR1 := Lib.hid (((hR1.out.alloc _).keep hb4).alloc (.cells #[(.slice none 0 0), .int .i64 0] 26)); replace hR2 := Lib.hid (((hR2.out.alloc _).keep hb4).alloc (.cells #[(.slice none 0 0), .int .i64 0] 26)); replace hR3 := Lib.hid (((hR3.out.alloc _).keep hb4).alloc (.cells #[(.slice none 0 0), .int .i64 0] 26)); have hR4 := Lib.hid (held_new w4 26 #[(.slice none 0 0), .int .i64 0]); replace hO1 := Lib.hid (((hO1.out.alloc _).keep hb4).alloc (.cells #[(.slice none 0 0), .int .i64 0] 26)); replace hL4 := Lib.hid (hL4.alloc hL4.size (.cells #[(.slice none 0 0), .int .i64 0] 26)); have z1 := hR1.out.at_ (i := 0) rfl; have z2 := hR2.out.at_ (i := 0) rfl; have z3 := hR3.out.at_ (i := 1) rfl; have z4 := hO1.out.kind))
  go_ret
  exact ⟨rfl, hL4.out⟩
end Go.Proofs.YtnfbgpjadnlgbaaGreat
