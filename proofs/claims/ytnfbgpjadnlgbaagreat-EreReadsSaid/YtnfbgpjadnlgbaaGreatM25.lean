/- What the calls of the parser of basic texts leave, by the machine; contract of Paren, given those of branch. What a builder's call and Put behind it leave; what is left to read. Contracts of the parser of basic texts: dollar, atom, given those of branch. -/
import Derived.Test.YtnfbgpjadnlgbaaGreatM24
import Derived.Deep.RegionWith
set_option linter.unusedVariables false
set_option maxRecDepth 100000
namespace Go.Proofs.YtnfbgpjadnlgbaaGreat
open Go.RowKit

/-- A node was read (pc: and it is a piece), or it went wrong. -/
def YNode (pc : Bool) (w : World) (B T : Nat) (A : Option Addr) (n c : Nat) (l : List UInt8) (v : Value) (ns : List Nod) (g i : Nat) (cl : Nat → Bool) (inG : Bool) (e : Ending) (w' : World) : Prop :=
  (∃ x v' ns' g' i' cl', e = .returned (.int .i64 x) ∧ okP (ns'.length : Int) x = true ∧ Psr w' B T A n c l v' ns' g' i' cl' 0 ∧ ChP w w' T v v' ∧ ns.length ≤ ns'.length ∧ g ≤ g' ∧ i < i' ∧
    ∀ ps lv, lv.isEmpty = !inG → Steps l ⟨.L, i, ns, g, cl, ps, lv⟩ ⟨toC pc x, i', ns', g', cl', toP pc x ps, lv⟩) ∨
  (∃ v' ns' g' i' cl' q, q ≠ 0 ∧ e = .returned (.int .i64 (-1)) ∧ Psr w' B T A n c l v' ns' g' i' cl' q ∧ ChP w w' T v v' ∧ ∀ ps lv, lv.isEmpty = !inG → Ends l ⟨.L, i, ns, g, cl, ps, lv⟩ (.bad i' q))
/-- A branch was read, or it went wrong. -/
def YBranch (w : World) (B T : Nat) (A : Option Addr) (n c : Nat) (l : List UInt8) (v : Value) (ns : List Nod) (g i : Nat) (cl : Nat → Bool) (inG : Bool) (e : Ending) (w' : World) : Prop :=
  (∃ x v' ns' g' i' cl' ns1 ps', e = .returned (.int .i64 x) ∧ okP (ns'.length : Int) x = true ∧ Psr w' B T A n c l v' ns' g' i' cl' 0 ∧ ChP w w' T v v' ∧ ns.length ≤ ns'.length ∧ g ≤ g' ∧ i ≤ i' ∧ catS ns1 ps' = some (x, ns') ∧
    (if inG then bg [92, 41] (l.drop i') = true else i' = n) ∧ ∀ lv, lv.isEmpty = !inG → Steps l ⟨.B, i, ns, g, cl, [], lv⟩ ⟨.L, i', ns1, g', cl', ps', lv⟩) ∨
  (∃ v' ns' g' i' cl' q, q ≠ 0 ∧ e = .returned (.int .i64 (-1)) ∧ Psr w' B T A n c l v' ns' g' i' cl' q ∧ ChP w w' T v v' ∧ ∀ lv, lv.isEmpty = !inG → Ends l ⟨.B, i, ns, g, cl, [], lv⟩ (.bad i' q))
/-- Branches are read of which so much is left. -/
def BrOK (k : Nat) : Prop := ∀ (inG : Bool) (w : World) (B T : Nat) (A : Option Addr) (n c : Nat) (l : List UInt8) (v : Value) (ns : List Nod) (g i : Nat) (cl : Nat → Bool), Psr w B T A n c l v ns g i cl 0 → n - i = k →
  Calls Tryz.prog 15 #[.pointer (some ⟨T, 0, none⟩), .bool inG] w (YBranch w B T A n c l v ns g i cl inG)

section
variable {t : List UInt8} {i : Nat} {ns : List Nod} {g : Nat} {cl : Nat → Bool} {ps : List Int} {lv : List (Nat × List Int)} {inG : Bool}
theorem step_atom (hi : i < t.length) (hc : inG = true → bg [92, 41] (t.drop i) = false) (hlv : lv.isEmpty = !inG) : step t ⟨.L, i, ns, g, cl, ps, lv⟩ = stepA ⟨.L, i, ns, g, cl, ps, lv⟩ (atomA t i) := by
  have hni : ¬ t.length ≤ i := by omega
  cases lv with
  | nil => show stepL t ⟨.L, i, ns, g, cl, ps, []⟩ = _; simp only [stepL]; rw [if_neg hni]
  | cons a lv =>
    obtain ⟨q, p⟩ := a
    have hg : inG = true := by cases inG <;> simp at hlv ⊢
    show stepL t ⟨.L, i, ns, g, cl, ps, (q, p) :: lv⟩ = _
    simp only [stepL]
    rw [if_neg hni, if_neg (by rw [hc hg]; decide)]
theorem step_close {q : Nat} {x : Int} {ns' : List Nod} {p : List Int} (hb : bg [92, 41] (t.drop i) = true) (hc : catS ns ps = some (x, ns')) (hl : ns'.length < 1000) :
    step t ⟨.L, i, ns, g, cl, ps, (q, p) :: lv⟩ = .go ⟨.P (ns'.length : Int), i + 2, ns' ++ [groupN (q : Int) x], g, setQ cl q, p, lv⟩ := by
  have hni : ¬ t.length ≤ i := by have := bg_room hb; simp at this; omega
  show stepL t ⟨.L, i, ns, g, cl, ps, (q, p) :: lv⟩ = _
  simp only [stepL, putS]
  rw [if_neg hni, if_pos hb, hc]
  simp only
  rw [if_pos hl]
theorem step_close_full {q : Nat} {x : Int} {ns' : List Nod} {p : List Int} (hb : bg [92, 41] (t.drop i) = true) (hc : catS ns ps = some (x, ns')) (hl : ¬ ns'.length < 1000) :
    step t ⟨.L, i, ns, g, cl, ps, (q, p) :: lv⟩ = .bad (i + 2) 8 := by
  have hni : ¬ t.length ≤ i := by have := bg_room hb; simp at this; omega
  show stepL t ⟨.L, i, ns, g, cl, ps, (q, p) :: lv⟩ = _
  simp only [stepL, putS]
  rw [if_neg hni, if_pos hb, hc]
  simp only
  rw [if_neg hl]
end
section
variable {w w' : World} {B T : Nat} {A : Option Addr} {n c : Nat} {l : List UInt8} {v v' : Value} {ns ns' : List Nod} {g g' i i' : Nat} {cl cl' : Nat → Bool} {inG : Bool} {e : Ending}
theorem YPut.node {j : Nat} {nd : Nod} (h : YPut w B T A n c l v ns g cl j nd e w') (hi : i < l.length) (hc : inG = true → bg [92, 41] (l.drop i) = false) (ha : atomA l i = .nod j nd) (hj : i < j) : YNode false w B T A n c l v ns g i cl inG e w' := by
  rcases h with ⟨hl, v', rfl, k, m⟩ | ⟨hl, v', rfl, k, m⟩
  · refine .inl ⟨_, v', _, _, _, _, rfl, ?_, k, m, by simp, Nat.le_refl _, hj, fun ps lv hlv => .one ?_⟩
    · rw [List.length_append]; exact okP_last _
    · rw [step_atom hi hc hlv, ha]
      simp only [stepA, putS]
      rw [if_pos hl]; rfl
  · refine .inr ⟨v', _, _, _, _, _, by decide, rfl, k, m, fun ps lv hlv => .bad ?_⟩
    rw [step_atom hi hc hlv, ha]
    simp only [stepA, putS]
    rw [if_neg hl]
theorem YPut.bak {q : Nat} (h : YPut w B T A n c l v ns g cl (i + 2) (backN (q : Int)) e w') (hi : i < l.length) (hc : inG = true → bg [92, 41] (l.drop i) = false) (ha : atomA l i = .bak q) (hq : cl q = true) : YNode false w B T A n c l v ns g i cl inG e w' := by
  rcases h with ⟨hl, v', rfl, k, m⟩ | ⟨hl, v', rfl, k, m⟩
  · refine .inl ⟨_, v', _, _, _, _, rfl, ?_, k, m, by simp, Nat.le_refl _, by omega, fun ps lv hlv => .one ?_⟩
    · rw [List.length_append]; exact okP_last _
    · rw [step_atom hi hc hlv, ha]
      simp only [stepA, putS]
      rw [if_pos hq, if_pos hl]; rfl
  · refine .inr ⟨v', _, _, _, _, _, by decide, rfl, k, m, fun ps lv hlv => .bad ?_⟩
    rw [step_atom hi hc hlv, ha]
    simp only [stepA, putS]
    rw [if_pos hq, if_neg hl]
theorem YBad.node {q : Nat} (h : YBad w B T A n c l v i q e w') (hi : i < l.length) (hc : inG = true → bg [92, 41] (l.drop i) = false) (hs : ∀ ps lv, stepA ⟨.L, i, ns, g, cl, ps, lv⟩ (atomA l i) = .bad i q) (hq : q ≠ 0) : YNode false w B T A n c l v ns g i cl inG e w' := by
  obtain ⟨v', ns', g', cl', rfl, k, m⟩ := h
  refine .inr ⟨v', _, _, _, _, _, hq, rfl, k, m, fun ps lv hlv => .bad ?_⟩
  rw [step_atom hi hc hlv, hs]
theorem YNode.ret {pc : Bool} (h : YNode pc w B T A n c l v ns g i cl inG e w') : ∃ z, e = .returned (.int .i64 z) ∧ YNode pc w B T A n c l v ns g i cl inG (.returned (.int .i64 z)) w' := by
  rcases h with ⟨x, v', ns', g', i', cl', rfl, h⟩ | ⟨v', ns', g', i', cl', q, hq, rfl, h⟩
  · exact ⟨_, rfl, .inl ⟨x, v', ns', g', i', cl', rfl, h⟩⟩
  · exact ⟨_, rfl, .inr ⟨v', ns', g', i', cl', q, hq, rfl, h⟩⟩
theorem YNode.from {pc : Bool} {w0 : World} {v0 : Value} (h : YNode pc w B T A n c l v ns g i cl inG e w') (h0 : ChP w0 w T v0 v) : YNode pc w0 B T A n c l v0 ns g i cl inG e w' := by
  rcases h with ⟨x, v', ns', g', i', cl', h1, h2, h3, h4, h5⟩ | ⟨v', ns', g', i', cl', q, h1, h2, h3, h4, h5⟩
  · exact .inl ⟨x, v', ns', g', i', cl', h1, h2, h3, h0.trans h4, h5⟩
  · exact .inr ⟨v', ns', g', i', cl', q, h1, h2, h3, h0.trans h4, h5⟩
theorem YBranch.ret (h : YBranch w B T A n c l v ns g i cl inG e w') : ∃ z, e = .returned (.int .i64 z) ∧ YBranch w B T A n c l v ns g i cl inG (.returned (.int .i64 z)) w' := by
  rcases h with ⟨x, v', ns', g', i', cl', ns1, ps', rfl, h⟩ | ⟨v', ns', g', i', cl', q, hq, rfl, h⟩
  · exact ⟨_, rfl, .inl ⟨x, v', ns', g', i', cl', ns1, ps', rfl, h⟩⟩
  · exact ⟨_, rfl, .inr ⟨v', ns', g', i', cl', q, hq, rfl, h⟩⟩
theorem YAm.node {a : Am} (h : YAm w B T A n c l v ns g i cl a e w') (hi : i < l.length) (hc : inG = true → bg [92, 41] (l.drop i) = false) (ha : atomA l i = a) (hq : ∀ q, a = .bad q → q ≠ 0) (hj : ∀ j nd, a = .nod j nd → i < j) : YNode false w B T A n c l v ns g i cl inG e w' := by
  cases a with
  | bad q => exact YBad.node h hi hc (fun ps lv => by rw [ha]; rfl) (hq q rfl)
  | opn => exact h.elim
  | bak q =>
    unfold YAm at h
    simp only at h
    split at h
    · rename_i hcl; exact YPut.bak h hi hc ha hcl
    · rename_i hcl; exact YBad.node h hi hc (fun ps lv => by rw [ha]; simp only [stepA]; rw [if_neg hcl]) (by decide)
  | nod j nd => exact YPut.node h hi hc ha (hj j nd rfl)
end
theorem atom_opn {t : List UInt8} {i : Nat} (h : bg [92, 40] (t.drop i) = true) : atomA t i = .opn := by
  obtain ⟨r, hr⟩ := drop_two h
  unfold atomA
  rw [hr]; rfl

/-- The function that reads what stands in a group: it holds a cell with the parser. -/
theorem binner_any {w2 : World} {G T : Nat} {P : Ending → World → Prop} (hG : Held w2 G 64 #[.pointer (some ⟨T, 0, none⟩)]) (hP : ∀ e w', P e w' → ∃ z, e = .returned (.int .i64 z) ∧ P (.returned (.int .i64 z)) w')
    (hB : Calls Tryz.prog 15 #[.pointer (some ⟨T, 0, none⟩), .bool true] w2 P) : Calls Tryz.prog 63 #[.pointer (some ⟨G, 0, none⟩)] w2 P := by
  have z := hG.at_ (i := 0) rfl
  have hB' := Lib.hid hB
  have hP' := Lib.hid hP
  clear hB hP hG
  go_enter Tryz.func63, Tryz.ntmps63
  go_wp2_with (go_at_call 15; refine (hB'.out).mono ?_; intro x w3 hy; obtain ⟨z, rfl, hy⟩ := hP'.out _ _ hy; replace hy := Lib.hid hy)
  (try go_ret)
  exact hy.out

section
variable {w : World} {B T : Nat} {A : Option Addr} {n c : Nat} {l : List UInt8} {v : Value} {ns : List Nod} {g i : Nat} {cl : Nat → Bool} (h : Psr w B T A n c l v ns g i cl 0) {inG : Bool} (hx : bg [92, 40] (l.drop i) = true)
include h hx

set_option maxHeartbeats 4000000 in
theorem bparen_full (hg : g = 9) (f : Value) : Calls Tryz.prog 62 #[.pointer (some ⟨T, 0, none⟩), .string ⟨#[92, 40]⟩, .string ⟨#[92, 41]⟩, f] w (YNode false w B T A n c l v ns g i cl inG) := by
  have hrm := bg_room hx
  simp at hrm
  have hO := Lib.hid (open_any B T 0 v ns g w h.bldr)
  have hP := Lib.hid h
  rw [show openI g = -1 by simp [openI, hg], show openG g = g by simp [openG, hg]] at hO
  have hfin := Lib.hid (fun (w' : World) (x : Ending) (y : YBad w B T A n c l v i 17 x w') => y.node (inG := inG) (ns := ns) (g := g) (cl := cl) (by omega) (fun _ => by obtain ⟨r, hr⟩ := drop_two hx; rw [hr]; rfl) (fun ps lv => by rw [atom_opn hx]; simp [stepA, hg]) (by decide))
  clear h hx hg
  go_enter Tryz.func62, Tryz.ntmps62
  go_wp2_with (first
    | (go_at_call 78; refine (hO.out).mono ?_; rintro x w1 ⟨rfl, hb, hc⟩; have h1 := Lib.hid (hP.out.built (Nat.le_refl _) hb hc); have k1 := Lib.hid hc.chp; clear hb hc)
    | (go_at_call 43; refine (wrong_at h1.out 17 17 rfl).mono ?_; intro x w2 hy; obtain ⟨rfl, hy⟩ := hy.ret; replace hy := Lib.hid (hfin.out _ _ (hy.from k1.out))))
  go_ret
  exact hy.out

set_option maxHeartbeats 8000000 in
theorem bparen_any {G : Nat} (hG : Held w G 64 #[.pointer (some ⟨T, 0, none⟩)]) (hGT : G ≠ T) (hGv : some G ≠ v.ownBlock) (hB : ∀ k, k < n - i → BrOK k) :
    Calls Tryz.prog 62 #[.pointer (some ⟨T, 0, none⟩), .string ⟨#[92, 40]⟩, .string ⟨#[92, 41]⟩, .func (.func 63) #[] #[.pointer (some ⟨G, 0, none⟩)]] w (YNode false w B T A n c l v ns g i cl inG) := by
  by_cases hg : g = 9
  · exact bparen_full h hx hg _
  have hg9 : g < 9 := by have := h.grp; omega
  have hrm := bg_room hx
  simp at hrm
  have hnl := h.hn
  have hns : n ≤ 100000 := h.txt.2.2.2.1
  have hi2 : i + 2 ≤ n := by omega
  have hi0 : (i : Int) ≤ 100000 := by omega
  have hO := Lib.hid (open_any B T 0 v ns g w h.bldr)
  rw [show openI g = (g : Int) + 1 by simp [openI, hg9], show openG g = g + 1 by simp [openG, hg9]] at hO
  have hP := Lib.hid h
  have hq : ((g : Int) + 1 == -1) = false := by rw [beq_eq_false_iff_ne]; omega
  have hst := Lib.hid (fun (ps : List Int) (lv : List (Nat × List Int)) (hlv : lv.isEmpty = !inG) => show step l ⟨.L, i, ns, g, cl, ps, lv⟩ = .go ⟨.B, i + 2, ns, g + 1, cl, [], (g + 1, ps) :: lv⟩ from by
    rw [step_atom (by omega) (fun _ => by obtain ⟨r, hr⟩ := drop_two hx; rw [hr]; rfl) hlv, atom_opn hx]
    simp only [stepA]
    rw [if_pos hg9])
  have hTk := Lib.hid (fun (w1 : World) (h1 : Psr w1 B T A n c l v ns (g + 1) i cl 0) => take_yes h1 ⟨#[92, 40]⟩ hx 2 rfl (by decide))
  have hTe := Lib.hid (fun (w3 : World) (v3 : Value) (ns3 : List Nod) (g3 i3 : Nat) (cl3 : Nat → Bool) (h3 : Psr w3 B T A n c l v3 ns3 g3 i3 cl3 0) (hz : bg [92, 41] (l.drop i3) = true) => take_yes h3 ⟨#[92, 41]⟩ hz 2 rfl (by decide))
  have hBr := Lib.hid (fun (w2 : World) (h2 : Psr w2 B T A n c l v ns (g + 1) (i + 2) cl 0) (hG2 : Held w2 G 64 #[.pointer (some ⟨T, 0, none⟩)]) => binner_any hG2 (fun e w' y => YBranch.ret y) (hB (n - (i + 2)) (by omega) true w2 B T A n c l v ns (g + 1) (i + 2) cl h2 rfl))
  have hGh := Lib.hid hG
  have hg0 : (g : Int) + 1 ≤ 9 := by omega
  clear h hx hg hrm hB hnl hG
  go_enter Tryz.func62, Tryz.ntmps62
  go_wp2_with (first
    | (go_at_call 78; refine (hO.out).mono ?_; rintro x w1 ⟨rfl, hb, hc⟩; have h1 := Lib.hid (hP.out.built (g' := g + 1) (by omega) hb hc); have hG1 := Lib.hid (hGh.out.chp hc.chp hGT hGv); have k1 := Lib.hid hc.chp; clear hb hc)
    | (go_at_call 26; with_reducible show Calls _ _ #[_, Value.string {data := #[92, 40]}] _ _; refine (hTk.out _ h1.out).mono ?_; rintro x w9 ⟨rfl, -, h9, k9⟩; have hG9 := Lib.hid (hG1.out.chp k9 hGT hGv); replace h9 := Lib.hid h9; replace k9 := Lib.hid (k1.out.trans k9))
    | (go_at_call 63; refine (hBr.out _ h9.out hG9.out).mono ?_; intro x w2 hy; rcases hy with ⟨x, v2, ns2, g2, i2, cl2, ns1, ps2, rfl, ok2, h2, k2, q1, q2, q3, q4, q5, q6⟩ | ⟨v2, ns2, g2, i2, cl2, e2, he2, rfl, h2, k2, q6⟩
       all_goals first
         | (rw [if_pos rfl] at q5
            have hF := Lib.hid (fine_any h2)
            rw [decide_eq_true rfl] at hF
            have hTz := Lib.hid (hTe.out _ _ _ _ _ _ h2 q5)
            replace k2 := Lib.hid (k9.out.trans k2)
            replace q1 := Lib.hid q1
            replace q2 := Lib.hid q2
            replace q3 := Lib.hid q3
            replace q4 := Lib.hid q4
            replace q5 := Lib.hid q5
            replace q6 := Lib.hid q6
            replace ok2 := Lib.hid ok2
            clear h2)
         | (have hF := Lib.hid (fine_any h2)
            rw [decide_eq_false he2] at hF
            replace h2 := Lib.hid h2
            replace k2 := Lib.hid (k9.out.trans k2)
            replace q6 := Lib.hid q6
            replace he2 := Lib.hid he2))
    | (go_at_call 24; refine (hF.out).mono ?_; rintro y w4 ⟨rfl, rfl⟩)
    | (go_at_call 26; with_reducible show Calls _ _ #[_, Value.string {data := #[92, 41]}] _ _; refine (hTz.out).mono ?_; rintro y w5 ⟨rfl, hi4, h3, k3⟩; have t4 := h3.thawed (4 + (g + 1)); have c4 := h3.cQ (g + 1) (by omega); have h4 := Lib.hid (h3.ended (q := g + 1) (by omega) q2.out); have k4 := Lib.hid ((k2.out.trans k3).trans (ChP.store _ T (4 + (g + 1)) (.bool true) v2)); have hf := Lib.hid (fits_group (q := (g : Int) + 1) (g := (g2 : Int)) ok2.out (by omega) (by have := q2.out; omega)); have hgr := Lib.hid (group_any B T 0 v2 ns2 g2 _ h4.out.bldr ((g : Int) + 1) x); clear h3 k3))
  · by_cases hl : ns2.length < 1000
    · have hl' := Lib.hid hl
      go_wp2_with (first
        | (go_at_call 79; refine (hgr.out).mono ?_; intro x w5 hx2; obtain ⟨v5, rfl, h5, k5⟩ := h4.out.room hl'.out hf.out hx2; clear hx2; replace h5 := Lib.hid h5; replace k5 := Lib.hid (k4.out.trans k5))
        | (go_at_call 27; refine (put_yes T ns2.length _).mono ?_; rintro x w6 ⟨rfl, rfl⟩))
      go_ret
      refine .inl ⟨_, v5, _, g2, i2 + 2, _, rfl, ?_, h5.out, k5.out, ?_, ?_, ?_, fun ps lv hlv => ?_⟩
      · rw [List.length_append]; exact okP_last _
      · have := q1.out; rw [List.length_append]; omega
      · have := q2.out; omega
      · have := q3.out; omega
      · refine (Steps.one (hst.out ps lv hlv)).trans ((q6.out _ rfl).snoc ?_)
        exact step_close q5.out q4.out (by simpa using hl'.out)
    · have hl' := Lib.hid hl
      go_wp2_with (first
        | (go_at_call 79; refine (hgr.out).mono ?_; intro x w5 hx2; obtain ⟨v5, rfl, h5, k5⟩ := h4.out.full hl'.out hx2; clear hx2; replace h5 := Lib.hid h5; replace k5 := Lib.hid (k4.out.trans k5))
        | (go_at_call 27; refine (put_no h5.out).mono ?_; rintro x w6 ⟨rfl, h6, k6⟩; replace h6 := Lib.hid h6; replace k6 := Lib.hid (k5.out.trans k6)))
      go_ret
      refine .inr ⟨v5, _, _, _, _, _, by decide, rfl, h6.out, k6.out, fun ps lv hlv => ?_⟩
      refine (Steps.one (hst.out ps lv hlv)).ends ((q6.out _ rfl).ends (.bad ?_))
      exact step_close_full q5.out q4.out (by simpa using hl'.out)
  · go_ret
    exact .inr ⟨v2, ns2, g2, i2, cl2, e2, he2.out, rfl, h2.out, k2.out, fun ps lv hlv => (Steps.one (hst.out ps lv hlv)).ends (q6.out _ rfl)⟩
end
end Go.Proofs.YtnfbgpjadnlgbaaGreat

set_option linter.unusedVariables false
set_option maxRecDepth 100000
namespace Go.Proofs.YtnfbgpjadnlgbaaGreat
open Go.RowKit

section
variable {w : World} {B T : Nat} {A : Option Addr} {n c : Nat} {l : List UInt8} {v : Value} {ns : List Nod} {g i : Nat} {cl : Nat → Bool} {e : Nat}
/-- A builder's call, and Put. -/
theorem put_of (h : Psr w B T A n c l v ns g i cl 0) {nd : Nod} (hf : fitsN nd (ns.length : Int) (g : Int) = true) {x : Ending} {w2 : World} (hx : BldRet w B T 0 v (putI ns g nd) (putL ns g nd) g x w2) :
    ∃ z, x = .returned (.int .i64 z) ∧ Calls Tryz.prog 27 #[.pointer (some ⟨T, 0, none⟩), .int .i64 z] w2 (YPut w B T A n c l v ns g cl i nd) := by
  by_cases hl : ns.length < 1000
  · obtain ⟨v2, rfl, h2, k2⟩ := h.room hl hf hx
    exact ⟨_, rfl, (put_yes T ns.length _).mono fun e w3 ⟨e1, e2⟩ => by subst e1; subst e2; exact YPut.yes hl h2 k2⟩
  · obtain ⟨v2, rfl, h2, k2⟩ := h.full hl hx
    exact ⟨_, rfl, (put_no h2).mono fun e w3 ⟨e1, h3, k3⟩ => by subst e1; exact YPut.no hl h3 (k2.trans k3)⟩
theorem YPut.size {w' : World} {j : Nat} {nd : Nod} {x : Ending} (h : YPut w B T A n c l v ns g cl j nd x w') : w.heap.size ≤ w'.heap.size := by
  rcases h with ⟨_, v', _, _, k⟩ | ⟨_, v', _, _, k⟩
  · exact k.size
  · exact k.size
/-- What is left, by the parser's own cells. -/
def leftP (n T : Nat) (w : World) : Nat :=
  match w.cell? ⟨T, 14, none⟩, w.cell? ⟨T, 3, none⟩ with
  | some (.int _ 0), some (.int _ i) => n + 1 - i.toNat
  | _, _ => 0
theorem Psr.left (h : Psr w B T A n c l v ns g i cl 0) : leftP n T w = n + 1 - i := by
  unfold leftP; rw [h.c14, h.c3]; simp
theorem Psr.left0 (h : Psr w B T A n c l v ns g i cl e) (he : e ≠ 0) : leftP n T w = 0 := by
  unfold leftP; rw [h.c14, h.c3]
  split
  · rename_i h1 _
    simp at h1; omega
  · rfl
end
theorem Pcs.keptBy {W : Nat} {w w' : World} {pv : Value} {ps : List Int} {o : Option Nat} (h : Pcs W w pv ps) (hg : w.grownBy w' o) (ho : ∀ k, pv.ownBlock = some k → o ≠ some k) : Pcs W w' pv ps := by
  refine ⟨h.own.kept hg ?_, Nat.le_trans h.base hg.size⟩
  cases hv : pv.ownBlock with
  | none => exact .inl rfl
  | some k => exact .inr fun e => ho k hv e.symm
theorem Pcs.below_of {W : Nat} {w : World} {pv : Value} {ps : List Int} (h : Pcs W w pv ps) : ∀ k, pv.ownBlock = some k → k < w.heap.size := fun k e => (h.own.lt k e).2
theorem Pcs.sl {w : World} {W : Nat} {ps : List Int} {pv : Value} (h : Pcs W w pv ps) : ∃ A m k, pv = Value.slice A m k := by
  obtain ⟨a, b, e, -⟩ := h.slice
  exact ⟨a, _, b, e⟩

section
variable {w : World} {B T : Nat} {A : Option Addr} {n c : Nat} {l : List UInt8} {v : Value} {ns : List Nod} {g i : Nat} {cl : Nat → Bool} (h : Psr w B T A n c l v ns g i cl 0)
include h
theorem comes_is (s : ByteArray) (r : Bool) (hr : bg s.data.toList (l.drop i) = r) : Calls Tryz.prog 29 #[.pointer (some ⟨T, 0, none⟩), .string s] w fun e w' => e = .returned (.bool r) ∧ Below w.heap.size w w' := by
  have := comes_any h s
  rwa [hr] at this
end
/-- Take, whether it stands there or not. -/
theorem take_any {w : World} {B T : Nat} {A : Option Addr} {n c : Nat} {l : List UInt8} {v : Value} {ns : List Nod} {g i : Nat} {cl : Nat → Bool} {e : Nat} (h : Psr w B T A n c l v ns g i cl e) (s : ByteArray) (r : Bool) (hs : bg s.data.toList (l.drop i) = r) (m : Nat) (hm : s.size = m) (h0 : 0 < m) :
    Calls Tryz.prog 26 #[.pointer (some ⟨T, 0, none⟩), .string s] w fun x w' => x = .returned (.bool r) ∧ (r = true → i + m ≤ n) ∧ Psr w' B T A n c l v ns g (if r then i + m else i) cl e ∧ ChP w w' T v v := by
  cases r with
  | true => exact (take_yes h s hs m hm h0).mono fun x w' ⟨h1, h2, h3, h4⟩ => ⟨h1, fun _ => h2, h3, h4⟩
  | false => exact (take_no h s hs).mono fun x w' ⟨h1, h2⟩ => ⟨h1, fun e => (by cases e), h.keep h2, ChP.of_below h2⟩
theorem one_bad {t : List UInt8} {i q : Nat} (hi : i < t.length) (h : oneA t i = .bad q) : q ≠ 0 := by
  rw [one_at (List.drop_eq_getElem_cons hi)] at h
  simp only [oneR] at h
  split at h
  · cases h
  · split at h
    · unfold brkA at h
      split at h
      · rename_i hv
        simp only [Am.bad.injEq] at h
        have := readB_wrong hv
        omega
      · cases h
    · split at h
      · unfold escE at h
        repeat' split at h
        all_goals first
          | (simp only [Am.bad.injEq] at h; omega)
          | cases h
      · cases h
theorem one_nod {t : List UInt8} {i j : Nat} {nd : Nod} (hi : i < t.length) (h : oneA t i = .nod j nd) : i < j := by
  rw [one_at (List.drop_eq_getElem_cons hi)] at h
  simp only [oneR] at h
  split at h
  · simp only [Am.nod.injEq] at h; omega
  · split at h
    · unfold brkA at h
      split at h
      · cases h
      · rename_i hv
        simp only [Am.nod.injEq] at h
        have := readB_size (by omega) hv
        omega
    · split at h
      · unfold escE at h
        repeat' split at h
        all_goals first
          | (simp only [Am.nod.injEq] at h; omega)
          | cases h
      · simp only [Am.nod.injEq] at h; omega
end Go.Proofs.YtnfbgpjadnlgbaaGreat

set_option linter.unusedVariables false
set_option maxRecDepth 100000
namespace Go.Proofs.YtnfbgpjadnlgbaaGreat
open Go.RowKit

section
variable {w : World} {B T : Nat} {A : Option Addr} {n c : Nat} {l : List UInt8} {v : Value} {ns : List Nod} {g i : Nat} {cl : Nat → Bool} (h : Psr w B T A n c l v ns g i cl 0)
include h
set_option maxHeartbeats 8000000 in
/-- Where a $ is the end of a line. -/
theorem dollar_eol (hr : i = n ∨ bg [92, 41] (l.drop i) = true) : Calls Tryz.prog 64 #[.pointer (some ⟨T, 0, none⟩)] w (YPut w B T A n c l v ns g cl i eolN) := by
  have hEn := Lib.hid (ends_any h)
  have hP := Lib.hid (fun w1 (hb : Below w.heap.size w w1) => h.keep hb)
  have hE := Lib.hid (fun w1 (hb : Below w.heap.size w w1) => eol_any B T 0 v ns g w1 (h.keep hb).bldr)
  have hW : Hid (∀ w1, Below w.heap.size w w1 → ∀ x w2, BldRet w1 B T 0 v (putI ns g eolN) (putL ns g eolN) g x w2 → ∃ z, x = .returned (.int .i64 z) ∧ Calls Tryz.prog 27 #[.pointer (some ⟨T, 0, none⟩), .int .i64 z] w2 (YPut w B T A n c l v ns g cl i eolN)) := by
    refine Lib.hid fun w1 hb x w2 hx => ?_
    by_cases hl : ns.length < 1000
    · obtain ⟨v2, rfl, h2, k2⟩ := (h.keep hb).room hl (fits_plain 8 (.inr (.inr rfl)) _ _) hx
      exact ⟨_, rfl, (put_yes T ns.length _).mono fun e w3 ⟨e1, e2⟩ => by subst e1; subst e2; exact YPut.yes hl h2 ((ChP.of_below hb).trans k2)⟩
    · obtain ⟨v2, rfl, h2, k2⟩ := (h.keep hb).full hl hx
      exact ⟨_, rfl, (put_no h2).mono fun e w3 ⟨e1, h3, k3⟩ => by subst e1; exact YPut.no hl h3 (((ChP.of_below hb).trans k2).trans k3)⟩
  by_cases hi : i = n
  · rw [decide_eq_true hi] at hEn
    clear h hr hi
    go_enter Tryz.func64, Tryz.ntmps64
    go_wp2_with (first
      | (go_at_call 19; refine (hEn.out).mono ?_; rintro y w3 ⟨rfl, hb3⟩; have hbd := Lib.hid hb3.drew; replace hb3 := Lib.hid hb3)
      | (go_region_with (first
          | (go_at_call 72; refine (hE.out _ hbd.out).mono ?_; intro x w7 hx0; obtain ⟨z, rfl, hx⟩ := hW.out _ hbd.out _ _ hx0; clear hx0; replace hx := Lib.hid hx)
          | (go_at_call 27; refine (hx.out).mono ?_; intro x w8 hy; obtain ⟨z, rfl, hy⟩ := hy.ret; replace hy := Lib.hid hy))))
    all_goals
      go_ret
      exact hy.out
  · rw [decide_eq_false hi] at hEn
    have hCm := Lib.hid (fun w3 (hb : Below w.heap.size w w3) => comes_is (h.keep hb) ⟨#[92, 41]⟩ true (hr.resolve_left hi))
    clear h hr hi
    go_enter Tryz.func64, Tryz.ntmps64
    go_wp2_with (first
      | (go_at_call 19; refine (hEn.out).mono ?_; rintro y w3 ⟨rfl, hb3⟩; have hbd := Lib.hid hb3.drew; replace hb3 := Lib.hid hb3)
      | (go_at_call 29; refine (hCm.out _ hb3.out).mono ?_; rintro y w4 ⟨rfl, hb4⟩; replace hb4 := hb3.out.trans (hb4.mono hb3.out.size); have hbd := Lib.hid hb4.drew; replace hb4 := Lib.hid hb4)
      | (go_region_with (first
          | (go_at_call 72; refine (hE.out _ hbd.out).mono ?_; intro x w7 hx0; obtain ⟨z, rfl, hx⟩ := hW.out _ hbd.out _ _ hx0; clear hx0; replace hx := Lib.hid hx)
          | (go_at_call 27; refine (hx.out).mono ?_; intro x w8 hy; obtain ⟨z, rfl, hy⟩ := hy.ret; replace hy := Lib.hid hy))))
    all_goals
      go_ret
      exact hy.out
set_option maxHeartbeats 8000000 in
/-- Where a $ is a byte. -/
theorem dollar_byte (hi : i ≠ n) (hr : bg [92, 41] (l.drop i) = false) : Calls Tryz.prog 64 #[.pointer (some ⟨T, 0, none⟩)] w (YPut w B T A n c l v ns g cl i (setN (oneF 36))) := by
  have hEn := Lib.hid (ends_any h)
  have hE := Lib.hid (fun w1 (hb : Below w.heap.size w w1) => set_any B T 0 v ns g w1 (h.keep hb).bldr (oneF 36))
  unfold setV at hE
  have hW : Hid (∀ w1, Below w.heap.size w w1 → ∀ x w2, BldRet w1 B T 0 v (putI ns g (setN (oneF 36))) (putL ns g (setN (oneF 36))) g x w2 → ∃ z, x = .returned (.int .i64 z) ∧ Calls Tryz.prog 27 #[.pointer (some ⟨T, 0, none⟩), .int .i64 z] w2 (YPut w B T A n c l v ns g cl i (setN (oneF 36)))) := by
    refine Lib.hid fun w1 hb x w2 hx => ?_
    by_cases hl : ns.length < 1000
    · obtain ⟨v2, rfl, h2, k2⟩ := (h.keep hb).room hl (fits_set _ _ _) hx
      exact ⟨_, rfl, (put_yes T ns.length _).mono fun e w3 ⟨e1, e2⟩ => by subst e1; subst e2; exact YPut.yes hl h2 ((ChP.of_below hb).trans k2)⟩
    · obtain ⟨v2, rfl, h2, k2⟩ := (h.keep hb).full hl hx
      exact ⟨_, rfl, (put_no h2).mono fun e w3 ⟨e1, h3, k3⟩ => by subst e1; exact YPut.no hl h3 (((ChP.of_below hb).trans k2).trans k3)⟩
  have hO : Hid (∀ w : World, Calls Tryz.prog 81 #[.slice (some ⟨w.heap.size, 0, none⟩) 1 1] (w.alloc (.cells #[.int .u8 36] 5)) fun e w' => e = .returned (.agg (setC (oneF 36))) ∧ Below w.heap.size w w') := Lib.hid (fun w => of_one w 36)
  rw [decide_eq_false hi] at hEn
  have hCm := Lib.hid (fun w3 (hb : Below w.heap.size w w3) => comes_is (h.keep hb) ⟨#[92, 41]⟩ false hr)
  clear h hr hi
  rw [setC_lit (oneF 36)] at hE hO
  generalize wd (oneF 36) 0 = s0 at *
  generalize wd (oneF 36) 1 = s1 at *
  generalize wd (oneF 36) 2 = s2 at *
  generalize wd (oneF 36) 3 = s3 at *
  go_enter Tryz.func64, Tryz.ntmps64
  go_wp2_with (first
    | (go_at_call 19; refine (hEn.out).mono ?_; rintro y w3 ⟨rfl, hb3⟩; have hbd := Lib.hid hb3.drew; replace hb3 := Lib.hid hb3)
    | (go_at_call 29; refine (hCm.out _ hb3.out).mono ?_; rintro y w4 ⟨rfl, hb4⟩; replace hb4 := hb3.out.trans (hb4.mono hb3.out.size); have hbd := Lib.hid hb4.drew; replace hb4 := Lib.hid hb4)
    | (go_region_with (first
        | (go_at_call 81; refine (hO.out w4.drew).mono ?_; rintro z w5 ⟨rfl, hb5⟩; replace hbd := Lib.hid (hbd.out.trans (hb5.mono hbd.out.size)))
        | (go_at_call 80; refine (hE.out _ hbd.out).mono ?_; intro x w7 hx0; obtain ⟨z, rfl, hx⟩ := hW.out _ hbd.out _ _ hx0; clear hx0; replace hx := Lib.hid hx)
        | (go_at_call 27; refine (hx.out).mono ?_; intro x w8 hy; obtain ⟨z, rfl, hy⟩ := hy.ret; replace hy := Lib.hid hy))))
  all_goals
    go_ret
    exact hy.out
end
end Go.Proofs.YtnfbgpjadnlgbaaGreat
