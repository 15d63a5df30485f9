/- What the calls of the parser of extended texts leave, by the machine; contract of Paren, given those of alternatives. -/
import Derived.Test.YtnfbgpjadnlgbabM32
import Derived.Test.YtnfbgpjadnlgbabM44
set_option linter.unusedVariables false
set_option maxRecDepth 100000
namespace Go.Proofs.Ytnfbgpjadnlgbab
open Go.RowKit

/-- A node was read (pc: and it is a piece), or it went wrong. -/
def CNode (pc : Bool) (w : World) (B T : Nat) (A : Option Addr) (n c : Nat) (l : List UInt8) (v : Value) (ns : List Nod) (g i : Nat) (cl : Nat → Bool) (inG : Bool) (e : Ending) (w' : World) : Prop :=
  (∃ x v' ns' g' i' cl', e = .returned (.int .i64 x) ∧ okP (ns'.length : Int) x = true ∧ Psr w' B T A n c l v' ns' g' i' cl' 0 ∧ ChP w w' T v v' ∧ ns.length ≤ ns'.length ∧ ns'.length + 1 ≤ ns.length + 2 * (i' - i) ∧ g ≤ g' ∧ i < i' ∧
    ∀ ct ps bs lv, (ct = .B ∨ ct = .L) → lv.isEmpty = !inG → StepsE l ⟨ct, i, ns, g, cl, ps, bs, lv⟩ ⟨toC pc x, i', ns', g', cl', toP pc x ps, bs, lv⟩) ∨
  (∃ x v' ns' g' i' cl' q, q ≠ 0 ∧ e = .returned (.int .i64 x) ∧ Psr w' B T A n c l v' ns' g' i' cl' q ∧ ChP w w' T v v' ∧ ∀ ct ps bs lv, (ct = .B ∨ ct = .L) → lv.isEmpty = !inG → EndsE l ⟨ct, i, ns, g, cl, ps, bs, lv⟩ (.bad i' q))
section
variable {w w' : World} {B T : Nat} {A : Option Addr} {n c : Nat} {l : List UInt8} {v v' : Value} {ns ns' : List Nod} {g g' i i' : Nat} {cl cl' : Nat → Bool} {inG : Bool} {e : Ending}
theorem YPut.roomy {j : Nat} {nd : Nod} (h : YPut w B T A n c l v ns g cl j nd e w') (hl : ns.length < 1000) : ∃ v', e = .returned (.int .i64 (ns.length : Int)) ∧ Psr w' B T A n c l v' (ns ++ [nd]) g j cl 0 ∧ ChP w w' T v v' := by
  rcases h with ⟨_, v', h1, h2, h3⟩ | ⟨h0, _⟩
  · exact ⟨v', h1, h2, h3⟩
  · exact absurd hl h0
theorem YPut.cnode {j : Nat} {nd : Nod} (h : YPut w B T A n c l v ns g cl j nd e w') (hl : ns.length < 1000) (hp : PieAt l i inG) (ha : pieE l i = .nod j nd) (hj : i < j) : CNode false w B T A n c l v ns g i cl inG e w' := by
  obtain ⟨v', h1, h2, h3⟩ := h.roomy hl
  refine .inl ⟨_, v', _, g, j, cl, h1, by rw [List.length_append]; exact okP_last _, h2, h3, by simp, by rw [List.length_append, List.length_singleton]; omega, Nat.le_refl _, hj, fun ct ps bs lv hct hlv => .one ?_⟩
  rw [stepE_pie hp hct hlv, ha]; rfl
theorem YPut.canc {nd : Nod} (h : YPut w B T A n c l v ns g cl (i + 1) nd e w') (hl : ns.length < 1000) (hp : PieAt l i inG) (ha : pieE l i = .anc nd) : CNode true w B T A n c l v ns g i cl inG e w' := by
  obtain ⟨v', h1, h2, h3⟩ := h.roomy hl
  refine .inl ⟨_, v', _, g, i + 1, cl, h1, by rw [List.length_append]; exact okP_last _, h2, h3, by simp, by rw [List.length_append, List.length_singleton]; omega, Nat.le_refl _, by omega, fun ct ps bs lv hct hlv => .one ?_⟩
  rw [stepE_pie hp hct hlv, ha]; rfl
theorem YBad.cnode {pc : Bool} {q : Nat} (h : YBad w B T A n c l v i q e w') (hp : PieAt l i inG) (hs : ∀ ct ps bs lv, stepPm ⟨ct, i, ns, g, cl, ps, bs, lv⟩ (pieE l i) = .bad i q) (hq : q ≠ 0) : CNode pc w B T A n c l v ns g i cl inG e w' := by
  obtain ⟨v', ns', g', cl', h1, k, m⟩ := h
  refine .inr ⟨-1, v', _, _, _, _, _, hq, h1, k, m, fun ct ps bs lv hct hlv => .bad ?_⟩
  rw [stepE_pie hp hct hlv, hs]
theorem YAm.cnode {a : Am} (h : YAm w B T A n c l v ns g i cl a e w') (hl : ns.length < 1000) (hp : PieAt l i inG) (ha : pieE l i = ofAm a) (hb : ∀ q, a = .bad q → q ≠ 0) (hj : ∀ j nd, a = .nod j nd → i < j) : CNode false w B T A n c l v ns g i cl inG e w' := by
  cases a with
  | bad q => exact YBad.cnode h hp (fun ct ps bs lv => by rw [ha]; rfl) (hb q rfl)
  | opn => exact h.elim
  | bak q =>
    unfold YAm at h
    simp only at h
    split at h
    · rename_i hq
      obtain ⟨v', h1, h2, h3⟩ := h.roomy hl
      refine .inl ⟨_, v', _, g, i + 2, cl, h1, by rw [List.length_append]; exact okP_last _, h2, h3, by simp, by rw [List.length_append, List.length_singleton]; omega, Nat.le_refl _, by omega, fun ct ps bs lv hct hlv => .one ?_⟩
      rw [stepE_pie hp hct hlv, ha]
      simp only [ofAm, stepPm]
      rw [if_pos hq]; rfl
    · rename_i hq
      exact YBad.cnode h hp (fun ct ps bs lv => by rw [ha]; simp only [ofAm, stepPm]; rw [if_neg hq]) (by decide)
  | nod j nd => exact YPut.cnode h hl hp ha (hj j nd rfl)
theorem CNode.ret {pc : Bool} (h : CNode pc w B T A n c l v ns g i cl inG e w') : ∃ z, e = .returned (.int .i64 z) ∧ CNode pc w B T A n c l v ns g i cl inG (.returned (.int .i64 z)) w' := by
  rcases h with ⟨x, v', ns', g', i', cl', rfl, h⟩ | ⟨x, v', ns', g', i', cl', q, hq, rfl, h⟩
  · exact ⟨_, rfl, .inl ⟨x, v', ns', g', i', cl', rfl, h⟩⟩
  · exact ⟨_, rfl, .inr ⟨x, v', ns', g', i', cl', q, hq, rfl, h⟩⟩
theorem CNode.from {pc : Bool} {w0 : World} {v0 : Value} (h : CNode pc w B T A n c l v ns g i cl inG e w') (h0 : ChP w0 w T v0 v) : CNode pc w0 B T A n c l v0 ns g i cl inG e w' := by
  rcases h with ⟨x, v', ns', g', i', cl', h1, h2, h3, h4, h5⟩ | ⟨x, v', ns', g', i', cl', q, h1, h2, h3, h4, h5⟩
  · exact .inl ⟨x, v', ns', g', i', cl', h1, h2, h3, h0.trans h4, h5⟩
  · exact .inr ⟨x, v', ns', g', i', cl', q, h1, h2, h3, h0.trans h4, h5⟩
/-- A repetition was put. -/
theorem crep_next {wr : World} {v2 : Value} {ns2 : List Nod} {g2 i2 j : Nat} {cl2 : Nat → Bool} {nd : Nod} {x z : Int} (h2 : Psr wr B T A n c l v2 ns2 g2 i2 cl2 0) (k2 : ChP wr w' T v2 v2 → True) (hk : ChP w wr T v v2) (q1 : ns.length ≤ ns2.length) (q0 : ns2.length + 1 ≤ ns.length + 2 * (i2 - i)) (q2 : g ≤ g2) (q3 : i < i2) (hl : ns2.length < 1000)
    (q4 : ∀ ct ps bs lv, (ct = .B ∨ ct = .L) → lv.isEmpty = !inG → StepsE l ⟨ct, i, ns, g, cl, ps, bs, lv⟩ ⟨toC false x, i2, ns2, g2, cl2, toP false x ps, bs, lv⟩) (hj : i2 < j)
    (hs : ∀ (ps bs : List Int) (lv : List (Nat × List Int × List Int)), stepE l ⟨.P x, i2, ns2, g2, cl2, ps, bs, lv⟩ = .go ⟨.P (ns2.length : Int), j, ns2 ++ [nd], g2, cl2, ps, bs, lv⟩)
    (hy : YPut wr B T A n c l v2 ns2 g2 cl2 j nd (.returned (.int .i64 z)) w') : CNode false w B T A n c l v ns g i cl inG (.returned (.int .i64 z)) w' ∧ leftP n T w' < leftP n T wr := by
  have hle := h2.le
  obtain ⟨v', ez, h3, k3⟩ := hy.roomy hl
  refine ⟨.inl ⟨_, v', _, g2, j, cl2, ez, by rw [List.length_append]; exact okP_last _, h3, hk.trans k3, by rw [List.length_append]; omega, by rw [List.length_append, List.length_singleton]; omega, q2, by omega, fun ct ps bs lv hct hlv => (q4 ct ps bs lv hct hlv).snoc (hs ps bs lv)⟩, ?_⟩
  have := h3.le
  rw [h3.left, h2.left]; omega
end
/-- Alternatives were read, or it went wrong. -/
def CAlt (w : World) (B T : Nat) (A : Option Addr) (n c : Nat) (l : List UInt8) (v : Value) (ns : List Nod) (g i : Nat) (cl : Nat → Bool) (inG : Bool) (e : Ending) (w' : World) : Prop :=
  (∃ x v' ns' g' i' cl' ns1 ps1 bs1, e = .returned (.int .i64 x) ∧ okP (ns'.length : Int) x = true ∧ Psr w' B T A n c l v' ns' g' i' cl' 0 ∧ ChP w w' T v v' ∧ ns.length ≤ ns'.length ∧ ns'.length ≤ ns.length + 2 * (i' - i) ∧ g ≤ g' ∧ i ≤ i' ∧
    (if inG then nx l i' = 41 else i' = n) ∧ ∀ lv, lv.isEmpty = !inG → altsE ⟨.L, i', ns1, g', cl', ps1, bs1, lv⟩ = (x, ns') ∧ StepsE l ⟨.B, i, ns, g, cl, [], [], lv⟩ ⟨.L, i', ns1, g', cl', ps1, bs1, lv⟩) ∨
  (∃ x v' ns' g' i' cl' q, q ≠ 0 ∧ e = .returned (.int .i64 x) ∧ Psr w' B T A n c l v' ns' g' i' cl' q ∧ ChP w w' T v v' ∧ ∀ lv, lv.isEmpty = !inG → EndsE l ⟨.B, i, ns, g, cl, [], [], lv⟩ (.bad i' q))
/-- Alternatives are read of which so much is left. -/
def CAltOK (k : Nat) : Prop := ∀ (inG : Bool) (w : World) (B T : Nat) (A : Option Addr) (n c : Nat) (l : List UInt8) (v : Value) (ns : List Nod) (g i : Nat) (cl : Nat → Bool), Psr w B T A n c l v ns g i cl 0 → n ≤ 300 → ns.length ≤ 2 * i → n - i = k →
  Calls Try.prog 12 #[.pointer (some ⟨T, 0, none⟩), .bool inG] w (CAlt w B T A n c l v ns g i cl inG)
section
variable {w w' : World} {B T : Nat} {A : Option Addr} {n c : Nat} {l : List UInt8} {v v' : Value} {ns ns' : List Nod} {g g' i i' : Nat} {cl cl' : Nat → Bool} {inG : Bool} {e : Ending}
theorem CAlt.ret (h : CAlt w B T A n c l v ns g i cl inG e w') : ∃ z, e = .returned (.int .i64 z) ∧ CAlt w B T A n c l v ns g i cl inG (.returned (.int .i64 z)) w' := by
  rcases h with ⟨x, v', ns', g', i', cl', ns1, ps1, bs1, rfl, h⟩ | ⟨x, v', ns', g', i', cl', q, hq, rfl, h⟩
  · exact ⟨_, rfl, .inl ⟨x, v', ns', g', i', cl', ns1, ps1, bs1, rfl, h⟩⟩
  · exact ⟨_, rfl, .inr ⟨x, v', ns', g', i', cl', q, hq, rfl, h⟩⟩
end
/-- The function that reads what stands in a group: it holds a cell with the parser. -/
theorem cinner_any {w2 : World} {G T : Nat} {P : Ending → World → Prop} (hG : Held w2 G 55 #[.pointer (some ⟨T, 0, none⟩)]) (hP : ∀ e w', P e w' → ∃ z, e = .returned (.int .i64 z) ∧ P (.returned (.int .i64 z)) w')
    (hB : Calls Try.prog 12 #[.pointer (some ⟨T, 0, none⟩), .bool true] w2 P) : Calls Try.prog 45 #[.pointer (some ⟨G, 0, none⟩)] w2 P := by
  have z := hG.at_ (i := 0) rfl
  have hB' := Lib.hid hB
  have hP' := Lib.hid hP
  clear hB hP hG
  go_enter Try.func45, Try.ntmps45
  go_wp2_with (go_at_call 12; refine (hB'.out).mono ?_; intro x w3 hy; obtain ⟨z, rfl, hy⟩ := hP'.out _ _ hy; replace hy := Lib.hid hy)
  (try go_ret)
  exact hy.out

section
variable {w : World} {B T : Nat} {A : Option Addr} {n c : Nat} {l : List UInt8} {v : Value} {ns : List Nod} {g i : Nat} {cl : Nat → Bool} (h : Psr w B T A n c l v ns g i cl 0) {inG : Bool} (hx : nx l i = 40)
include h hx

set_option maxHeartbeats 4000000 in
theorem cparen_full (hg : g = 9) (f : Value) : Calls Try.prog 44 #[.pointer (some ⟨T, 0, none⟩), .string ⟨#[40]⟩, .string ⟨#[41]⟩, f] w (CNode false w B T A n c l v ns g i cl inG) := by
  have hil := nx_lt (l := l) (i := i) (by omega)
  have hO := Lib.hid (open_any B T 0 v ns g w h.bldr)
  have hP := Lib.hid h
  rw [show openI g = -1 by simp [openI, hg], show openG g = g by simp [openG, hg]] at hO
  have hfin := Lib.hid (fun (w' : World) (x : Ending) (y : YBad w B T A n c l v i 17 x w') => y.cnode (pc := false) (inG := inG) (ns := ns) (g := g) (cl := cl) ⟨hil, by omega, fun _ => by omega⟩ (fun ct ps bs lv => by rw [pie_opn hx]; simp [stepPm, hg]) (by decide))
  clear h hx hg hil
  go_enter Try.func44, Try.ntmps44
  go_wp2_with (first
    | (go_at_call 50; refine (hO.out).mono ?_; rintro x w1 ⟨rfl, hb, hc⟩; have h1 := Lib.hid (hP.out.built (Nat.le_refl _) hb hc); have k1 := Lib.hid hc.chp; clear hb hc)
    | (go_at_call 25; refine (wrong_at h1.out 17 17 rfl).mono ?_; intro x w2 hy; obtain ⟨rfl, hy⟩ := hy.ret; replace hy := Lib.hid (hfin.out _ _ (hy.from k1.out))))
  go_ret
  exact hy.out

set_option maxHeartbeats 8000000 in
theorem cparen_any {G : Nat} (hG : Held w G 55 #[.pointer (some ⟨T, 0, none⟩)]) (hGT : G ≠ T) (hGv : some G ≠ v.ownBlock) (hsm : n ≤ 300) (hrm : ns.length ≤ 2 * i) (hB : ∀ k, k < n - i → CAltOK k) :
    Calls Try.prog 44 #[.pointer (some ⟨T, 0, none⟩), .string ⟨#[40]⟩, .string ⟨#[41]⟩, .func (.func 45) #[] #[.pointer (some ⟨G, 0, none⟩)]] w (CNode false w B T A n c l v ns g i cl inG) := by
  by_cases hg : g = 9
  · exact cparen_full h hx hg _
  have hg9 : g < 9 := by have := h.grp; omega
  have hil := nx_lt (l := l) (i := i) (by omega)
  have hnl := h.hn
  have hi1 : i + 1 ≤ n := by omega
  have hO := Lib.hid (open_any B T 0 v ns g w h.bldr)
  rw [show openI g = (g : Int) + 1 by simp [openI, hg9], show openG g = g + 1 by simp [openG, hg9]] at hO
  have hP := Lib.hid h
  have hq : ((g : Int) + 1 == -1) = false := by rw [beq_eq_false_iff_ne]; omega
  have hst := Lib.hid (fun (ct : Ct) (ps bs : List Int) (lv : List (Nat × List Int × List Int)) (hct : ct = .B ∨ ct = .L) (hlv : lv.isEmpty = !inG) => show stepE l ⟨ct, i, ns, g, cl, ps, bs, lv⟩ = .go ⟨.B, i + 1, ns, g + 1, cl, [], [], (g + 1, ps, bs) :: lv⟩ from by
    rw [stepE_pie (inG := inG) ⟨hil, by omega, fun _ => by omega⟩ hct hlv, pie_opn hx]
    simp only [stepPm]
    rw [if_pos hg9])
  have hTk := Lib.hid (fun (w1 : World) (h1 : Psr w1 B T A n c l v ns (g + 1) i cl 0) => take_yes h1 ⟨#[40]⟩ ((nx_bg l i 40).1 hx) 1 rfl (by decide))
  have hTe := Lib.hid (fun (w3 : World) (v3 : Value) (ns3 : List Nod) (g3 i3 : Nat) (cl3 : Nat → Bool) (h3 : Psr w3 B T A n c l v3 ns3 g3 i3 cl3 0) (hz : nx l i3 = 41) => take_yes h3 ⟨#[41]⟩ ((nx_bg l i3 41).1 hz) 1 rfl (by decide))
  have hBr := Lib.hid (fun (w2 : World) (h2 : Psr w2 B T A n c l v ns (g + 1) (i + 1) cl 0) (hG2 : Held w2 G 55 #[.pointer (some ⟨T, 0, none⟩)]) => cinner_any hG2 (fun e w' y => CAlt.ret y) (hB (n - (i + 1)) (by omega) true w2 B T A n c l v ns (g + 1) (i + 1) cl h2 hsm (by omega) rfl))
  have hGh := Lib.hid hG
  have hg0 : (g : Int) + 1 ≤ 9 := by omega
  clear h hx hg hB hG
  go_enter Try.func44, Try.ntmps44
  go_wp2_with (first
    | (go_at_call 50; refine (hO.out).mono ?_; rintro x w1 ⟨rfl, hb, hc⟩; have h1 := Lib.hid (hP.out.built (g' := g + 1) (by omega) hb hc); have hG1 := Lib.hid (hGh.out.chp hc.chp hGT hGv); have k1 := Lib.hid hc.chp; clear hb hc)
    | (go_at_call 17; with_reducible show Calls _ _ #[_, Value.string {data := #[40]}] _ _; refine (hTk.out _ h1.out).mono ?_; rintro x w9 ⟨rfl, -, h9, k9⟩; have hG9 := Lib.hid (hG1.out.chp k9 hGT hGv); replace h9 := Lib.hid h9; replace k9 := Lib.hid (k1.out.trans k9))
    | (go_at_call 45; refine (hBr.out _ h9.out hG9.out).mono ?_; intro x w2 hy; rcases hy with ⟨x, v2, ns2, g2, i2, cl2, ns1, ps2, bs2, rfl, ok2, h2, k2, q1, q0, q2, q3, q5, q6⟩ | ⟨x, v2, ns2, g2, i2, cl2, e2, he2, rfl, h2, k2, q6⟩
       all_goals first
         | (rw [if_pos rfl] at q5
            have hF := Lib.hid (fine_any h2)
            rw [decide_eq_true rfl] at hF
            have hTz := Lib.hid (hTe.out _ _ _ _ _ _ h2 q5)
            replace k2 := Lib.hid (k9.out.trans k2)
            replace q1 := Lib.hid q1
            replace q0 := Lib.hid q0
            replace q2 := Lib.hid q2
            replace q3 := Lib.hid q3
            replace q5 := Lib.hid q5
            replace q6 := Lib.hid q6
            replace ok2 := Lib.hid ok2
            clear h2)
         | (have hF := Lib.hid (fine_any h2)
            rw [decide_eq_false he2] at hF
            replace h2 := Lib.hid h2
            replace k2 := Lib.hid (k9.out.trans k2)
            replace q6 := Lib.hid q6
            replace he2 := Lib.hid he2))
    | (go_at_call 13; refine (hF.out).mono ?_; rintro y w4 ⟨rfl, rfl⟩)
    | (go_at_call 17; with_reducible show Calls _ _ #[_, Value.string {data := #[41]}] _ _; refine (hTz.out).mono ?_; rintro y w5 ⟨rfl, hi4, h3, k3⟩; have t4 := h3.thawed (4 + (g + 1)); have c4 := h3.cQ (g + 1) (by omega); have h4 := Lib.hid (h3.ended (q := g + 1) (by omega) q2.out); have k4 := Lib.hid ((k2.out.trans k3).trans (ChP.store _ T (4 + (g + 1)) (.bool true) v2)); have hf := Lib.hid (fits_group (q := (g : Int) + 1) (g := (g2 : Int)) ok2.out (by omega) (by have := q2.out; omega)); have hgr := Lib.hid (group_any B T 0 v2 ns2 g2 _ h4.out.bldr ((g : Int) + 1) x); clear h3 k3))
  · have hl : ns2.length < 1000 := by have := q0.out; omega
    have hl' := Lib.hid hl
    go_wp2_with (first
      | (go_at_call 51; refine (hgr.out).mono ?_; intro x w5 hx2; obtain ⟨v5, rfl, h5, k5⟩ := h4.out.room hl'.out hf.out hx2; clear hx2; replace h5 := Lib.hid h5; replace k5 := Lib.hid (k4.out.trans k5))
      | (go_at_call 18; refine (put_yes T ns2.length _).mono ?_; rintro x w6 ⟨rfl, rfl⟩))
    go_ret
    have hq0 := q0.out
    have hq1 := q1.out
    have hq2 := q2.out
    have hq3 := q3.out
    refine .inl ⟨_, v5, _, g2, i2 + 1, _, rfl, by rw [List.length_append]; exact okP_last _, h5.out, k5.out, by rw [List.length_append]; omega, by rw [List.length_append, List.length_singleton]; omega, by omega, by omega, fun ct ps bs lv hct hlv => ?_⟩
    obtain ⟨ha, hs⟩ := q6.out ((g + 1, ps, bs) :: lv) rfl
    refine (StepsE.one (hst.out ct ps bs lv hct hlv)).trans (hs.snoc ?_)
    show stepEL l _ = _
    have hq5 := q5.out
    have hil2 := nx_lt (l := l) (i := i2) (by omega)
    simp only [stepEL]
    rw [if_neg (by omega), if_neg (by omega)]
    rw [if_pos hq5, ha]; rfl
  · go_ret
    exact .inr ⟨_, v2, ns2, g2, i2, cl2, e2, he2.out, rfl, h2.out, k2.out, fun ct ps bs lv hct hlv => (StepsE.one (hst.out ct ps bs lv hct hlv)).ends (q6.out _ rfl)⟩
end
end Go.Proofs.Ytnfbgpjadnlgbab
