/- What the reader's calls leave, by the machine of extended texts; the contract of the reference's extended, given those of Alt. Contracts of the reference's Group and extended, given those of Alt. The reference's extended at a byte that begins no piece, and at an anchor; what a byte begins. -/
import Derived.Test.YtnfbgpjadnlgbaaGreatM44
import Derived.Test.YtnfbgpjadnlgbaaGreatM38
import Derived.Test.YtnfbgpjadnlgbaaGreatM39
import Derived.Test.YtnfbgpjadnlgbaaGreatM40
import Derived.Deep.CutRange
import Derived.Deep.CutBlock
set_option linter.unusedVariables false
set_option maxRecDepth 100000
namespace Go.Proofs.YtnfbgpjadnlgbaaGreat
open Go.RowKit

/-- A node was read (pc: and it is a piece), or it went wrong. -/
def ENode (pc : Bool) (w : World) (B T : Nat) (A : Option Addr) (n c : Nat) (l : List UInt8) (v : Value) (ns : List Nod) (g i : Nat) (cl : Nat → Bool) (inG : Bool) (e : Ending) (w' : World) : Prop :=
  (∃ x v' ns' g' i' cl', e = .returned (.int .i64 x) ∧ okP (ns'.length : Int) x = true ∧ Rdr w' B T A n c l v' ns' g' i' cl' 0 ∧ ChP w w' T v v' ∧ ns.length ≤ ns'.length ∧ ns'.length + 1 ≤ ns.length + 2 * (i' - i) ∧ g ≤ g' ∧ i < i' ∧
    ∀ ct ps bs lv, (ct = .B ∨ ct = .L) → lv.isEmpty = !inG → StepsE l ⟨ct, i, ns, g, cl, ps, bs, lv⟩ ⟨toC pc x, i', ns', g', cl', toP pc x ps, bs, lv⟩) ∨
  (∃ x v' ns' g' i' cl' q, q ≠ 0 ∧ e = .returned (.int .i64 x) ∧ Rdr w' B T A n c l v' ns' g' i' cl' q ∧ ChP w w' T v v' ∧ ∀ ct ps bs lv, (ct = .B ∨ ct = .L) → lv.isEmpty = !inG → EndsE l ⟨ct, i, ns, g, cl, ps, bs, lv⟩ (.bad i' q))
section
variable {w w' : World} {B T : Nat} {A : Option Addr} {n c : Nat} {l : List UInt8} {v v' : Value} {ns ns' : List Nod} {g g' i i' : Nat} {cl cl' : Nat → Bool} {inG : Bool} {e : Ending}
theorem RPut.room {j : Nat} {nd : Nod} (h : RPut w B T A n c l v ns g j cl nd e w') (hl : ns.length < 1000) : ∃ v', e = .returned (.int .i64 (ns.length : Int)) ∧ Rdr w' B T A n c l v' (ns ++ [nd]) g j cl 0 ∧ ChP w w' T v v' := by
  rcases h with ⟨_, v', h1, h2, h3⟩ | ⟨h0, _⟩
  · exact ⟨v', h1, h2, h3⟩
  · exact absurd hl h0
theorem RPut.enode {j : Nat} {nd : Nod} (h : RPut w B T A n c l v ns g j cl nd e w') (hl : ns.length < 1000) (hp : PieAt l i inG) (ha : pieE l i = .nod j nd) (hj : i < j) : ENode false w B T A n c l v ns g i cl inG e w' := by
  obtain ⟨v', h1, h2, h3⟩ := h.room hl
  refine .inl ⟨_, v', _, g, j, cl, h1, by rw [List.length_append]; exact okP_last _, h2, h3, by simp, by rw [List.length_append, List.length_singleton]; omega, Nat.le_refl _, hj, fun ct ps bs lv hct hlv => .one ?_⟩
  rw [stepE_pie hp hct hlv, ha]; rfl
theorem RPut.eanc {nd : Nod} (h : RPut w B T A n c l v ns g (i + 1) cl nd e w') (hl : ns.length < 1000) (hp : PieAt l i inG) (ha : pieE l i = .anc nd) : ENode true w B T A n c l v ns g i cl inG e w' := by
  obtain ⟨v', h1, h2, h3⟩ := h.room hl
  refine .inl ⟨_, v', _, g, i + 1, cl, h1, by rw [List.length_append]; exact okP_last _, h2, h3, by simp, by rw [List.length_append, List.length_singleton]; omega, Nat.le_refl _, by omega, fun ct ps bs lv hct hlv => .one ?_⟩
  rw [stepE_pie hp hct hlv, ha]; rfl
theorem RBad.enode {pc : Bool} {q : Nat} (h : RBad w B T A n c l v i q e w') (hp : PieAt l i inG) (hs : ∀ ct ps bs lv, stepPm ⟨ct, i, ns, g, cl, ps, bs, lv⟩ (pieE l i) = .bad i q) (hq : q ≠ 0) : ENode pc w B T A n c l v ns g i cl inG e w' := by
  obtain ⟨x, v', ns', g', cl', h1, k, m⟩ := h
  refine .inr ⟨x, v', _, _, _, _, _, hq, h1, k, m, fun ct ps bs lv hct hlv => .bad ?_⟩
  rw [stepE_pie hp hct hlv, hs]
theorem RAm.enode {a : Am} (h : RAm w B T A n c l v ns g i cl a e w') (hl : ns.length < 1000) (hp : PieAt l i inG) (ha : pieE l i = ofAm a) (hb : ∀ q, a = .bad q → q ≠ 0) (hj : ∀ j nd, a = .nod j nd → i < j) : ENode false w B T A n c l v ns g i cl inG e w' := by
  cases a with
  | bad q => exact RBad.enode h hp (fun ct ps bs lv => by rw [ha]; rfl) (hb q rfl)
  | opn => exact h.elim
  | bak q =>
    simp only [RAm] at h
    split at h
    · rename_i hq
      obtain ⟨v', h1, h2, h3⟩ := h.room hl
      refine .inl ⟨_, v', _, g, i + 2, cl, h1, by rw [List.length_append]; exact okP_last _, h2, h3, by simp, by rw [List.length_append, List.length_singleton]; omega, Nat.le_refl _, by omega, fun ct ps bs lv hct hlv => .one ?_⟩
      rw [stepE_pie hp hct hlv, ha]
      simp only [ofAm, stepPm]
      rw [if_pos hq]; rfl
    · rename_i hq
      exact RBad.enode h hp (fun ct ps bs lv => by rw [ha]; simp only [ofAm, stepPm]; rw [if_neg hq]) (by decide)
  | nod j nd => exact RPut.enode h hl hp ha (hj j nd rfl)
theorem ENode.ret {pc : Bool} (h : ENode pc w B T A n c l v ns g i cl inG e w') : ∃ z, e = .returned (.int .i64 z) ∧ ENode pc w B T A n c l v ns g i cl inG (.returned (.int .i64 z)) w' := by
  rcases h with ⟨x, v', ns', g', i', cl', rfl, h⟩ | ⟨x, v', ns', g', i', cl', q, hq, rfl, h⟩
  · exact ⟨_, rfl, .inl ⟨x, v', ns', g', i', cl', rfl, h⟩⟩
  · exact ⟨_, rfl, .inr ⟨x, v', ns', g', i', cl', q, hq, rfl, h⟩⟩
theorem ENode.from {pc : Bool} {w0 : World} {v0 : Value} (h : ENode pc w B T A n c l v ns g i cl inG e w') (h0 : ChP w0 w T v0 v) : ENode pc w0 B T A n c l v0 ns g i cl inG e w' := by
  rcases h with ⟨x, v', ns', g', i', cl', h1, h2, h3, h4, h5⟩ | ⟨x, v', ns', g', i', cl', q, h1, h2, h3, h4, h5⟩
  · exact .inl ⟨x, v', ns', g', i', cl', h1, h2, h3, h0.trans h4, h5⟩
  · exact .inr ⟨x, v', ns', g', i', cl', q, h1, h2, h3, h0.trans h4, h5⟩
/-- A repetition was put. -/
theorem erep_next {wr : World} {v2 : Value} {ns2 : List Nod} {g2 i2 j : Nat} {cl2 : Nat → Bool} {nd : Nod} {x z : Int} (h2 : Rdr wr B T A n c l v2 ns2 g2 i2 cl2 0) (k2 : ChP wr w' T v2 v2 → True) (hk : ChP w wr T v v2) (q1 : ns.length ≤ ns2.length) (q0 : ns2.length + 1 ≤ ns.length + 2 * (i2 - i)) (q2 : g ≤ g2) (q3 : i < i2) (hl : ns2.length < 1000)
    (q4 : ∀ ct ps bs lv, (ct = .B ∨ ct = .L) → lv.isEmpty = !inG → StepsE l ⟨ct, i, ns, g, cl, ps, bs, lv⟩ ⟨toC false x, i2, ns2, g2, cl2, toP false x ps, bs, lv⟩) (hj : i2 < j)
    (hs : ∀ (ps bs : List Int) (lv : List (Nat × List Int × List Int)), stepE l ⟨.P x, i2, ns2, g2, cl2, ps, bs, lv⟩ = .go ⟨.P (ns2.length : Int), j, ns2 ++ [nd], g2, cl2, ps, bs, lv⟩)
    (hy : RPut wr B T A n c l v2 ns2 g2 j cl2 nd (.returned (.int .i64 z)) w') : ENode false w B T A n c l v ns g i cl inG (.returned (.int .i64 z)) w' ∧ leftR n T w' < leftR n T wr := by
  have hle := h2.le
  obtain ⟨v', ez, h3, k3⟩ := hy.room hl
  refine ⟨.inl ⟨_, v', _, g2, j, cl2, ez, by rw [List.length_append]; exact okP_last _, h3, hk.trans k3, by rw [List.length_append]; omega, by rw [List.length_append, List.length_singleton]; omega, q2, by omega, fun ct ps bs lv hct hlv => (q4 ct ps bs lv hct hlv).snoc (hs ps bs lv)⟩, ?_⟩
  have := h3.le
  rw [h3.left, h2.left]; omega
end
end Go.Proofs.YtnfbgpjadnlgbaaGreat

set_option linter.unusedVariables false
set_option maxRecDepth 100000
namespace Go.Proofs.YtnfbgpjadnlgbaaGreat
open Go.RowKit

/-- Alternatives were read, or it went wrong. -/
def EAlt (w : World) (B T : Nat) (A : Option Addr) (n c : Nat) (l : List UInt8) (v : Value) (ns : List Nod) (g i : Nat) (cl : Nat → Bool) (inG : Bool) (e : Ending) (w' : World) : Prop :=
  (∃ x v' ns' g' i' cl' ns1 ps1 bs1, e = .returned (.int .i64 x) ∧ okP (ns'.length : Int) x = true ∧ Rdr w' B T A n c l v' ns' g' i' cl' 0 ∧ ChP w w' T v v' ∧ ns.length ≤ ns'.length ∧ ns'.length ≤ ns.length + 2 * (i' - i) ∧ g ≤ g' ∧ i ≤ i' ∧
    (if inG then nx l i' = 41 else i' = n) ∧ ∀ lv, lv.isEmpty = !inG → altsE ⟨.L, i', ns1, g', cl', ps1, bs1, lv⟩ = (x, ns') ∧ StepsE l ⟨.B, i, ns, g, cl, [], [], lv⟩ ⟨.L, i', ns1, g', cl', ps1, bs1, lv⟩) ∨
  (∃ x v' ns' g' i' cl' q, q ≠ 0 ∧ e = .returned (.int .i64 x) ∧ Rdr w' B T A n c l v' ns' g' i' cl' q ∧ ChP w w' T v v' ∧ ∀ lv, lv.isEmpty = !inG → EndsE l ⟨.B, i, ns, g, cl, [], [], lv⟩ (.bad i' q))
/-- Alternatives are read of which so much is left. -/
def EAltOK (k : Nat) : Prop := ∀ (inG : Bool) (w : World) (B T : Nat) (A : Option Addr) (n c : Nat) (l : List UInt8) (v : Value) (ns : List Nod) (g i : Nat) (cl : Nat → Bool), Rdr w B T A n c l v ns g i cl 0 → n ≤ 300 → ns.length ≤ 2 * i → n - i = k →
  Calls Tryz.prog 23 #[.pointer (some ⟨T, 0, none⟩), .bool inG] w (EAlt w B T A n c l v ns g i cl inG)
section
variable {w : World} {B T : Nat} {A : Option Addr} {n c : Nat} {l : List UInt8} {v : Value} {ns : List Nod} {g i : Nat} {cl : Nat → Bool} (h : Rdr w B T A n c l v ns g i cl 0) {inG : Bool} (hx : nx l i = 40)
include h hx

set_option maxHeartbeats 4000000 in
theorem egroup_full (hg : g = 9) : Calls Tryz.prog 49 #[.pointer (some ⟨T, 0, none⟩), .int .i64 1, .bool false] w (ENode false w B T A n c l v ns g i cl inG) := by
  have hil := nx_lt (l := l) (i := i) (by omega)
  have c4 := h.c4
  have c2 := h.c2
  have t2 := h.thawed 2
  have hg9 : (9 : Int) ≤ (g : Int) := by omega
  have hfin := Lib.hid (fun (w' : World) (x : Ending) (y : RBad w B T A n c l v i 17 x w') => y.enode (pc := false) (inG := inG) (ns := ns) (g := g) (cl := cl) ⟨hil, by omega, fun _ => by omega⟩ (fun ct ps bs lv => by rw [pie_opn hx]; simp [stepPm, hg]) (by decide))
  have h2 := Lib.hid (h.erred 17 (z := 17) rfl)
  have k2 := Lib.hid (ChP.store w T 2 (.int .i64 17) v)
  clear h hx hil
  replace hg := Lib.hid hg
  go_enter Tryz.func49, Tryz.ntmps49
  go_wp2
  go_ret
  exact hfin.out _ _ ⟨0, v, _, _, _, rfl, h2.out, k2.out⟩

set_option maxHeartbeats 8000000 in
theorem egroup_any (hsm : n ≤ 300) (hrm : ns.length ≤ 2 * i) (hB : ∀ k, k < n - i → EAltOK k) : Calls Tryz.prog 49 #[.pointer (some ⟨T, 0, none⟩), .int .i64 1, .bool false] w (ENode false w B T A n c l v ns g i cl inG) := by
  by_cases hg : g = 9
  · exact egroup_full h hx hg
  have hg9 : g < 9 := by have := h.grp; omega
  have hil := nx_lt (l := l) (i := i) (by omega)
  have hnl := h.hn
  have hi1 : i + 1 ≤ n := by omega
  have hi0 : (i : Int) ≤ 100000 := by omega
  have c4 := h.c4
  have t4 := h.thawed 4
  have hm := h.opened hg9 (z := (g : Int) + 1) rfl
  have c1 := hm.c1
  have t1 := hm.thawed 1
  have h1 := Lib.hid (hm.goto hi1 (z := (i : Int) + 1) (by omega))
  have k1 := Lib.hid ((ChP.store w T 4 (.int .i64 ((g : Int) + 1)) v).trans (ChP.store _ T 1 (.int .i64 ((i : Int) + 1)) v))
  have hst := Lib.hid (fun (ct : Ct) (ps bs : List Int) (lv : List (Nat × List Int × List Int)) (hct : ct = .B ∨ ct = .L) (hlv : lv.isEmpty = !inG) => show stepE l ⟨ct, i, ns, g, cl, ps, bs, lv⟩ = .go ⟨.B, i + 1, ns, g + 1, cl, [], [], (g + 1, ps, bs) :: lv⟩ from by
    rw [stepE_pie (inG := inG) ⟨hil, by omega, fun _ => by omega⟩ hct hlv, pie_opn hx]
    simp only [stepPm]
    rw [if_pos hg9])
  have hBr := Lib.hid (fun (w2 : World) (h2 : Rdr w2 B T A n c l v ns (g + 1) (i + 1) cl 0) => hB (n - (i + 1)) (by omega) true w2 B T A n c l v ns (g + 1) (i + 1) cl h2 hsm (by omega) rfl)
  have hg0 : (g : Int) + 1 ≤ 9 := by omega
  have hg1 : ¬ (9 : Int) ≤ (g : Int) := by omega
  clear h hx hg hB hm
  go_enter Tryz.func49, Tryz.ntmps49
  go_wp2_with (first
    | (go_at_call 23; refine (hBr.out _ h1.out).mono ?_; intro x w2 hy; rcases hy with ⟨x, v2, ns2, g2, i2, cl2, ns1, ps2, bs2, rfl, ok2, h2, k2, q1, q0, q2, q3, q5, q6⟩ | ⟨x, v2, ns2, g2, i2, cl2, e2, he2, rfl, h2, k2, q6⟩
       all_goals first
         | (rw [if_pos rfl] at q5
            have c2 := h2.c2
            have c1b := h2.c1
            have t1b := h2.thawed 1
            have hil2 := nx_lt (l := l) (i := i2) (by omega)
            have hi4 : i2 + 1 ≤ n := by omega
            have hi5 : (i2 : Int) ≤ 100000 := by omega
            have h3 := h2.goto hi4 (z := (i2 : Int) + 1) (by omega)
            have t5 := h3.thawed (5 + (g + 1))
            have c5 := h3.cQ (g + 1) (by omega)
            have h4 := Lib.hid (h3.ended (q := g + 1) (by omega) q2)
            have k4 := Lib.hid (((k1.out.trans k2).trans (ChP.store _ T 1 (.int .i64 ((i2 : Int) + 1)) v2)).trans (ChP.store _ T (5 + (g + 1)) (.bool true) v2))
            have hf := Lib.hid (fits_group (q := (g : Int) + 1) (g := (g2 : Int)) ok2 (by omega) (by omega))
            have hU := Lib.hid (rput_any h4.out (groupN ((g : Int) + 1) x) hf.out)
            rw [show nodV (groupN ((g : Int) + 1) x) = _ from nodV_z 5 x 0 0 0 ((g : Int) + 1)] at hU
            replace q1 := Lib.hid q1
            replace q0 := Lib.hid q0
            replace q2 := Lib.hid q2
            replace q3 := Lib.hid q3
            replace q5 := Lib.hid q5
            replace q6 := Lib.hid q6
            replace ok2 := Lib.hid ok2
            replace hil2 := Lib.hid hil2
            clear h2 k2 h3 k1)
         | (have c2 := h2.c2
            have he : ((e2 : Int) != 0) = true := by rw [bne_iff_ne]; omega
            replace h2 := Lib.hid h2
            replace k2 := Lib.hid (k1.out.trans k2)
            replace q6 := Lib.hid q6
            replace he2 := Lib.hid he2
            clear k1)))
  · go_wp2_with (go_at_call 22; refine (hU.out).mono ?_; intro y w5 hy; obtain ⟨z, rfl, hy⟩ := hy.ret; replace hy := Lib.hid hy)
    go_ret
    have hq0 := q0.out
    have hq1 := q1.out
    have hq2 := q2.out
    have hq3 := q3.out
    obtain ⟨v5, ez, h5, k5⟩ := hy.out.room (by omega)
    refine .inl ⟨_, v5, _, g2, i2 + 1, _, ez, by rw [List.length_append]; exact okP_last _, h5, k4.out.trans k5, by rw [List.length_append]; omega, by rw [List.length_append, List.length_singleton]; omega, by omega, by omega, fun ct ps bs lv hct hlv => ?_⟩
    obtain ⟨ha, hs⟩ := q6.out ((g + 1, ps, bs) :: lv) rfl
    refine (StepsE.one (hst.out ct ps bs lv hct hlv)).trans (hs.snoc ?_)
    show stepEL l _ = _
    have hq5 := q5.out
    have hil2 := hil2.out
    simp only [stepEL]
    rw [if_neg (by omega), if_neg (by omega)]
    rw [if_pos hq5, ha]; rfl
  · go_ret
    exact .inr ⟨_, v2, ns2, g2, i2, cl2, e2, he2.out, rfl, h2.out, k2.out, fun ct ps bs lv hct hlv => (StepsE.one (hst.out ct ps bs lv hct hlv)).ends (q6.out _ rfl)⟩
end
end Go.Proofs.YtnfbgpjadnlgbaaGreat

set_option linter.unusedVariables false
set_option maxRecDepth 100000
namespace Go.Proofs.YtnfbgpjadnlgbaaGreat
open Go.RowKit

theorem nodV_allE : nodV (setN allS) = .agg #[.int .i64 1, .int .i64 0, .int .i64 0, .int .i64 0, .int .i64 0, .int .i64 0, .int .u64 18446744073709551615, .int .u64 18446744073709551615, .int .u64 18446744073709551615, .int .u64 18446744073709551615] := by
  have h := setC_all
  rw [setC_lit] at h
  rw [show nodV (setN allS) = _ from nodV_lit 1 0 0 0 0 0 allS]
  simp only [Array.mk.injEq, List.cons.injEq, and_true] at h
  obtain ⟨h0, h1, h2, h3⟩ := h
  rw [h0, h1, h2, h3]
section
variable {w : World} {B T : Nat} {A : Option Addr} {n c : Nat} {l : List UInt8} {v : Value} {ns : List Nod} {g i : Nat} {cl : Nat → Bool} (h : Rdr w B T A n c l v ns g i cl 0) {inG : Bool}
include h
theorem ebracket_any (hp : PieAt l i inG) (hl : ns.length < 1000) {r : List UInt8} (hx : l.drop i = 91 :: r) :
    Calls Tryz.prog 51 #[.pointer (some ⟨T, 0, none⟩)] w (ENode false w B T A n c l v ns g i cl inG) := by
  have hnl := h.hn
  have hin : i < n := by have := hp.lt; omega
  have ha := pie_brk hx
  cases hv : readB l (i + 1) with
  | error e =>
    have he := readB_wrong hv
    exact (rbracket_no h hin hv).mono fun _ _ y => y.enode hp (fun ct ps bs lv => by rw [ha]; unfold brkA; rw [hv]; rfl) (by omega)
  | ok p =>
    obtain ⟨f, j⟩ := p
    have hj := readB_size (by omega) hv
    exact (rbracket_yes h hin hv).mono fun _ _ y => y.enode hl hp (by rw [ha]; unfold brkA; rw [hv]; rfl) (by omega)
theorem eescape_any (hp : PieAt l i inG) (hl : ns.length < 1000) {r : List UInt8} (hx : l.drop i = 92 :: r) :
    Calls Tryz.prog 50 #[.pointer (some ⟨T, 0, none⟩)] w (ENode false w B T A n c l v ns g i cl inG) := by
  have ha := pie_esc hx
  refine (rescape_am h hx).mono fun e w' hy => RAm.enode hy hl hp ha (fun q hs => ?_) (fun j nd hs => ?_)
  · cases r with
    | nil => simp only [escE] at hs; injection hs with hs; omega
    | cons x r =>
      simp only [escE] at hs
      repeat' split at hs
      all_goals first
        | cases hs; done
        | (injection hs with hs; omega)
  · cases r with
    | nil => cases hs
    | cons x r =>
      simp only [escE] at hs
      repeat' split at hs
      all_goals first
        | cases hs; done
        | (injection hs with hs _; omega)

set_option maxHeartbeats 8000000 in
theorem eext_rep {first : Bool} (hp : PieAt l i inG) {x : UInt8} {r : List UInt8} (hx : l.drop i = x :: r) (hr : repB x) :
    Calls Tryz.prog 39 #[.pointer (some ⟨T, 0, none⟩), .bool first] w (ENode true w B T A n c l v ns g i cl inG) := by
  have hP := Lib.hid (fun w3 (hb : Below w.heap.size w w3) => h.keep hb)
  have hN0 := Lib.hid (next_at h 0 0 rfl (by decide))
  rw [show nx l (i + 0) = (x.toNat : Int) from by rw [nx_drop, hx]; rfl] at hN0
  have hfin := Lib.hid (fun (w' : World) (z : Ending) (y : RBad w B T A n c l v i 13 z w') => y.enode (pc := true) (inG := inG) (ns := ns) (g := g) (cl := cl) hp (fun ct ps bs lv => by rw [pie_rep hx hr]; rfl) (by decide))
  clear h hx hp
  unfold repB at hr
  rcases hr with rfl | rfl | rfl | rfl
  all_goals
    go_enter Tryz.func39, Tryz.ntmps39
    go_wp2_with (go_at_call 32; refine (hN0.out).mono ?_; rintro e w1 ⟨rfl, hb1⟩; have h2 := hP.out _ hb1; have c2 := h2.c2; have t2 := h2.thawed 2; have h3 := Lib.hid (h2.erred 13 (z := 13) rfl); have k3 := Lib.hid ((ChP.of_below (T := T) (v := v) hb1).trans (ChP.store w1 T 2 (.int .i64 13) v)); clear h2)
    go_ret
    exact hfin.out _ _ ⟨0, v, _, _, _, rfl, h3.out, k3.out⟩

set_option maxHeartbeats 4000000 in
theorem eext_par {first : Bool} (hp : PieAt l i inG) {r : List UInt8} (hx : l.drop i = 41 :: r) :
    Calls Tryz.prog 39 #[.pointer (some ⟨T, 0, none⟩), .bool first] w (ENode true w B T A n c l v ns g i cl inG) := by
  have hP := Lib.hid (fun w3 (hb : Below w.heap.size w w3) => h.keep hb)
  have hN0 := Lib.hid (next_at h 0 0 rfl (by decide))
  rw [show nx l (i + 0) = 41 from by rw [nx_drop, hx]; rfl] at hN0
  have hfin := Lib.hid (fun (w' : World) (z : Ending) (y : RBad w B T A n c l v i 14 z w') => y.enode (pc := true) (inG := inG) (ns := ns) (g := g) (cl := cl) hp (fun ct ps bs lv => by rw [pie_par hx]; rfl) (by decide))
  clear h hx hp
  go_enter Tryz.func39, Tryz.ntmps39
  go_wp2_with (go_at_call 32; refine (hN0.out).mono ?_; rintro e w1 ⟨rfl, hb1⟩; have h2 := hP.out _ hb1; have c2 := h2.c2; have t2 := h2.thawed 2; have h3 := Lib.hid (h2.erred 14 (z := 14) rfl); have k3 := Lib.hid ((ChP.of_below (T := T) (v := v) hb1).trans (ChP.store w1 T 2 (.int .i64 14) v)); clear h2)
  go_ret
  exact hfin.out _ _ ⟨0, v, _, _, _, rfl, h3.out, k3.out⟩

set_option maxHeartbeats 8000000 in
theorem eext_bol {first : Bool} (hp : PieAt l i inG) (hl : ns.length < 1000) {r : List UInt8} (hx : l.drop i = 94 :: r) :
    Calls Tryz.prog 39 #[.pointer (some ⟨T, 0, none⟩), .bool first] w (ENode true w B T A n c l v ns g i cl inG) := by
  obtain ⟨hi, -, -⟩ := drop_at hx
  have hns : n ≤ 100000 := h.txt.2.2.2.1
  have hi1 : i + 1 ≤ n := by have := h.hn; omega
  have hi0 : (i : Int) ≤ 100000 := by omega
  have hP := Lib.hid (fun w3 (hb : Below w.heap.size w w3) => h.keep hb)
  have hN0 := Lib.hid (next_at h 0 0 rfl (by decide))
  rw [show nx l (i + 0) = 94 from by rw [nx_drop, hx]; rfl] at hN0
  have hU := Lib.hid (fun w1 (h1 : Rdr w1 B T A n c l v ns g (i + 1) cl 0) => rput_any h1 bolN (fits_plain 7 (.inr (.inl rfl)) _ _))
  rw [show nodV bolN = _ from nodV_z 7 0 0 0 0 0] at hU
  have hfin := Lib.hid (fun (w' : World) (z : Ending) (y : RPut w B T A n c l v ns g (i + 1) cl bolN z w') => y.eanc (inG := inG) hl hp (pie_bol hx))
  clear h hx hp hi
  go_enter Tryz.func39, Tryz.ntmps39
  go_wp2_with (first
    | (go_at_call 32; refine (hN0.out).mono ?_; rintro e w1 ⟨rfl, hb1⟩; have h1 := hP.out _ hb1; have c1 := h1.c1; have t1 := h1.thawed 1; have hT1 := h1.lt; have hTG : T ≠ w1.heap.size := Nat.ne_of_lt hT1; have hTG' : ¬ w1.heap.size = T := fun e => hTG e.symm; have h2 := Lib.hid (h1.goto hi1 (z := (i : Int) + 1) (by omega)); have k2 := Lib.hid ((ChP.of_below (T := T) (v := v) hb1).trans (ChP.store w1 T 1 (.int .i64 ((i : Int) + 1)) v)); clear h1)
    | (go_at_call 22; refine (hU.out _ (h2.out.keep ((Below.refl _ _).alloc (Nat.le_refl _) _))).mono ?_; intro y w8 hy; obtain ⟨z, rfl, hy⟩ := hy.ret; replace hy := Lib.hid (hfin.out _ _ (hy.from (k2.out.trans (ChP.of_below ((Below.refl _ _).alloc (Nat.le_refl _) _)))))))
  go_ret
  exact hy.out

set_option maxHeartbeats 8000000 in
theorem eext_eol {first : Bool} (hp : PieAt l i inG) (hl : ns.length < 1000) {r : List UInt8} (hx : l.drop i = 36 :: r) :
    Calls Tryz.prog 39 #[.pointer (some ⟨T, 0, none⟩), .bool first] w (ENode true w B T A n c l v ns g i cl inG) := by
  obtain ⟨hi, -, -⟩ := drop_at hx
  have hns : n ≤ 100000 := h.txt.2.2.2.1
  have hi1 : i + 1 ≤ n := by have := h.hn; omega
  have hi0 : (i : Int) ≤ 100000 := by omega
  have hP := Lib.hid (fun w3 (hb : Below w.heap.size w w3) => h.keep hb)
  have hN0 := Lib.hid (next_at h 0 0 rfl (by decide))
  rw [show nx l (i + 0) = 36 from by rw [nx_drop, hx]; rfl] at hN0
  have hU := Lib.hid (fun w1 (h1 : Rdr w1 B T A n c l v ns g (i + 1) cl 0) => rput_any h1 eolN (fits_plain 8 (.inr (.inr rfl)) _ _))
  rw [show nodV eolN = _ from nodV_z 8 0 0 0 0 0] at hU
  have hfin := Lib.hid (fun (w' : World) (z : Ending) (y : RPut w B T A n c l v ns g (i + 1) cl eolN z w') => y.eanc (inG := inG) hl hp (pie_eol hx))
  clear h hx hp hi
  go_enter Tryz.func39, Tryz.ntmps39
  go_wp2_with (first
    | (go_at_call 32; refine (hN0.out).mono ?_; rintro e w1 ⟨rfl, hb1⟩; have h1 := hP.out _ hb1; have c1 := h1.c1; have t1 := h1.thawed 1; have hT1 := h1.lt; have hTG : T ≠ w1.heap.size := Nat.ne_of_lt hT1; have hTG' : ¬ w1.heap.size = T := fun e => hTG e.symm; have h2 := Lib.hid (h1.goto hi1 (z := (i : Int) + 1) (by omega)); have k2 := Lib.hid ((ChP.of_below (T := T) (v := v) hb1).trans (ChP.store w1 T 1 (.int .i64 ((i : Int) + 1)) v)); clear h1)
    | (go_at_call 22; refine (hU.out _ (h2.out.keep ((Below.refl _ _).alloc (Nat.le_refl _) _))).mono ?_; intro y w8 hy; obtain ⟨z, rfl, hy⟩ := hy.ret; replace hy := Lib.hid (hfin.out _ _ (hy.from (k2.out.trans (ChP.of_below ((Below.refl _ _).alloc (Nat.le_refl _) _)))))))
  go_ret
  exact hy.out
end
end Go.Proofs.YtnfbgpjadnlgbaaGreat
