/- Contract of package match's toItsEnd. -/
import Derived.Test.YtbgalmnhhjiagaaM47
set_option linter.unusedVariables false
set_option linter.unusedSimpArgs false
set_option maxRecDepth 100000
namespace Go.Proofs.Ytbgalmnhhjiagaa
open Go.RowKit
/-- What going a way to its end leaves. -/
inductive EndP (w : World) (B S W : Nat) (An : Option Addr) (nn cn : Nat) (At : Option Addr) (nt ct : Nat) (ns : List Nod) (t : List UInt8) (g : Int) (a left : Nat) (v : Value) (xs : List Wt) (b : Option Spn) (x : Wy) : Ending → World → Prop
  | dry {w' : World} {v' : Value} (h : Over ns t (x :: xs.map wyW) left) (hc : Chm w w' S W v v') : EndP w B S W An nn cn At nt ct ns t g a left v xs b x (.returned (.bool false)) w'
  | done {w' : World} {v' : Value} {xs' : List Wt} {left' c : Nat} {hs : List Pt} (h : Srch w' B S An nn cn At nt ct ns t g a left' v' xs' (bestF b (hs.map (hitS a)))) (hc : Chm w w' S W v v') (he : Eqv ns t (x :: xs.map wyW) (xs'.map wyW) c hs) (hl : left' + c = left) (hk : ∀ y ∈ xs', WOK ns t g a (wyW y)) (hf : xs'.length + left' ≤ xs.length + left) : EndP w B S W An nn cn At nt ct ns t g a left v xs b x (.returned (.bool true)) w'
/-- On the way. -/
structure RelE (w : World) (B S W : Nat) (An : Option Addr) (nn cn : Nat) (At : Option Addr) (nt ct : Nat) (ns : List Nod) (t : List UInt8) (g : Int) (a left : Nat) (v : Value) (xs : List Wt) (b : Option Spn) (x : Wy) (v1 : Value) (xs1 : List Wt) (left1 : Nat) (pv1 : Value) (p1 : Pt) (l1 : List Tsk) (c : Nat) (wr : World) : Prop where
  st : Sta wr B S W An nn cn At nt ct ns t g a left1 v1 xs1 b pv1 p1 l1
  ch : Chm w wr S W v v1
  eq : Eqv ns t (x :: xs.map wyW) ((l1, p1) :: xs1.map wyW) c []
  le : left1 + c = left
  ok : WOK ns t g a (l1, p1)
  oks : ∀ y ∈ xs1, WOK ns t g a (wyW y)
  few : xs1.length + left1 ≤ xs.length + left
def leftM (S : Nat) (w : World) : Nat := match w.cell? ⟨S, 3, none⟩ with | some (.int _ z) => z.toNat | _ => 0
section
variable {w w1 w' : World} {B S W : Nat} {An : Option Addr} {nn cn : Nat} {At : Option Addr} {nt ct : Nat} {ns : List Nod} {t : List UInt8} {g : Int} {a left : Nat} {v v' : Value} {xs : List Wt} {b : Option Spn} {pv : Value} {p : Pt} {l r : List Tsk} {tk : Tsk} {x : Wy} {v1 : Value} {xs1 : List Wt} {left1 c : Nat} {pv1 : Value} {p1 : Pt} {wr : World}
theorem leftM_at (h : Sta w B S W An nn cn At nt ct ns t g a left v xs b pv p l) : leftM S w = left := by unfold leftM; rw [h.c3]; rfl
/-- A task is done: the way ends, or goes on. -/
theorem RelE.gone (h : RelE w B S W An nn cn At nt ct ns t g a left v xs b x v1 xs1 (left1 + 1) pv1 p1 (tk :: r) c wr) {w2 w3 : World} (hc2 : Chm wr w2 S W v1 v1) (hg : GoP w2 B S W An nn cn At nt ct ns t g a left1 v1 xs1 b ((nexts ns t tk p1).map (ahead r)) (.returned (.bool false)) w3) : EndP w B S W An nn cn At nt ct ns t g a left v xs b x (.returned (.bool true)) w3 := by
  cases hg with
  | gone hL hs hw hc =>
    have he := Eqv.trans h.eq (Eqv.step (ns := ns) (t := t) (tk := tk) (r := r) (p := p1) (s := xs1.map wyW))
    rw [hL] at he
    have hle := h.le
    have hfw := h.few
    have e0 : bestF b [] = b := by cases b <;> rfl
    exact .done (hs := []) (by rw [List.map_nil, e0]; exact hs) ((h.ch.trans hc2).trans hc) he (by omega) h.oks (by omega)
theorem RelE.goes (h : RelE w B S W An nn cn At nt ct ns t g a left v xs b x v1 xs1 (left1 + 1) pv1 p1 (tk :: r) c wr) (hr : Rt ns g) {w2 w3 : World} (hc2 : Chm wr w2 S W v1 v1) (hg : GoP w2 B S W An nn cn At nt ct ns t g a left1 v1 xs1 b ((nexts ns t tk p1).map (ahead r)) (.returned (.bool true)) w3) : ∃ v2 xs2 pv2 p2 l2 c2, RelE w B S W An nn cn At nt ct ns t g a left v xs b x v2 xs2 left1 pv2 p2 l2 c2 w3 := by
  cases hg with
  | @goes _ v2 pv2 p2 l2 ys hs hc hy hp =>
    have hok := h.ok.next hr
    have hle := h.le
    have hfw := h.few
    have hm : ∀ y ∈ (l2, p2) :: ys.map wyW, WOK ns t g a y := fun y hy' => hok y (hp.mem_iff.1 hy')
    have he := Eqv.trans h.eq (Eqv.step (ns := ns) (t := t) (tk := tk) (r := r) (p := p1) (s := xs1.map wyW))
    have hperm : ((nexts ns t tk p1).map (ahead r) ++ xs1.map wyW).Perm ((l2, p2) :: (xs1 ++ ys).map wyW) := by
      rw [List.map_append]
      have h1 := (hp.symm.append_right (xs1.map wyW))
      refine h1.trans ?_
      rw [List.cons_append]
      exact List.Perm.cons _ List.perm_append_comm
    have he2 := he.trans (Eqv.perm hperm)
    refine ⟨v2, xs1 ++ ys, pv2, p2, l2, c + 1 + 0, hs, (h.ch.trans hc2).trans hc, he2, by omega, hm _ List.mem_cons_self, fun y hy' => ?_, by rw [List.length_append]; omega⟩
    rcases List.mem_append.1 hy' with hy' | hy'
    · exact h.oks y hy'
    · exact hm _ (List.mem_cons_of_mem _ (List.mem_map.2 ⟨y, hy', rfl⟩))
theorem RelE.dry (h : RelE w B S W An nn cn At nt ct ns t g a left v xs b x v1 xs1 0 pv1 p1 (tk :: r) c wr) : EndP w B S W An nn cn At nt ct ns t g a left v xs b x (.returned (.bool false)) wr := by
  have hle := h.le
  exact .dry (h.eq.over (Over.zero (by omega))) h.ch
theorem RelE.hit (h : RelE w B S W An nn cn At nt ct ns t g a left v xs b x v1 xs1 left1 pv1 p1 [] c wr) {w3 : World} (hs : Srch w3 B S An nn cn At nt ct ns t g a left1 v1 xs1 (bestF b [hitS a p1])) (hc : Chm wr w3 S W v1 v1) : EndP w B S W An nn cn At nt ct ns t g a left v xs b x (.returned (.bool true)) w3 := by
  have he := Eqv.trans h.eq (Eqv.hit (ns := ns) (t := t) (p := p1) (s := xs1.map wyW))
  have hle := h.le
  exact .done (hs := [p1]) hs (h.ch.trans hc) he (by omega) h.oks h.few
set_option maxHeartbeats 8000000 in
theorem toItsEnd_any (h : Sta w B S W An nn cn At nt ct ns t g a left v xs b pv p l) (hwk : WOK ns t g a (l, p)) (hoks : ∀ y ∈ xs, WOK ns t g a (wyW y)) (hf : xs.length + left ≤ 1000000) :
    Calls Try.prog 25 #[.pointer (some ⟨S, 0, none⟩), .pointer (some ⟨W, 0, none⟩)] w (EndP w B S W An nn cn At nt ct ns t g a left v xs b (l, p)) := by
  have hr := h.s.thru.rt
  have h0 := Lib.hid (show RelE w B S W An nn cn At nt ct ns t g a left v xs b (l, p) v xs left pv p l 0 w from ⟨h, Chm.of_below (Below.refl _ _), Eqv.refl _, by omega, hwk, hoks, Nat.le_refl _⟩)
  clear h hwk hoks
  go_enter Try.func25, Try.ntmps25
  go_wp2
  go_loopw [] (fun wr => ∃ v1 xs1 left1 pv1 p1 l1 c, Hid (RelE w B S W An nn cn At nt ct ns t g a left v xs b (l, p) v1 xs1 left1 pv1 p1 l1 c wr)) (fun wr => leftM S wr)
  case atStart => exact ⟨v, xs, left, pv, p, l, 0, h0⟩
  case round =>
    obtain ⟨v1, xs1, left1, pv1, p1, l1, c, hR⟩ := hrel
    clear h0
    have hrow := hR.out.st.row
    have p21 := hR.out.st.p21
    have c3 := hR.out.st.c3
    have t3 := hR.out.st.s.held.thawed 3
    have hm := Lib.hid (leftM_at hR.out.st)
    have hfw := hR.out.few
    have hlw := hR.out.le
    cases l1 with
    | nil =>
      cases hrow
      have hM := Lib.hid (matched_any hR.out.st)
      have hE := Lib.hid (fun w3 hs hc => hR.out.hit (w3 := w3) hs hc)
      clear hR hfw hlw
      go_wp2_with (go_at_call 37; refine (hM.out).mono ?_; rintro e w3 ⟨rfl, hs, hc⟩; replace hE := Lib.hid (hE.out w3 hs hc); clear hs hc)
      go_ret
      exact hE.out
    | cons tk r =>
      obtain ⟨cb, k0, n0, u0, q0, pv', rfl, -, -, -⟩ := hrow.head
      cases left1 with
      | zero =>
        have hE := Lib.hid hR.out.dry
        clear hR hfw hlw hrow
        go_wp2
        go_ret
        exact hE.out
      | succ left1 =>
        have hne : (((left1 + 1 : Nat) : Int) == 0) = false := by rw [beq_eq_false_iff_ne]; omega
        have hne2 : (((left1 : Int) + 1) == 0) = false := by rw [beq_eq_false_iff_ne]; omega
        have hw1 : IntKind.i64.wrap (((left1 + 1 : Nat) : Int) - 1) = (left1 : Int) := by rw [IntWalk.i64_in _ (by omega)]; omega
        have hsp := Lib.hid (hR.out.st.spent (z := (left1 : Int)) rfl)
        have hG := Lib.hid (goesOn_any hsp.out.1 hR.out.ok (by omega))
        have hE := Lib.hid (fun w3 hg => hR.out.gone hsp.out.2 (w3 := w3) hg)
        have hN := Lib.hid (fun w3 hg => hR.out.goes hr hsp.out.2 (w3 := w3) hg)
        have hm2 := Lib.hid (show leftM S wr = left1 + 1 from hm.out)
        clear hR hfw hlw hrow hm
        generalize hL1 : (((left1 + 1 : Nat)) : Int) = L1 at *
        replace hL1 := Lib.hid hL1
        go_wp2_with (go_at_call 36; refine (hG.out).mono ?_; intro e w3 hg; obtain ⟨rb, rfl⟩ := hg.ret; cases rb <;> replace hg := Lib.hid hg)
        · go_ret
          exact hE.out _ hg.out
        · obtain ⟨v2, xs2, pv2, p2, l2, c2, hq⟩ := hN.out _ hg.out
          go_roundw
          case rel => exact ⟨v2, xs2, left1, pv2, p2, l2, c2, Lib.hid hq⟩
          case measure => rw [leftM_at hq.st, hm2.out]; omega
end
end Go.Proofs.Ytbgalmnhhjiagaa
