/- Contracts of package files that write: Put. -/
import Derived.Test.YtkdhfjnfdcopdaaFilH
namespace Go.Proofs.Ytkdhfjnfdcopdaa
open Go.RowKit

theorem opF_set {fs : List Fil} {nm : ByteArray} {k : Nat} (h : posN (opF fs nm) nm = some k) (hk : k < (opF fs nm).length) (l : List UInt8) : (opF fs nm).set k (((opF fs nm)[k]'hk).1, l) = setF fs nm l := by
  obtain ⟨_, e⟩ := posN_lt h
  rw [e, ← setF_setF fs nm (getF fs nm) l]
  show _ = setF (opF fs nm) nm l
  rw [setF, h]
theorem opF_lt {fs : List Fil} {nm : ByteArray} {k : Nat} (h : posN (opF fs nm) nm = some k) : k < (opF fs nm).length := (posN_lt h).1
theorem opF_len {fs : List Fil} (hok : OkF fs) (nm : ByteArray) : (opF fs nm).length ≤ 17 := by
  have := hok.1
  unfold opF setF
  split <;> simp <;> omega
theorem bss_one (w : World) (A : Option Addr) (n c : Nat) (l : List UInt8) (t : TypeId) (h1 : n = l.length) (h2 : n ≤ c) (h3 : c ≤ maxLen) (Q : Nat → Prop) (h : BytQ w Q A l) :
    Bss (w.alloc (.cells #[.slice A n c] t)) (fun _ => True) (some ⟨w.heap.size, 0, none⟩) [l] := by
  intro k hk
  obtain rfl : k = 0 := by simpa using hk
  refine ⟨_, _, rfl, trivial, new_one w (.slice A n c) t 0 _ rfl, A, n, c, rfl, h1, h2, h3, ?_⟩
  refine BytQ.keep h (fun p _ hp => ?_) (fun _ _ _ => trivial)
  exact ((Below.refl w.heap.size w).alloc (Nat.le_refl _) _).cell hp
theorem BytQ.fr {w w' : World} {F : Nat → Prop} {A : Option Addr} {l : List UInt8} (h : BytQ w (fun k => ¬ F k) A l) (hf : Fr F w w') : BytQ w' (fun k => ¬ F k) A l := h.keep (fun _ hn hp => hf.cell hp hn) (fun _ hn _ => hn)
theorem Fils.fr {w w' : World} {F : Nat → Prop} {A : Option Addr} {l : List Fil} (h : Fils w (fun k => ¬ F k) A l) (hf : Fr F w w') : Fils w' (fun k => ¬ F k) A l := h.keep (fun _ hn hp => hf.cell hp hn) (fun _ hn _ => hn)
theorem Bss.fr {w w' : World} {F : Nat → Prop} {A : Option Addr} {l : List (List UInt8)} (h : Bss w (fun k => ¬ F k) A l) (hf : Fr F w w') : Bss w' (fun k => ¬ F k) A l := h.keep (fun _ hn hp => hf.cell hp hn) (fun _ hn _ => hn)
/-- Where the pointer of an open file leads. -/
theorem TabAt.fileB {w : World} {F : Nat → Prop} {T g c k : Nat} {vs : List Value} {fs : List Fil} (h : TabAt w F T (.slice (some ⟨g, 0, none⟩) fs.length c) vs fs) (hk : k < fs.length) :
    ∃ x, vs[k]? = some x ∧ w.cell? ⟨g, k * 2 + 1, none⟩ = some x ∧ w.frozen? ⟨g, k * 2 + 1, none⟩ = false ∧ g < w.heap.size ∧ OwnF w F x (fs[k]'hk).2 := by
  have hv : k < vs.length := by have := h.row.len; omega
  have hx : vs[k]? = some (vs[k]'hv) := List.getElem?_eq_getElem hv
  refine ⟨_, hx, ?_, h.row.own.frozenAt _, (h.row.own.lt g rfl).2, h.row.each k _ _ hx (List.getElem?_eq_getElem hk)⟩
  rw [h.row.own.cellAt _ (by omega), (filCells_at vs fs h.row.len k hk).2, hx]

set_option maxHeartbeats 2000000 in
theorem put_any (F : Nat → Prop) (T : Nat) (fs : List Fil) (nm : ByteArray) (A : Option Addr) (n c : Nat) (l : List UInt8) (w : World) (h : Tab w F T fs) (hok : OkF fs) (hop : ∀ k, w.heap.size ≤ k → F k) (hs : nm.size ≤ maxLen)
    (hn : n = l.length) (hnc : n ≤ c) (hm : c ≤ maxLen) (hB : BytQ w (fun k => ¬ F k) A l) :
    Calls Try.prog 13 #[.pointer (some ⟨T, 0, none⟩), .string nm, .slice A n c] w fun e w' => e = .returned (.int .i64 (putF fs nm l).2) ∧ Tab w' F T (putF fs nm l).1 ∧ Fr F w w' := by
  have hb1 : ∀ o, Below w.heap.size w (w.alloc o) := fun o => (Below.refl _ w).alloc (Nat.le_refl _) o
  have hFit := fit_any (some ⟨w.heap.size, 0, none⟩) 1 1 65536 [l] (fun _ => True) (w.alloc (.cells #[.slice A n c] 35)) rfl (Nat.le_refl _) (by simp [maxLen]) (bss_one w A n c l _ hn hnc hm _ hB) (Nat.le_refl _)
  have hflat : decide (([l] : List (List UInt8)).flatten.length ≤ 65536) = decide (l.length ≤ 65536) := by simp
  rw [hflat] at hFit
  have hR := refusal_any F T fs nm (decide (l.length ≤ 65536)) (w.alloc (.cells #[.slice A n c] 35)) (h.below (hb1 _)) hok hs
  have hO := Lib.hid (fun (w1 : World) (hb : Below w.heap.size w w1) => open_any F T fs nm w1 (h.below hb) hok (fun k hk => hop k (Nat.le_trans hb.size hk)))
  have hpu : putF fs nm l = if refuse fs nm (decide (l.length ≤ 65536)) = 0 then (setF fs nm l, 0) else (fs, refuse fs nm (decide (l.length ≤ 65536))) := rfl
  have hz := fun e => (refuse_zero (fs := fs) (nm := nm) (fits := decide (l.length ≤ 65536)) e).2.1
  have hFit := Lib.hid hFit
  clear hflat
  generalize refuse fs nm (decide (l.length ≤ 65536)) = e0 at *
  have hR := Lib.hid hR
  by_cases he : e0 = 0
  · subst he
    have hle : l.length ≤ 65536 := by simpa using hz rfl
    rw [hpu, if_pos rfl]
    clear hz hpu
    have hC := Lib.hid (fun (w2 : World) (hf : Fr F w w2) => clone_any A n c l w2.heap.size w2 hn (by omega) (hB.fr hf).byt)
    have hH := Lib.hid hn
    have hBB := Lib.hid hB
    have hh := Lib.hid h
    clear hn hB h hle
    generalize decide (l.length ≤ 65536) = fits at *
    go_enter Try.func13, Try.ntmps13
    go_wp2_with (first
      | (go_at_call 32; refine (hFit.out).mono ?_; rintro e w0 ⟨rfl, rfl⟩)
      | (go_at_call 31; refine (hR.out).mono ?_; rintro e w1 ⟨rfl, hb⟩
         have hbw : Below w.heap.size w w1 := (hb1 _).trans (hb.mono (hb1 _).size))
      | (go_at_call 34; refine (hO.out _ hbw).mono ?_; rintro e w2 ⟨g, c2, k, vs2, rfl, hT2, hp2, hF2⟩
         have hFw := (Fr.of_below hbw).trans hF2
         obtain ⟨x, hx, -, -, hglt, hxo⟩ := hT2.fileB (opF_lt hp2)
         have hT2 := Lib.hid hT2
         have hx := Lib.hid hx)
      | (go_at_call 33; refine (hC.out _ hFw).mono ?_; rintro e w3 ⟨v3, rfl, ho3, hb3⟩
         obtain ⟨A3, c3, rfl, -, -, -, -⟩ := own_byt ho3
         obtain ⟨x3, -, hc3, hfr3, hg3, -⟩ := (hT2.out.below hb3).fileB (opF_lt hp2)))
    go_ret
    refine ⟨rfl, ?_, (hFw.trans (Fr.of_below hb3)).trans (Fr.setCell _ _ (hT2.out.row.kind g rfl))⟩
    have hsz := hop
    have := hT2.out.put (opF_lt hp2) hx.out (grown_any (grown_of_below hb3) _) (u := .slice A3 n c3) (l := l) ⟨own_base (by rw [← hH.out]; exact ho3) (Nat.zero_le _), fun b e => hop b (Nat.le_trans hFw.size ((ho3.lt b e).1))⟩ (fun b e => .inr (ho3.lt b e).1)
    rw [opF_set hp2] at this
    have e2 : (opF fs nm).length = (setF fs nm l).length := by rw [← opF_set hp2 (opF_lt hp2) l, List.length_set]
    rw [e2] at this
    exact ⟨_, _, this⟩
  · rw [hpu, if_neg he]
    have hne : (e0 == 0) = false := by rw [beq_eq_false_iff_ne]; exact he
    clear hz hpu hO
    have hh := Lib.hid h
    have hBB := Lib.hid hB
    have hH := Lib.hid hn
    clear hn hB h he
    generalize decide (l.length ≤ 65536) = fits at *
    go_enter Try.func13, Try.ntmps13
    go_wp2_with (first
      | (go_at_call 32; refine (hFit.out).mono ?_; rintro e w0 ⟨rfl, rfl⟩)
      | (go_at_call 31; refine (hR.out).mono ?_; rintro e w1 ⟨rfl, hb⟩
         have hbw : Below w.heap.size w w1 := (hb1 _).trans (hb.mono (hb1 _).size)))
    go_ret
    exact ⟨rfl, hh.out.below hbw, Fr.of_below hbw⟩
end Go.Proofs.Ytkdhfjnfdcopdaa
