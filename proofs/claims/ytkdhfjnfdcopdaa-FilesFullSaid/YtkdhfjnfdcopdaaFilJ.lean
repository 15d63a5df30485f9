/- Contracts of package files that write: Add. -/
import Derived.Test.YtkdhfjnfdcopdaaFilI
namespace Go.Proofs.Ytkdhfjnfdcopdaa
open Go.RowKit

def spot (fs : List Fil) (nm : ByteArray) : Nat := match posN fs nm with | none => fs.length | some k => k
theorem posN_spot (fs : List Fil) (nm : ByteArray) (b : List UInt8) : posN (setF fs nm b) nm = some (spot fs nm) := by
  unfold setF spot
  cases hp : posN fs nm with
  | none => exact posN_snoc hp b
  | some k => exact posN_set hp b
theorem setF_spot (fs : List Fil) (nm : ByteArray) (b : List UInt8) : ∃ h : spot fs nm < (setF fs nm b).length, (setF fs nm b)[spot fs nm]'h = (nm, b) := by
  obtain ⟨k, h1, h2⟩ := posN_setF fs nm b
  rw [posN_spot] at h1
  injection h1 with h1
  subst h1
  exact List.getElem?_eq_some_iff.1 h2
theorem setF_put (fs : List Fil) (nm : ByteArray) (b b' : List UInt8) (h : spot fs nm < (setF fs nm b).length) : (setF fs nm b).set (spot fs nm) (((setF fs nm b)[spot fs nm]'h).1, b') = setF fs nm b' := by
  rw [← setF_setF fs nm b b']
  conv => rhs; rw [setF, posN_spot]
  obtain ⟨h', e⟩ := setF_spot fs nm b
  rw [e]
theorem spot_all {fs fj : List Fil} {nm : ByteArray} {b : List UInt8} {k : Nat} (hf : fj = setF fs nm b) (hk : k = spot fs nm) : ∃ h : k < fj.length, fj[k]'h = (nm, b) ∧ ∀ b', fj.set k ((fj[k]'h).1, b') = setF fs nm b' := by
  subst hf
  subst hk
  obtain ⟨h, e⟩ := setF_spot fs nm b
  exact ⟨h, e, fun b' => setF_put fs nm b b' h⟩
theorem TabAt.fileG {w w' : World} {F : Nat → Prop} {T g c k : Nat} {x : Value} {vs : List Value} {fs : List Fil} (h : TabAt w F T (.slice (some ⟨g, 0, none⟩) fs.length c) vs fs) (hk : k < fs.length) (hx : vs[k]? = some x) (hg : w.grownBy w' x.ownBlock) :
    w'.cell? ⟨g, k * 2 + 1, none⟩ = some x ∧ w'.frozen? ⟨g, k * 2 + 1, none⟩ = false ∧ g < w'.heap.size := by
  obtain ⟨x', hx', hc, hf, hlt, hxo⟩ := h.fileB hk
  obtain rfl : x = x' := by rw [hx] at hx'; injection hx'
  have hne : some g ≠ x.ownBlock := fun e => own_ne hxo.1 h.row.own ty_ne1 e.symm rfl
  have hb := hg.block g hlt hne
  exact ⟨(World.cell?_of_block (a := ⟨g, k * 2 + 1, none⟩) hb).trans hc, (World.frozen?_of_block (a := ⟨g, k * 2 + 1, none⟩) hb).trans hf, Nat.lt_of_lt_of_le hlt hg.size⟩
theorem bvs_one (l : List UInt8) : ∀ u ∈ bv l, u.oneCell' = true := by
  intro u hu
  obtain ⟨c, _, rfl⟩ := List.mem_map.1 hu
  rfl

def RelAdd (w : World) (F : Nat → Prop) (T g c2 : Nat) (fs : List Fil) (nm : ByteArray) (ls : List (List UInt8)) (n : Nat) (i : Value) (wr : World) : Prop :=
  ∃ (j : Nat) (vs : List Value) (fj : List Fil), j ≤ n ∧ i = .int .i64 (j : Nat) ∧ TabAt wr F T (.slice (some ⟨g, 0, none⟩) fj.length c2) vs fj ∧ Hid (fj = setF fs nm (getF fs nm ++ (ls.take j).flatten)) ∧ Fr F w wr
theorem RelAdd.mk {w : World} {F : Nat → Prop} {T g c2 : Nat} {fs : List Fil} {nm : ByteArray} {ls : List (List UInt8)} {n : Nat} {i : Value} {wr : World}
    (h : ∃ (j : Nat) (vs : List Value) (fj : List Fil), j ≤ n ∧ i = .int .i64 (j : Nat) ∧ TabAt wr F T (.slice (some ⟨g, 0, none⟩) fj.length c2) vs fj ∧ Hid (fj = setF fs nm (getF fs nm ++ (ls.take j).flatten)) ∧ Fr F w wr) : RelAdd w F T g c2 fs nm ls n i wr := h

set_option maxHeartbeats 2000000 in
theorem add_any (F : Nat → Prop) (T : Nat) (fs : List Fil) (nm : ByteArray) (A : Option Addr) (n c : Nat) (ls : List (List UInt8)) (w : World) (h : Tab w F T fs) (hok : OkF fs) (hop : ∀ k, w.heap.size ≤ k → F k) (hs : nm.size ≤ maxLen)
    (hn : n = ls.length) (hnc : n ≤ c) (hm : c ≤ maxLen) (hB : Bss w (fun k => ¬ F k) A ls) :
    Calls Try.prog 15 #[.pointer (some ⟨T, 0, none⟩), .string nm, .slice A n c] w fun e w' => e = .returned (.int .i64 (addF fs nm ls.flatten).2) ∧ Tab w' F T (addF fs nm ls.flatten).1 ∧ Fr F w w' := by
  have hg := getF_le hok nm
  have hRm := Lib.hid (room_any F T fs nm w h hok)
  have hFit := fun (w1 : World) (hb : Below w.heap.size w w1) => fit_any A n c (65536 - (getF fs nm).length) ls (fun k => ¬ F k) w1 hn hnc hm (hB.below hb) (by omega)
  have hdec : decide (ls.flatten.length ≤ 65536 - (getF fs nm).length) = decide ((getF fs nm ++ ls.flatten).length ≤ 65536) := by
    rw [List.length_append, decide_eq_decide]; omega
  rw [hdec] at hFit
  have hR := fun (w1 : World) (hb : Below w.heap.size w w1) => refusal_any F T fs nm (decide ((getF fs nm ++ ls.flatten).length ≤ 65536)) w1 (h.below hb) hok hs
  have hO := Lib.hid (fun (w1 : World) (hb : Below w.heap.size w w1) => open_any F T fs nm w1 (h.below hb) hok (fun k hk => hop k (Nat.le_trans hb.size hk)))
  have hpu : addF fs nm ls.flatten = if refuse fs nm (decide ((getF fs nm ++ ls.flatten).length ≤ 65536)) = 0 then (setF fs nm (getF fs nm ++ ls.flatten), 0) else (fs, refuse fs nm (decide ((getF fs nm ++ ls.flatten).length ≤ 65536))) := rfl
  have hz := fun e => (refuse_zero (fs := fs) (nm := nm) (fits := decide ((getF fs nm ++ ls.flatten).length ≤ 65536)) e).2.1
  have hFit := Lib.hid hFit
  clear hdec
  unfold maxLen at hm
  generalize refuse fs nm (decide ((getF fs nm ++ ls.flatten).length ≤ 65536)) = e0 at *
  have hR := Lib.hid hR
  by_cases he : e0 = 0
  · subst he
    have hle : (getF fs nm ++ ls.flatten).length ≤ 65536 := by simpa using hz rfl
    rw [List.length_append] at hle
    rw [hpu, if_pos rfl]
    have hpre := Lib.hid (show ∀ j, (getF fs nm).length + (ls.take j).flatten.length ≤ 65536 from fun j => by have := flat_take_le ls j; omega)
    have hH := Lib.hid hn
    have hBB := Lib.hid hB
    have hop2 := Lib.hid (fun (w1 : World) (hf : Fr F w w1) (k : Nat) (hk : w1.heap.size ≤ k) => hop k (Nat.le_trans hf.size hk))
    obtain ⟨i0, hi, hz0, hz1, hz2⟩ := info_parts byte_info3
    have hI1 := Lib.hid hz1
    have hI2 := Lib.hid hz2
    clear hz hpu hn hB h hle hg hop hz1 hz2
    generalize decide ((getF fs nm ++ ls.flatten).length ≤ 65536) = fits at *
    generalize hgen : (65536 - (getF fs nm).length : Nat) = r at *
    clear hgen
    go_enter Try.func15, Try.ntmps15
    go_wp2_with (first
      | (go_at_call 35; refine (hRm.out).mono ?_; rintro e w0 ⟨rfl, hb0⟩)
      | (go_at_call 32; refine (hFit.out _ hb0).mono ?_; rintro e w0' ⟨rfl, rfl⟩)
      | (go_at_call 31; refine (hR.out _ hb0).mono ?_; rintro e w1 ⟨rfl, hb⟩
         have hbw : Below w.heap.size w w1 := hb0.trans (hb.mono hb0.size))
      | (go_at_call 34; refine (hO.out _ hbw).mono ?_; rintro e w2 ⟨g, c2, k, vs2, rfl, hT2, hp2, hF2⟩
         have hFw := (Fr.of_below hbw).trans hF2
         have hT2 := Lib.hid hT2))
    have hkk : k = spot fs nm := by
      have := posN_spot fs nm (getF fs nm)
      have hp2 : posN (setF fs nm (getF fs nm)) nm = some k := hp2
      rw [hp2] at this
      injection this
    go_loopw [10, 27] (fun _ i wr => RelAdd w F T g c2 fs nm ls n i wr) (fun _ i _ => n - (intOf i).toNat)
    case atStart => exact RelAdd.mk ⟨0, vs2, opF fs nm, by omega, rfl, hT2.out, Lib.hid (by simp [opF]), hFw⟩
    case round =>
      clear hFw hT2 hF2 hbw hb hb0
      obtain ⟨j, vs, fj, hj, rfl, hT, hfj, hFr⟩ := hrel
      by_cases hlt : j < n
      · have hlj : j < ls.length := by have := hH.out; omega
        obtain ⟨ad, A2, n2, cp2, hA, hbk2, hd, hn2, hc2, hm2, hB2⟩ := (hBB.out.fr hFr).at_ hlj
        subst hA
        have hft : (ls.take (j + 1)).flatten = (ls.take j).flatten ++ ls[j]'hlj := by
          rw [List.take_succ_eq_append_getElem hlj, List.flatten_append]; simp
        have hp1 := hpre.out (j + 1)
        rw [hft, List.length_append] at hp1
        obtain ⟨hk, hfk, hput⟩ := spot_all hfj.out hkk
        obtain ⟨x, hx, hcx, -, hglt, hxo⟩ := hT.fileB hk
        rw [hfk] at hxo
        obtain ⟨A1, c1, rfl, -, hc1, hm1, -⟩ := own_byt hxo.1
        have hxl : (getF fs nm ++ (ls.take j).flatten).length ≤ 65536 := by rw [List.length_append]; exact hpre.out j
        have hq1 : (getF fs nm ++ (ls.take j).flatten).length + n2 ≤ 65536 := by rw [List.length_append]; omega
        have hft' := Lib.hid hft
        have hput' := Lib.hid (hput)
        have hT' := Lib.hid hT
        have hx' := Lib.hid hx
        have hn2' := Lib.hid hn2
        have hk' := Lib.hid hk
        clear hkk hp1 hft hput hfk hT hx hn2
        have hft := hft'
        have hput := hput'
        have hT := hT'
        have hx := hx'
        have hn2 := hn2'
        generalize hM : (getF fs nm ++ (ls.take j).flatten) = m at *
        have hM := Lib.hid hM
        go_wp2_with (first
          | (at_builtin; refine wpList_append_at rfl _ _ 35 rfl 0 5 i0 (.int .u8 0) 1 1 Try.underlying35 hi hz0 hI1.out hI2.out rfl (by decide) (.slice A1 m.length c1) m.length (bv m) rfl hxo.1 A2 n2 cp2 (bv (ls[j]'hlj)) rfl (by rw [bv_length, Nat.mul_one]; exact hn2.out.symm) hB2.byt.vals.src (bvs_one _) (by unfold maxLen; omega) (by omega) (Nat.zero_le _) ?_; intro v4 w4 hown4 hg4 hb4
             obtain ⟨A4, c4, rfl, -, -, -, -⟩ := own_vals hown4
             obtain ⟨hc4, hf4, hg4lt⟩ := hT.out.fileG hk'.out hx.out hg4))
        go_roundw
        case rel =>
          have hu : OwnF w4 F (.slice A4 (m.length + n2) c4) (m ++ ls[j]'hlj) := by
            refine ⟨?_, fun b e => ?_⟩
            · have e1 : (m ++ ls[j]'hlj).length = m.length + n2 := by rw [List.length_append, hn2.out]
              have e2 : bv (m ++ ls[j]'hlj) = bv m ++ bv (ls[j]'hlj) := by simp [bv]
              rw [e1, e2]; exact hown4
            · rcases hb4 b e with h | h
              · exact hxo.2 b h
              · exact hop2.out _ hFr b h
          have hP := hT.out.put hk'.out hx.out hg4 hu hb4
          have hQ := hT.out.put_fr (u := .slice A4 (m.length + n2) c4) hk'.out hx.out hg4
          refine RelAdd.mk ⟨j + 1, vs.set k (.slice A4 (m.length + n2) c4), fj.set k ((fj[k]'hk'.out).1, m ++ ls[j]'hlj), by omega, by go_num, ?_, Lib.hid ?_, hFr.trans hQ⟩
          · rw [List.length_set]; exact hP
          · rw [hft.out, ← List.append_assoc, hM.out]
            exact hput.out (m ++ ls[j]'hlj)
        case measure => simp [intOf]; omega
      · obtain rfl : j = n := by omega
        have hfj := Lib.hid (show fj = setF fs nm (getF fs nm ++ ls.flatten) by rw [hfj.out, List.take_of_length_le (by have := hH.out; omega)])
        clear hkk
        go_wp2
        go_ret
        refine ⟨rfl, ?_, hFr⟩
        rw [← hfj.out]
        exact ⟨_, _, hT⟩
  · rw [hpu, if_neg he]
    have hne : (e0 == 0) = false := by rw [beq_eq_false_iff_ne]; exact he
    have hh := Lib.hid h
    have hBB := Lib.hid hB
    have hH := Lib.hid hn
    clear hz hpu hO hn hB h he hg
    generalize decide ((getF fs nm ++ ls.flatten).length ≤ 65536) = fits at *
    generalize hgen : (65536 - (getF fs nm).length : Nat) = r at *
    clear hgen
    go_enter Try.func15, Try.ntmps15
    go_wp2_with (first
      | (go_at_call 35; refine (hRm.out).mono ?_; rintro e w0 ⟨rfl, hb0⟩)
      | (go_at_call 32; refine (hFit.out _ hb0).mono ?_; rintro e w0' ⟨rfl, rfl⟩)
      | (go_at_call 31; refine (hR.out _ hb0).mono ?_; rintro e w1 ⟨rfl, hb⟩
         have hbw : Below w.heap.size w w1 := hb0.trans (hb.mono hb0.size)))
    go_ret
    exact ⟨rfl, hh.out.below hbw, Fr.of_below hbw⟩
end Go.Proofs.Ytkdhfjnfdcopdaa
