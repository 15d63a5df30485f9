/- Contract: the reference's Parse, where it is fine. -/
import Derived.Test.YtkfdehkembcaoaaSwpN0
import Derived.Test.YtkfdehkembcaoaaSwpJ
import Derived.Deep.CutRange
import Derived.Deep.CutBlock
set_option linter.unusedVariables false
set_option linter.unusedSimpArgs false
set_option maxRecDepth 100000
namespace Go.Proofs.Ytkfdehkembcaoaa
open Go.RowKit

/-- Behind the first if: what the byte is by itself. -/
def oneP (c : UInt8) : Prt := if c.toNat = 38 then ⟨1, 0, []⟩ else ⟨0, 0, [c]⟩
theorem fst_one {g : Int} {c : UInt8} {r : List UInt8} {p : Prt} {m : Nat} (h92 : c.toNat ≠ 92) (h : fstP g (c :: r) = .ok p m) : p = oneP c ∧ m = 1 := by
  unfold fstP at h
  simp only at h
  unfold oneP
  split at h
  · rename_i h1; cases h; rw [if_pos h1]; exact ⟨rfl, rfl⟩
  · rename_i h1; cases h; rw [if_neg h1]; exact ⟨rfl, rfl⟩
theorem fst_esc {g : Int} {c : UInt8} {r : List UInt8} {p : Prt} {m : Nat} (h92 : c.toNat = 92) (h : fstP g (c :: r) = .ok p m) : ∃ d r', r = d :: r' ∧ escP d g = some p ∧ m = 2 := by
  cases r with
  | nil =>
    unfold fstP at h
    simp only at h
    rw [if_neg (by omega), if_neg (by omega)] at h
    cases h
  | cons d r' =>
    unfold fstP at h
    simp only at h
    rw [if_neg (by omega), if_neg (by omega)] at h
    cases he : escP d g with
    | none => rw [he] at h; cases h
    | some q => rw [he] at h; cases h; exact ⟨d, r', rfl, he, rfl⟩
theorem escP9 {d : UInt8} {p : Prt} (h : escP d 9 = some p) : (49 ≤ d.toNat ∧ d.toNat ≤ 57 ∧ p = ⟨1, (d.toNat : Int) - 48, []⟩) ∨ (d.toNat = 110 ∧ p = ⟨0, 0, [10]⟩) ∨ (¬ (49 ≤ d.toNat ∧ d.toNat ≤ 57) ∧ d.toNat ≠ 110 ∧ p = ⟨0, 0, [d]⟩) := by
  unfold escP at h
  split at h
  · cases h
  split at h
  · rename_i h1; cases h; exact .inl ⟨h1.1, h1.2, rfl⟩
  split at h
  · rename_i h1; cases h; exact .inr (.inl ⟨h1, rfl⟩)
  · rename_i h1 h2; cases h; exact .inr (.inr ⟨h1, h2, rfl⟩)
theorem rCopyS_own {w : World} {base : Nat} {v : Value} {l : List UInt8} (h : OwnB w base v l) (hl : l.length ≤ 1000000000) :
    Calls Try.prog 25 #[v] w fun e w' => (∃ v, e = .returned v ∧ OwnB w' w.heap.size v l) ∧ Below w.heap.size w w' := by
  obtain ⟨A, n, c, rfl, hn, hnc, hm, hb⟩ := h.byt
  exact rCopyS_any hn hnc hm (by omega) hb (Nat.le_refl _)
def Cut1 (wr : World) (base X : Nat) (p : Prt) (wx : World) : Prop := BoxAt wx base X p ∧ Below wr.heap.size wr wx
def Cut2 (wr : World) (base X : Nat) (p : Prt) (i : Nat) (s8 : Value) (wx : World) : Prop := s8 = .int .i64 (i : Nat) ∧ BoxAt wx base X p ∧ Below wr.heap.size wr wx
set_option maxHeartbeats 16000000 in
theorem rParse_any (A : Option Addr) (n c : Nat) (b : List UInt8) (B : Nat) (L : List Prt) (w : World) (hn : n = b.length) (hnc : n ≤ c) (hm : c ≤ maxLen) (hB : B ≤ w.heap.size) (h : Byt w B A b) (hl : n ≤ 900000) (hfine : prsP 9 b = .fine L) :
    Calls Try.prog 12 #[.slice A n c, .int .i64 9] w fun e w' => (∃ v, e = .returned (.tuple #[v, .int .i64 0, .int .i64 0]) ∧ OutAt w' w.heap.size v L) ∧ Below w.heap.size w w' := by
  have hnh := Lib.hid hn
  have hh := Lib.hid h
  have hmh := Lib.hid hm
  have hBh := Lib.hid hB
  have hfh := Lib.hid hfine
  unfold maxLen at hm
  clear h hn hB hfine
  go_enter Try.func12, Try.ntmps12
  go_wp2
  go_loopw [7, 8] (fun v i wr => ∃ (k : Nat) (l : List Prt) (v0 : Value), v0 = v ∧ i = .int .i64 (k : Nat) ∧ PrsAt 9 b k l ∧ OutAt wr w.heap.size v l ∧ Grp0 l ∧ Below w.heap.size w wr) (fun _ i _ => n - (intOf i).toNat)
  case atStart => exact ⟨0, [], _, rfl, rfl, PrsAt.start 9 b, OutAt.nil _ _, (fun _ h => (by cases h)), Below.refl _ _⟩
  case round =>
    obtain ⟨k, l, v, rfl, rfl, hps, hO, hG, hbr⟩ := hrel
    have hkn : k ≤ n := by rw [hnh.out]; exact hps.1
    have hln := Lib.hid (show l.length ≤ k ∧ prtB l ≤ k from ⟨hps.2.1, hps.2.2.1⟩)
    have hpsh := Lib.hid hps
    have hOh := Lib.hid hO
    have hGh := Lib.hid hG
    have hbrh := Lib.hid hbr
    obtain ⟨A2, c2, rfl, -⟩ := hO.prts
    clear hps hO hbr hG
    by_cases hlt : k < n
    · have hkb : k < b.length := by rw [← hnh.out]; exact hlt
      have hdrop := Lib.hid (show b.drop k = b[k] :: b.drop (k + 1) from List.drop_eq_getElem_cons hkb)
      obtain ⟨ad, rfl, had, hcell⟩ := hh.out.at_ (k := k) hkb
      have hcl := Lib.hid (fun (wx : World) (hb : Below w.heap.size w wx) => show wx.cell? (ad.add k) = some (.int .u8 ((b[k]'hkb).toNat : Int)) from by
        obtain ⟨a', e, -, hc⟩ := (hh.out.below (hb.mono hBh.out)).at_ (k := k) hkb
        cases e; exact hc)
      clear had hcell
      have hkI : (k : Int) < (n : Int) := by omega
      cases hf : fstP 9 (b.drop k) with
      | bad er => exact absurd (hpsh.out.bad hkb hf) (by rw [hfh.out]; intro e; cases e)
      | ok p m =>
        have hm1 := Lib.hid (fstP_pos hf)
        have hgp := Lib.hid (fstP_grp hf)
        have hnx := Lib.hid (hpsh.out.next hkb hf)
        have hfp := Lib.hid hf
        clear hf
        obtain ⟨z, hz⟩ : ∃ z : Int, ((b[k]'hkb).toNat : Int) = z := ⟨_, rfl⟩
        have hz0 : 0 ≤ z := by omega
        have hz1 : z ≤ 255 := by have := UInt8.toNat_lt (b[k]'hkb); omega
        have ho0 := Lib.hid (show OwnB ((wr.alloc (.cells #[.int .u8 z] 5)).alloc (.cells #[.int .i64 0, .int .i64 0, .slice (some ⟨wr.heap.size, 0, none⟩) 1 1] 45)) w.heap.size (.slice (some ⟨wr.heap.size, 0, none⟩) 1 1) [b[k]'hkb] from by
          have h := World.ownsRow_lit (base := w.heap.size) (e := 5) (size := 1) wr #[.int .u8 ((b[k]'hkb).toNat : Int)] 1 hbrh.out.size (by simp [maxLen]) rfl
          rw [← hz]
          exact own_below h ((Below.refl _ _).alloc (Nat.le_refl _) _))
        rw [hz] at hcl
        have cr := hcl.out wr hbrh.out
        have hb2 := Lib.hid (((Below.refl wr.heap.size wr).alloc (Nat.le_refl _) (.cells #[.int .u8 z] 5)).alloc (by simp) (.cells #[.int .i64 0, .int .i64 0, .slice (some ⟨wr.heap.size, 0, none⟩) 1 1] 45))
        have hP := Lib.hid (show Held ((wr.alloc (.cells #[.int .u8 z] 5)).alloc (.cells #[.int .i64 0, .int .i64 0, .slice (some ⟨wr.heap.size, 0, none⟩) 1 1] 45)) (wr.heap.size + 1) 45 #[.int .i64 0, .int .i64 0, .slice (some ⟨wr.heap.size, 0, none⟩) 1 1] from by
          have h := held_new (wr.alloc (.cells #[.int .u8 z] 5)) 45 #[.int .i64 0, .int .i64 0, .slice (some ⟨wr.heap.size, 0, none⟩) 1 1]
          rwa [show (wr.alloc (.cells #[.int .u8 z] 5)).heap.size = wr.heap.size + 1 by simp] at h)
        have hX := Lib.hid (show wr.heap.size ≤ wr.heap.size + 1 from Nat.le_succ _)
        replace hz := Lib.hid hz
        go_upto_region 6 with fail
        generalize (wr.alloc (.cells #[.int .u8 z] 5)).alloc (.cells #[.int .i64 0, .int .i64 0, .slice (some ⟨wr.heap.size, 0, none⟩) 1 1] 45) = w2 at *
        generalize wr.heap.size + 1 = X at *
        clear cr
        have cr := hcl.out w2 (hbrh.out.trans (hb2.out.mono hbrh.out.size))
        have x0 : w2.cell? ⟨X, 0, none⟩ = some (.int .i64 0) := hP.out.at_ rfl
        have x1 : w2.cell? ⟨X, 1, none⟩ = some (.int .i64 0) := hP.out.at_ rfl
        have x2 : w2.cell? ⟨X, 2, none⟩ = some (.slice (some ⟨wr.heap.size, 0, none⟩) 1 1) := hP.out.at_ rfl
        have f0 : w2.frozen? ⟨X, 0, none⟩ = false := hP.out.thawed 0
        have f1 : w2.frozen? ⟨X, 1, none⟩ = false := hP.out.thawed 1
        have f2 : w2.frozen? ⟨X, 2, none⟩ = false := hP.out.thawed 2
        go_upto_if 27 with fail
        go_cut [] from 11 to 114 (fun wx => Cut1 wr w.heap.size X (oneP (b[k]'hkb)) wx)
        case first =>
          by_cases h38 : z = 38
          · have e38 : (z == 38) = true := by rw [beq_iff_eq]; exact h38
            have hone := Lib.hid (show oneP (b[k]'hkb) = ⟨1, 0, []⟩ from if_pos (by have := hz.out; omega))
            have hfin := Lib.hid (show Cut1 wr w.heap.size X ⟨1, 0, []⟩ (((w2.setCell ⟨X, 0, none⟩ (.int .i64 1)).setCell ⟨X, 1, none⟩ (.int .i64 0)).setCell ⟨X, 2, none⟩ (.slice none 0 0)) from ⟨⟨none, 0, 0, ((hP.out.put 0 _).put 1 _).put 2 _, OwnB.nil _ _⟩, ((hb2.out.setCell (p := ⟨X, _, none⟩) hX.out _).setCell (p := ⟨X, _, none⟩) hX.out _).setCell (p := ⟨X, _, none⟩) hX.out _⟩)
            replace h38 := Lib.hid h38
            go_wp2
            go_meet
            rw [hone.out]
            exact hfin.out
          · have e38 : (z == 38) = false := by rw [beq_eq_false_iff_ne]; exact h38
            have hone := Lib.hid (show oneP (b[k]'hkb) = ⟨0, 0, [b[k]'hkb]⟩ from if_neg (by have := hz.out; omega))
            have hfin := Lib.hid (show Cut1 wr w.heap.size X ⟨0, 0, [b[k]'hkb]⟩ w2 from ⟨⟨_, 1, 1, hP.out, ho0.out⟩, hb2.out⟩)
            replace h38 := Lib.hid h38
            go_wp2
            go_meet
            rw [hone.out]
            exact hfin.out
        case rest =>
          clear cr x0 x1 x2 f0 f1 f2 hP ho0
          obtain ⟨hBx, hbx⟩ := hcut
          have hBxh := Lib.hid hBx
          have hbxh := Lib.hid hbx
          obtain ⟨A1, n1, c1, hP1, ho1⟩ := hBx
          have hP1h := Lib.hid hP1
          have ho1h := Lib.hid ho1
          clear hbx hP1 ho1
          have cr := hcl.out wc (hbrh.out.trans (hbxh.out.mono hbrh.out.size))
          go_upto_if 33 with fail
          go_cut [8] from 11 to 114 (fun s8 wx => Cut2 wr w.heap.size X p (k + m - 1) s8 wx)
          case first =>
            by_cases h92 : z = 92
            · have e92 : (z == 92) = true := by rw [beq_iff_eq]; exact h92
              obtain ⟨d, r', hr, hesc, hm2⟩ := fst_esc (g := 9) (c := b[k]'hkb) (r := b.drop (k + 1)) (by have := hz.out; omega) (by rw [← hdrop.out]; exact hfp.out)
              have hkb2 : k + 1 < b.length := by
                have := congrArg List.length hr
                rw [List.length_drop, List.length_cons] at this
                omega
              have hd : b[k + 1]'hkb2 = d := by
                have := List.drop_eq_getElem_cons hkb2
                rw [hr] at this
                injection this with h1 _
                exact h1.symm
              have hcl2 := Lib.hid (fun (wx : World) (hb : Below w.heap.size w wx) => show wx.cell? (ad.add (k + 1)) = some (.int .u8 (d.toNat : Int)) from by
                obtain ⟨a', e, -, hc⟩ := (hh.out.below (hb.mono hBh.out)).at_ (k := k + 1) hkb2
                cases e; rw [← hd]; exact hc)
              obtain ⟨k2, hk2e⟩ : ∃ k2, k + 1 = k2 := ⟨_, rfl⟩
              rw [hk2e] at hcl2
              have hk2 : k2 < n := by rw [hnh.out]; omega
              have hk2I : (k2 : Int) < (n : Int) := by omega
              have hk2N : ¬ n ≤ k2 := by omega
              have hwn : IntKind.i64.wrap ((n : Int) - 1) = (n : Int) - 1 := IntWalk.i64_in _ (by omega)
              have ekn : ((k : Int) == (n : Int) - 1) = false := by rw [beq_eq_false_iff_ne]; omega
              have hw2 : IntKind.i64.wrap ((k : Int) + 1) = (k2 : Int) := by rw [show (k : Int) + 1 = (k2 : Int) by omega]; exact IntWalk.i64_in _ (by omega)
              have hmm : k + m - 1 = k2 := by omega
              have hes := Lib.hid (escP9 hesc)
              obtain ⟨y, hy⟩ : ∃ y : Int, ((d.toNat : Nat) : Int) = y := ⟨_, rfl⟩
              have hy0 : 0 ≤ y := by omega
              have hy1 : y ≤ 255 := by have := UInt8.toNat_lt d; omega
              have hlit := Lib.hid (fun (wx : World) (u : UInt8) (hb : Below wr.heap.size wr wx) (hBx : ∀ (P : Nat) cs, Held wx P 45 cs → True) => World.ownsRow_lit (base := w.heap.size) (e := 5) (size := 1) wx #[.int .u8 (u.toNat : Int)] 1 (Nat.le_trans hbrh.out.size hb.size) (by simp [maxLen]) rfl)
              have hst := Lib.hid (fun (wx : World) (u : UInt8) (A' : Option Addr) (n' c' : Nat) (p0 p1 : Int) (hb : Below wr.heap.size wr wx) (hP : Held wx X 45 #[.int .i64 p0, .int .i64 p1, .slice A' n' c']) =>
                show Below wr.heap.size wr ((wx.alloc (.cells #[.int .u8 (u.toNat : Int)] 5)).setCell ⟨X, 2, none⟩ (.slice (some ⟨wx.heap.size, 0, none⟩) 1 1)) ∧ Held ((wx.alloc (.cells #[.int .u8 (u.toNat : Int)] 5)).setCell ⟨X, 2, none⟩ (.slice (some ⟨wx.heap.size, 0, none⟩) 1 1)) X 45 #[.int .i64 p0, .int .i64 p1, .slice (some ⟨wx.heap.size, 0, none⟩) 1 1] ∧ OwnB ((wx.alloc (.cells #[.int .u8 (u.toNat : Int)] 5)).setCell ⟨X, 2, none⟩ (.slice (some ⟨wx.heap.size, 0, none⟩) 1 1)) w.heap.size (.slice (some ⟨wx.heap.size, 0, none⟩) 1 1) [u] from
                ⟨(hb.alloc hb.size _).setCell (p := ⟨X, _, none⟩) hX.out _, (hP.alloc _).put 2 _, sw_far (hP.alloc _) (by decide) (World.ownsRow_lit (base := w.heap.size) (e := 5) (size := 1) wx #[.int .u8 (u.toNat : Int)] 1 (Nat.le_trans hbrh.out.size hb.size) (by simp [maxLen]) rfl) _ _⟩)
              have h3 := hst.out wc d A1 n1 c1 _ _ hbxh.out hP1h.out
              have h10 := Lib.hid (fun wx A' n' c' p0 p1 hb hP => hst.out wx 10 A' n' c' p0 p1 hb hP)
              rw [show (((10 : UInt8).toNat : Nat) : Int) = 10 from rfl] at h10
              rw [hy] at hcl2 h3
              obtain ⟨h3a, h3b, h3c⟩ := h3
              have h3ah := Lib.hid h3a
              have h3bh := Lib.hid h3b
              have h3ch := Lib.hid h3c
              clear h3a h3b h3c
              have cr2 := hcl2.out wc (hbrh.out.trans (hbxh.out.mono hbrh.out.size))
              have hPa := hP1h.out.alloc (.cells #[.int .u8 y] 5)
              have x2 : (wc.alloc (.cells #[.int .u8 y] 5)).cell? ⟨X, 2, none⟩ = some (.slice A1 n1 c1) := hPa.at_ rfl
              have f2 : (wc.alloc (.cells #[.int .u8 y] 5)).frozen? ⟨X, 2, none⟩ = false := hPa.thawed 2
              clear hPa
              replace hy := Lib.hid hy
              replace hd := Lib.hid hd
              replace hr := Lib.hid hr
              replace hm2 := Lib.hid hm2
              replace hmm := Lib.hid hmm
              replace hk2e := Lib.hid hk2e
              replace hesc := Lib.hid hesc
              replace h92 := Lib.hid h92
              generalize hp00 : (oneP (b[k]'hkb)).kind = p00 at *
              generalize hp01 : (oneP (b[k]'hkb)).grp = p01 at *
              replace hp00 := Lib.hid hp00
              replace hp01 := Lib.hid hp01
              go_upto_region 13 with fail
              generalize hY3 : wc.heap.size = Y3 at *
              generalize (wc.alloc (.cells #[.int .u8 y] 5)).setCell ⟨X, 2, none⟩ (.slice (some ⟨Y3, 0, none⟩) 1 1) = w3 at *
              clear cr cr2 x2 f2
              replace hY3 := Lib.hid hY3
              have cr2 := hcl2.out w3 (hbrh.out.trans (h3ah.out.mono hbrh.out.size))
              by_cases h110 : y = 110
              · have e110 : (y == 110) = true := by rw [beq_iff_eq]; exact h110
                have h4 := h10.out w3 _ _ _ _ _ h3ah.out h3bh.out
                obtain ⟨h4a, h4b, h4c⟩ := h4
                have h4ah := Lib.hid h4a
                have h4bh := Lib.hid h4b
                have h4ch := Lib.hid h4c
                clear h4a h4b h4c
                have hPa := h3bh.out.alloc (.cells #[.int .u8 10] 5)
                have x2 : (w3.alloc (.cells #[.int .u8 10] 5)).cell? ⟨X, 2, none⟩ = some (.slice (some ⟨Y3, 0, none⟩) 1 1) := hPa.at_ rfl
                have f2 : (w3.alloc (.cells #[.int .u8 10] 5)).frozen? ⟨X, 2, none⟩ = false := hPa.thawed 2
                clear hPa
                replace h110 := Lib.hid h110
                go_upto_region 15 with fail
                generalize hY4 : w3.heap.size = Y4 at *
                generalize (w3.alloc (.cells #[.int .u8 10] 5)).setCell ⟨X, 2, none⟩ (.slice (some ⟨Y4, 0, none⟩) 1 1) = w4 at *
                clear cr2 x2 f2
                replace hY4 := Lib.hid hY4
                have cr2 := hcl2.out w4 (hbrh.out.trans (h4ah.out.mono hbrh.out.size))
                have e49 : decide (49 ≤ y) = true := decide_eq_true (by have := h110.out; omega)
                have e57 : decide (y ≤ 57) = false := decide_eq_false (by have := h110.out; omega)
                have hfin := Lib.hid (show Cut2 wr w.heap.size X p (k + m - 1) (.int .i64 (k2 : Nat)) w4 from by
                  rcases hes.out with ⟨q1, q2, q3⟩ | ⟨q1, q3⟩ | ⟨q1, q2, q3⟩
                  · have := h110.out; have := hy.out; omega
                  · rw [hmm.out]
                    refine ⟨rfl, ?_, h4ah.out⟩
                    rw [q3]
                    have z1 : p00 = 0 ∧ p01 = 0 := by
                      have := hz.out; have := h92.out
                      rw [← hp00.out, ← hp01.out]
                      unfold oneP
                      rw [if_neg (by omega)]
                      exact ⟨rfl, rfl⟩
                    have := h4bh.out
                    rw [z1.1, z1.2] at this
                    exact ⟨_, _, _, this, h4ch.out⟩
                  · have := h110.out; have := hy.out; omega)
                go_wp2
                go_meet
                exact hfin.out
              · have e110 : (y == 110) = false := by rw [beq_eq_false_iff_ne]; exact h110
                replace h110 := Lib.hid h110
                by_cases hgr : 49 ≤ y ∧ y ≤ 57
                · have e49 : decide (49 ≤ y) = true := decide_eq_true hgr.1
                  have e57 : decide (y ≤ 57) = true := decide_eq_true hgr.2
                  obtain ⟨gi, hgi⟩ : ∃ gi, y - 48 = gi := ⟨_, rfl⟩
                  have hwy : IntKind.i64.wrap y = y := IntWalk.i64_in _ (by omega)
                  have hwg : IntKind.i64.wrap (y - 48) = gi := by rw [hgi]; exact IntWalk.i64_in _ (by omega)
                  have hg9 : decide (9 < gi) = false := decide_eq_false (by omega)
                  have x0 : w3.cell? ⟨X, 0, none⟩ = some (.int .i64 p00) := h3bh.out.at_ rfl
                  have x1 : w3.cell? ⟨X, 1, none⟩ = some (.int .i64 p01) := h3bh.out.at_ rfl
                  have x2 : w3.cell? ⟨X, 2, none⟩ = some (.slice (some ⟨Y3, 0, none⟩) 1 1) := h3bh.out.at_ rfl
                  have f0 : w3.frozen? ⟨X, 0, none⟩ = false := h3bh.out.thawed 0
                  have f1 : w3.frozen? ⟨X, 1, none⟩ = false := h3bh.out.thawed 1
                  have f2 : w3.frozen? ⟨X, 2, none⟩ = false := h3bh.out.thawed 2
                  have hfin := Lib.hid (show Cut2 wr w.heap.size X p (k + m - 1) (.int .i64 (k2 : Nat)) (((w3.setCell ⟨X, 0, none⟩ (.int .i64 1)).setCell ⟨X, 1, none⟩ (.int .i64 gi)).setCell ⟨X, 2, none⟩ (.slice none 0 0)) from by
                    rcases hes.out with ⟨q1, q2, q3⟩ | ⟨q1, q3⟩ | ⟨q1, q2, q3⟩
                    · rw [hmm.out]
                      refine ⟨rfl, ?_, ((h3ah.out.setCell (p := ⟨X, _, none⟩) hX.out _).setCell (p := ⟨X, _, none⟩) hX.out _).setCell (p := ⟨X, _, none⟩) hX.out _⟩
                      rw [q3, hy.out, hgi]
                      exact ⟨none, 0, 0, ((h3bh.out.put 0 _).put 1 _).put 2 _, OwnB.nil _ _⟩
                    · exact absurd q1 (by have := hy.out; omega)
                    · exact absurd hgr (by have := hy.out; omega))
                  replace hgr := Lib.hid hgr
                  replace hgi := Lib.hid hgi
                  go_wp2
                  go_meet
                  exact hfin.out
                · have hfin := Lib.hid (show Cut2 wr w.heap.size X p (k + m - 1) (.int .i64 (k2 : Nat)) w3 from by
                    rcases hes.out with ⟨q1, q2, q3⟩ | ⟨q1, q3⟩ | ⟨q1, q2, q3⟩
                    · exact absurd hgr (by have := hy.out; omega)
                    · exact absurd q1 (by have := hy.out; have := h110.out; omega)
                    · rw [hmm.out]
                      refine ⟨rfl, ?_, h3ah.out⟩
                      rw [q3]
                      have z1 : p00 = 0 ∧ p01 = 0 := by
                        have := hz.out; have := h92.out
                        rw [← hp00.out, ← hp01.out]
                        unfold oneP
                        rw [if_neg (by omega)]
                        exact ⟨rfl, rfl⟩
                      have := h3bh.out
                      rw [z1.1, z1.2] at this
                      exact ⟨_, _, _, this, h3ch.out⟩)
                  by_cases h49 : 49 ≤ y
                  · have e49 : decide (49 ≤ y) = true := decide_eq_true h49
                    have e57 : decide (y ≤ 57) = false := decide_eq_false (by omega)
                    replace hgr := Lib.hid hgr
                    go_wp2
                    go_meet
                    exact hfin.out
                  · have e49 : decide (49 ≤ y) = false := decide_eq_false h49
                    replace hgr := Lib.hid hgr
                    go_wp2
                    go_meet
                    exact hfin.out
            · have e92 : (z == 92) = false := by rw [beq_eq_false_iff_ne]; exact h92
              obtain ⟨hp1, hm1'⟩ := fst_one (g := 9) (c := b[k]'hkb) (r := b.drop (k + 1)) (p := p) (m := m) (by have := hz.out; omega) (by rw [← hdrop.out]; exact hfp.out)
              have hfin := Lib.hid (show Cut2 wr w.heap.size X p (k + m - 1) (.int .i64 (k : Nat)) wc from ⟨by rw [hm1', Nat.add_sub_cancel], by rw [hp1]; exact ⟨A1, n1, c1, hP1h.out, ho1h.out⟩, hbxh.out⟩)
              replace hp1 := Lib.hid hp1
              replace hm1' := Lib.hid hm1'
              replace h92 := Lib.hid h92
              go_wp2
              go_meet
              exact hfin.out
          case rest =>
            clear cr hcl hP1h ho1h hBxh hbxh hdrop hz hfp
            obtain ⟨rfl, hBx, hbx⟩ := hcut
            have hbxh := Lib.hid (hbrh.out.trans (hbx.mono hbrh.out.size))
            have hO2 := hOh.out.keep hbx
            obtain ⟨A3, n3, c3, hP3, ho3⟩ := hBx
            have hP3h := Lib.hid hP3
            have ho3h := Lib.hid ho3
            obtain ⟨xs, hxs, hown, hall⟩ := hO2
            have hownh := Lib.hid hown
            have hallh := Lib.hid hall
            have hxl : xs.length = l.length := by rw [← hxs, List.length_map]
            have hlen := Lib.hid (show xs.length ≤ 1000000 from by have := hln.out; omega)
            have hin := hm1.out
            rw [List.length_drop, ← hnh.out] at hin
            have hbase := Lib.hid (show w.heap.size ≤ wc.heap.size from hbxh.out.size)
            obtain ⟨pk, hpk⟩ : ∃ pk, p.kind = pk := ⟨_, rfl⟩
            obtain ⟨pg, hpg⟩ : ∃ pg, p.grp = pg := ⟨_, rfl⟩
            obtain ⟨i8, hi8⟩ : ∃ i8, k + m - 1 = i8 := ⟨_, rfl⟩
            obtain ⟨km, hkm⟩ : ∃ km, k + m = km := ⟨_, rfl⟩
            have hw8 : IntKind.i64.wrap ((i8 : Int) + 1) = (km : Int) := by rw [show (i8 : Int) + 1 = (km : Int) by omega]; exact IntWalk.i64_in _ (by omega)
            have hmes := Lib.hid (show n - km < n - k from by omega)
            rw [hpk, hpg] at hP3h hP3
            rw [hi8]
            have p0 : wc.cell? ⟨X, 0, none⟩ = some (.int .i64 pk) := hP3.at_ rfl
            have p1 : wc.cell? ⟨X, 1, none⟩ = some (.int .i64 pg) := hP3.at_ rfl
            have p2 : wc.cell? ⟨X, 2, none⟩ = some (.slice A3 n3 c3) := hP3.at_ rfl
            have hpushN := Lib.hid (show wc.heap.size ≤ wc.heap.size from Nat.le_refl _)
            have hN := Lib.hid (show Held (wc.alloc (.cells #[.int .i64 pk, .int .i64 pg, .slice A3 n3 c3] 45)) wc.heap.size 45 #[.int .i64 p.kind, .int .i64 p.grp, .slice A3 n3 c3] from by rw [hpk, hpg]; exact held_new wc 45 _)
            have hownN := Lib.hid (own_below hown ((Below.refl wc.heap.size wc).alloc (Nat.le_refl _) (.cells #[.int .i64 pk, .int .i64 pg, .slice A3 n3 c3] 45)))
            have hbN := Lib.hid (hbxh.out.alloc hbxh.out.size (.cells #[.int .i64 pk, .int .i64 pg, .slice A3 n3 c3] 45))
            have hoN := Lib.hid (ho3.keep ((Below.refl wc.heap.size wc).alloc (Nat.le_refl _) (.cells #[.int .i64 pk, .int .i64 pg, .slice A3 n3 c3] 45)))
            have hallN := Lib.hid (fun y hy => (hall y hy).keep ((Below.refl wc.heap.size wc).alloc (Nat.le_refl _) (.cells #[.int .i64 pk, .int .i64 pg, .slice A3 n3 c3] 45)))
            have hmapx := Lib.hid hxs
            clear hbx hP3 ho3 hown hall hin
            by_cases hk0 : pk = 0
            · have ek : (pk == 0) = true := by rw [beq_iff_eq]; exact hk0
              rcases List.eq_nil_or_concat xs with hx0 | ⟨ys, yq, hx1⟩
              · have hj := Lib.hid (show joinP l p = xs.map Prod.fst ++ [p] from by rw [← hxs, hx0]; rfl)
                have hnl : l.length = 0 := by rw [← hxl, hx0]; rfl
                rw [hnl] at hownN hownh ⊢
                replace hxl := Lib.hid hxl
                replace hxs := Lib.hid hxs
                replace hpk := Lib.hid hpk
                replace hpg := Lib.hid hpg
                replace hi8 := Lib.hid hi8
                replace hkm := Lib.hid hkm
                replace hk0 := Lib.hid hk0
                go_wp2_with (at_builtin; refine wpList_push rfl (.tmp 111) (.tmp 113) rfl rfl hownN.out rfl hN.out hlen.out hbN.out.size ?_; intro v' w' h1 h2; obtain ⟨A5, n5, c5, rfl⟩ := sw_slice' h1; have hfin := Lib.hid (OutAt.pushed hbN.out.size hownN.out hallN.out hoN.out h1 h2))
                go_roundw
                case rel => exact ⟨km, joinP l p, _, rfl, rfl, by rw [← hkm.out]; exact hnx.out, by rw [hj.out]; exact hfin.out.1, hGh.out.join hgp.out, hfin.out.2 _ hbN.out⟩
                case measure => have := hmes.out; simp [intOf]; omega
              · rw [List.concat_eq_append] at hx1
                obtain ⟨q, u⟩ := yq
                obtain ⟨G, hA2⟩ : ∃ G, A2 = some ⟨G, 0, none⟩ := by
                  rcases hownh.out.2 with ⟨_, h0⟩ | ⟨g, cap, _, h1, _⟩
                  · rw [hx1, List.length_append] at h0; cases h0
                  · injection h1 with h1; exact ⟨g, h1⟩
                subst hA2
                obtain ⟨Au, nu, cu, hu⟩ := (hallh.out (q, u) (by rw [hx1]; simp)).slice
                have hu : u = .slice Au nu cu := hu
                subst hu
                obtain ⟨m0, hm0⟩ : ∃ m0, ys.length = m0 := ⟨_, rfl⟩
                have hnl : l.length = m0 + 1 := by rw [← hxl, hx1, List.length_append, hm0]; rfl
                obtain ⟨nl, hnl2⟩ : ∃ nl, l.length = nl := ⟨_, rfl⟩
                have hlm : l = ys.map Prod.fst ++ [q] := by rw [← hxs, hx1]; simp
                rw [hx1] at hownh hallh
                have hlx : l.length = (ys ++ [(q, Value.slice Au nu cu)]).length := by rw [← hxl, hx1]
                have hgs := Lib.hid (fun (wX : World) (ho : wX.ownsRow w.heap.size 45 3 (.slice (some ⟨G, 0, none⟩) l.length c2) (ys ++ [(q, Value.slice Au nu cu)]).length (prtsL (ys ++ [(q, Value.slice Au nu cu)]))) => show (wX.cell? ⟨G, m0 * 3, none⟩ = some (.int .i64 q.kind) ∧ wX.cell? ⟨G, m0 * 3 + 1, none⟩ = some (.int .i64 q.grp) ∧ wX.cell? ⟨G, m0 * 3 + 2, none⟩ = some (.slice Au nu cu)) ∧ ∀ j, wX.frozen? ⟨G, j, none⟩ = false from by
                  rw [hlx] at ho
                  have hc : ∀ j, j < 3 → wX.cell? ⟨G, ys.length * 3 + j, none⟩ = (prtL ((ys ++ [(q, Value.slice Au nu cu)])[ys.length]'(by simp)))[j]? := fun j hj => by
                    rw [ho.cellAt (ys.length * 3 + j) (by rw [List.length_append]; show _ < (ys.length + 1) * 3; omega), prtsL_at _ _ (by simp) j hj]
                  have eg : (ys ++ [(q, Value.slice Au nu cu)])[ys.length]'(by simp) = (q, Value.slice Au nu cu) := by simp
                  rw [eg, hm0] at hc
                  exact ⟨⟨hc 0 (by omega), hc 1 (by omega), hc 2 (by omega)⟩, fun j => ho.frozenAt _⟩)
                obtain ⟨⟨g0, g1, g2⟩, gf⟩ := hgs.out wc hownh.out
                have hmn : m0 < nl := by omega
                have hmn' : (m0 : Int) < (nl : Int) := by omega
                have hmn'' : ¬ nl ≤ m0 := by omega
                have hwl : IntKind.i64.wrap ((nl : Int) - 1) = (m0 : Int) := by rw [show (nl : Int) - 1 = (m0 : Int) by omega]; exact IntWalk.i64_in _ (by have := hln.out; omega)
                have hge : decide ((0 : Int) ≤ (m0 : Int)) = true := decide_eq_true (by omega)
                have hm00 : (0 : Int) ≤ (m0 : Int) := by omega
                rw [hnl2] at hownN hownh hgs hlx ⊢
                replace hlx := Lib.hid hlx
                clear gf
                by_cases hq0 : q.kind = 0
                · have eq0 : (q.kind == 0) = true := by rw [beq_iff_eq]; exact hq0
                  have hqg : q.grp = 0 := hGh.out q (by rw [hlm]; simp) hq0
                  have hj := Lib.hid (show joinP l p = ys.map Prod.fst ++ [⟨0, 0, q.b ++ p.b⟩] from by rw [hlm, joinP_one (by rw [hpk]; exact hk0) hq0, hq0, hqg])
                  have hbl := Lib.hid (show q.b.length + p.b.length ≤ 1000000000 from by
                    have h1 := prtB_mem (l := l) (p := q) (by rw [hlm]; simp)
                    have h2 := hln.out
                    have h3 := hm1.out
                    omega)
                  replace hxl := Lib.hid hxl
                  replace hxs := Lib.hid hxs
                  replace hx1 := Lib.hid hx1
                  replace hpk := Lib.hid hpk
                  replace hpg := Lib.hid hpg
                  replace hi8 := Lib.hid hi8
                  replace hkm := Lib.hid hkm
                  replace hk0 := Lib.hid hk0
                  replace hq0 := Lib.hid hq0
                  replace hqg := Lib.hid hqg
                  replace hm0 := Lib.hid hm0
                  replace hnl := Lib.hid hnl
                  replace hnl2 := Lib.hid hnl2
                  replace hlm := Lib.hid hlm
                  go_upto_region 21 with fail
                  have hbD := Lib.hid (show Below w.heap.size w wc.drew from below_drewN hbxh.out 1)
                  have hkD := Lib.hid (show Below wc.heap.size wc wc.drew from below_drewN (Below.refl _ _) 1)
                  have hP4 := Lib.hid (show Held wc.drew X 45 #[.int .i64 pk, .int .i64 pg, .slice A3 n3 c3] from hP3h.out.drew)
                  have hSd : wc.drew.cell? ⟨X, 2, none⟩ = some (.slice A3 n3 c3) := hP4.out.at_ rfl
                  have hod := Lib.hid (own_below hownh.out hkD.out)
                  have had := Lib.hid (fun y hy => (hallh.out y hy).keep hkD.out)
                  have hpd := Lib.hid (ho3h.out.keep hkD.out)
                  have hGX := Lib.hid (show G ≠ X from by
                    obtain ⟨xo, -, hoo, -⟩ := hOh.out
                    have := (World.ownsRow.lt hoo G rfl).2
                    have := hX.out
                    omega)
                  obtain ⟨⟨d0, d1, d2⟩, df⟩ := hgs.out _ hod.out
                  clear p0 p1 p2 g0 g1 g2 df
                  go_wp2
                  refine wp_region_held_drew (S := fun w' => w'.cell? ⟨X, 2, none⟩ = some (.slice A3 n3 c3)) (by kernel_rfl) hSd (fun hS => ?_)
                  generalize wc.drew = wd at *
                  refine wpAnyH_take (i := 0) (v := ?_) rfl (by kernel_rfl) (by kernel_rfl) (by kernel_rfl) (fun _ _ _ h => h) (Or.inl ⟨by rfl, ?_⟩) hS ?_
                  rotate_left
                  · (intro w' hS'; go_simp; try with_reducible rfl)
                  (try simp only [Act.put, List.getElem_toArray, List.getElem_cons_zero, List.getElem_cons_succ, List.setIfInBounds_toArray, List.set_cons_zero, List.set_cons_succ])
                  refine wpAnyH_take (i := 1) (v := ?_) rfl (by kernel_rfl) (by kernel_rfl) (by kernel_rfl) (fun _ _ _ h => h) (Or.inl ⟨by rfl, ?_⟩) hS ?_
                  rotate_left
                  · (intro w' hS'; go_simp; try with_reducible rfl)
                  (try simp only [Act.put, List.getElem_toArray, List.getElem_cons_zero, List.getElem_cons_succ, List.setIfInBounds_toArray, List.set_cons_zero, List.set_cons_succ])
                  refine wpAnyH_take (i := 2) (v := ?_) rfl (by kernel_rfl) (by kernel_rfl) (by kernel_rfl) (fun _ _ _ h => h) (Or.inl ⟨by rfl, ?_⟩) hS ?_
                  rotate_left
                  · (intro w' hS'; go_simp; try with_reducible rfl)
                  (try simp only [Act.put, List.getElem_toArray, List.getElem_cons_zero, List.getElem_cons_succ, List.setIfInBounds_toArray, List.set_cons_zero, List.set_cons_succ])
                  refine wpAnyH_take (i := 3) (v := ?_) rfl (by kernel_rfl) (by kernel_rfl) (by kernel_rfl) (fun _ _ _ h => h) (Or.inl ⟨by rfl, ?_⟩) hS ?_
                  rotate_left
                  · (intro w' hS'; go_simp; try with_reducible rfl)
                  (try simp only [Act.put, List.getElem_toArray, List.getElem_cons_zero, List.getElem_cons_succ, List.setIfInBounds_toArray, List.set_cons_zero, List.set_cons_succ])
                  refine wpAnyH_take (i := 4) (v := ?_) rfl (by kernel_rfl) (by kernel_rfl) (by kernel_rfl) (fun _ _ _ h => h) (Or.inl ⟨by rfl, ?_⟩) hS ?_
                  rotate_left
                  · (intro w' hS'; go_simp; try with_reducible rfl)
                  (try simp only [Act.put, List.getElem_toArray, List.getElem_cons_zero, List.getElem_cons_succ, List.setIfInBounds_toArray, List.set_cons_zero, List.set_cons_succ])
                  refine wpAnyH_take (i := 5) (v := ?_) rfl (by kernel_rfl) (by kernel_rfl) (by kernel_rfl) (fun _ _ _ h => h) (Or.inl ⟨by rfl, ?_⟩) hS ?_
                  rotate_left
                  · (intro w' hS'; go_simp; try with_reducible rfl)
                  (try simp only [Act.put, List.getElem_toArray, List.getElem_cons_zero, List.getElem_cons_succ, List.setIfInBounds_toArray, List.set_cons_zero, List.set_cons_succ])
                  refine wpAnyH_take (i := 8) (v := ?_) rfl (by kernel_rfl) (by kernel_rfl) (by kernel_rfl) (fun _ _ _ h => h) (Or.inl ⟨by rfl, ?_⟩) hS ?_
                  rotate_left
                  · (intro w' hS'; go_simp; try with_reducible rfl)
                  (try simp only [Act.put, List.getElem_toArray, List.getElem_cons_zero, List.getElem_cons_succ, List.setIfInBounds_toArray, List.set_cons_zero, List.set_cons_succ])
                  refine wpAnyH_take (i := 9) (v := ?_) rfl (by kernel_rfl) (by kernel_rfl) (by kernel_rfl) (fun _ _ _ h => h) (Or.inl ⟨by rfl, ?_⟩) hS ?_
                  rotate_left
                  · (intro w' hS'; have ha := hS'; go_simp; try with_reducible rfl)
                  (try simp only [Act.put, List.getElem_toArray, List.getElem_cons_zero, List.getElem_cons_succ, List.setIfInBounds_toArray, List.set_cons_zero, List.set_cons_succ])
                  refine wpAnyH_ready (rs := [6]) (by kernel_rfl) (by simp) ?_
                  refine AllReadyH.cons rfl (fun K hK => ?_) AllReadyH.nil
                  go_simp
                  refine hK.out _ _ hS (fun _ => ?_)
                  clear hK K
                  (try simp only [Act.put, List.getElem_toArray, List.getElem_cons_zero, List.getElem_cons_succ, List.setIfInBounds_toArray, List.set_cons_zero, List.set_cons_succ])
                  have hqD := Lib.hid (show OwnB wd w.heap.size (.slice Au nu cu) q.b from had.out (q, Value.slice Au nu cu) (by simp))
                  have hCp := Lib.hid (rCopyS_own hqD.out (by have := hbl.out; omega))
                  refine wpAnyH_ready (rs := [7]) (by kernel_rfl) (by simp) ?_
                  refine AllReadyH.cons rfl (fun K hK => ?_) AllReadyH.nil
                  go_simp
                  go_at_call 25
                  refine (hCp.out).mono ?_
                  rintro e w4 ⟨⟨v4, rfl, ho4⟩, hb4⟩
                  have hX4 := Lib.hid (hP4.out.keep hb4)
                  have ho4h := Lib.hid ho4
                  have hod4 := Lib.hid (own_below hod.out hb4)
                  have had4 := Lib.hid (fun y hy => (had.out y hy).keep hb4)
                  have hadl := Lib.hid (fun y hy k hk => (World.ownsRow.lt (had.out y hy) k hk).2)
                  have hpd4 := Lib.hid (hpd.out.keep hb4)
                  have hb4h := Lib.hid (hbD.out.trans (hb4.mono hbD.out.size))
                  have hwd4 := Lib.hid hb4.size
                  have hwD := Lib.hid hbD.out.size
                  obtain ⟨A4, n4, c4, rfl⟩ := ho4.slice
                  clear ho4 hb4
                  have hS4 : w4.cell? ⟨X, 2, none⟩ = some (.slice A3 n3 c3) := hX4.out.at_ rfl
                  go_simp
                  refine hK.out _ _ hS4 (fun _ => ?_)
                  clear hK K
                  replace hS := hS4
                  (try simp only [Act.put, List.getElem_toArray, List.getElem_cons_zero, List.getElem_cons_succ, List.setIfInBounds_toArray, List.set_cons_zero, List.set_cons_succ])
                  refine wpAnyH_ready (rs := [10]) (by kernel_rfl) (by simp) ?_
                  refine AllReadyH.cons rfl (fun K hK => ?_) AllReadyH.nil
                  rw [if_pos (by rfl)]
                  refine wp_app (.tmp 105) (.tmp 107) rfl rfl ho4h.out rfl hpd4.out.byt hbl.out hwd4.out ?_
                  intro u' w5 hu5 hA5
                  obtain ⟨A5, n5, c5, rfl⟩ := hu5.slice
                  have hod5 := Lib.hid (World.ownsRow.kept hod4.out hA5.grown (sw_ne hod4.out ho4h.out (by decide)))
                  have had5 := Lib.hid (fun (y : Prt × Value) (hy : y ∈ ys ++ [(q, Value.slice Au nu cu)]) => show OwnB w5 w.heap.size y.2 y.1.b from World.ownsRow.kept (show w4.ownsRow w.heap.size 5 1 y.2 y.1.b.length (bv y.1.b) from had4.out y hy) hA5.grown (by
                    cases hyb : y.2.ownBlock with
                    | none => exact .inl rfl
                    | some k =>
                      refine .inr fun e => ?_
                      have h1 := (World.ownsRow.lt ho4h.out k e.symm).1
                      have h2 := hadl.out y hy k hyb
                      omega))
                  have hX5 := Lib.hid (hA5.held _ _ _ (by decide) hX4.out)
                  have hfin := Lib.hid (OutAt.merged (b := q.b ++ p.b) hlx.out hm0.out hod5.out had5.out (sw_base hu5 hwD.out))
                  have hb5 := Lib.hid (below_append hb4h.out (sw_base ho4h.out hwD.out) (Nat.le_trans hwD.out hwd4.out) hA5.grown)
                  obtain ⟨⟨c0, c1', c2'⟩, hfz⟩ := hgs.out _ hod5.out
                  have z0 := hfz (m0 * 3)
                  have z1 := hfz (m0 * 3 + 1)
                  have z2 := hfz (m0 * 3 + 2)
                  clear hfz
                  have hS5 : w5.cell? ⟨X, 2, none⟩ = some (.slice A3 n3 c3) := hX5.out.at_ rfl
                  refine hK.out _ _ hS5 (fun _ => ?_)
                  clear hK K
                  replace hS := hS5
                  (try simp only [Act.put, List.getElem_toArray, List.getElem_cons_zero, List.getElem_cons_succ, List.setIfInBounds_toArray, List.set_cons_zero, List.set_cons_succ])
                  refine wpAnyH_take (i := 11) (v := ?_) rfl (by kernel_rfl) (by kernel_rfl) (by kernel_rfl) (fun _ _ _ h => h) (Or.inl ⟨by rfl, ?_⟩) hS ?_
                  rotate_left
                  · (intro w' hS'; go_simp; try with_reducible rfl)
                  (try simp only [Act.put, List.getElem_toArray, List.getElem_cons_zero, List.getElem_cons_succ, List.setIfInBounds_toArray, List.set_cons_zero, List.set_cons_succ])
                  refine wpAnyH_take (i := 12) (v := ?_) rfl (by kernel_rfl) (by kernel_rfl) (by kernel_rfl) (fun _ _ _ h => h) (Or.inl ⟨by rfl, ?_⟩) hS ?_
                  rotate_left
                  · (intro w' hS'; go_simp; try with_reducible rfl)
                  (try simp only [Act.put, List.getElem_toArray, List.getElem_cons_zero, List.getElem_cons_succ, List.setIfInBounds_toArray, List.set_cons_zero, List.set_cons_succ])
                  refine wpAnyH_ready (rs := [13]) (by kernel_rfl) (by simp) ?_
                  refine AllReadyH.cons rfl (fun K hK => ?_) AllReadyH.nil
                  go_simp
                  refine hK.out _ _ ((((hX5.out.far (a := ⟨G, _, none⟩) (fun e => hGX.out e.symm) _).far (a := ⟨G, _, none⟩) (fun e => hGX.out e.symm) _).far (a := ⟨G, _, none⟩) (fun e => hGX.out e.symm) _).at_ rfl) (fun hS => ?_)
                  clear hK K
                  (try simp only [Act.put, List.getElem_toArray, List.getElem_cons_zero, List.getElem_cons_succ, List.setIfInBounds_toArray, List.set_cons_zero, List.set_cons_succ])
                  refine wpAnyH_done (by kernel_rfl) ?_ _
                  go_wp2
                  go_roundw
                  case rel => exact ⟨km, joinP l p, _, rfl, rfl, by rw [← hkm.out]; exact hnx.out, by rw [hj.out]; exact hfin.out.1, hGh.out.join hgp.out, hfin.out.2 _ hb5.out⟩
                  case measure => have := hmes.out; simp [intOf]; omega
                · have eq0 : (q.kind == 0) = false := by rw [beq_eq_false_iff_ne]; exact hq0
                  have hj := Lib.hid (show joinP l p = xs.map Prod.fst ++ [p] from by rw [hxs, hlm]; exact joinP_two (fun e => hq0 e.2))
                  replace hx1 := Lib.hid hx1
                  replace hq0 := Lib.hid hq0
                  replace hm0 := Lib.hid hm0
                  replace hnl := Lib.hid hnl
                  replace hnl2 := Lib.hid hnl2
                  replace hlm := Lib.hid hlm
                  replace hxl := Lib.hid hxl
                  replace hxs := Lib.hid hxs
                  replace hpk := Lib.hid hpk
                  replace hpg := Lib.hid hpg
                  replace hi8 := Lib.hid hi8
                  replace hkm := Lib.hid hkm
                  replace hk0 := Lib.hid hk0
                  go_wp2_with (at_builtin; refine wpList_push rfl (.tmp 111) (.tmp 113) rfl rfl hownN.out rfl hN.out hlen.out hbN.out.size ?_; intro v' w' h1 h2; obtain ⟨A5, n5, c5, rfl⟩ := sw_slice' h1; have hfin := Lib.hid (OutAt.pushed hbN.out.size hownN.out hallN.out hoN.out h1 h2))
                  go_roundw
                  case rel => exact ⟨km, joinP l p, _, rfl, rfl, by rw [← hkm.out]; exact hnx.out, by rw [hj.out]; exact hfin.out.1, hGh.out.join hgp.out, hfin.out.2 _ hbN.out⟩
                  case measure => have := hmes.out; simp [intOf]; omega
            · have ek : (pk == 0) = false := by rw [beq_eq_false_iff_ne]; exact hk0
              have hj := Lib.hid (show joinP l p = xs.map Prod.fst ++ [p] from by rw [hxs]; exact joinP_other (by rw [hpk]; exact hk0))
              have hwl : IntKind.i64.wrap ((l.length : Int) - 1) = (l.length : Int) - 1 := IntWalk.i64_in _ (by have := hln.out; omega)
              replace hxl := Lib.hid hxl
              replace hxs := Lib.hid hxs
              replace hpk := Lib.hid hpk
              replace hpg := Lib.hid hpg
              replace hi8 := Lib.hid hi8
              replace hkm := Lib.hid hkm
              replace hk0 := Lib.hid hk0
              go_wp2_with (at_builtin; refine wpList_push rfl (.tmp 111) (.tmp 113) rfl rfl hownN.out rfl hN.out hlen.out hbN.out.size ?_; intro v' w' h1 h2; obtain ⟨A5, n5, c5, rfl⟩ := sw_slice' h1; have hfin := Lib.hid (OutAt.pushed hbN.out.size hownN.out hallN.out hoN.out h1 h2))
              go_roundw
              case rel => exact ⟨km, joinP l p, _, rfl, rfl, by rw [← hkm.out]; exact hnx.out, by rw [hj.out]; exact hfin.out.1, hGh.out.join hgp.out, hfin.out.2 _ hbN.out⟩
              case measure => have := hmes.out; simp [intOf]; omega
    · obtain rfl : k = n := by omega
      have hR := hpsh.out.done hnh.out
      have hLl := Lib.hid (show L = l from by
        have h2 := hfh.out
        rw [hR] at h2
        injection h2 with h2
        exact h2.symm)
      clear hR
      go_wp2
      exact bodyPost_ret (v := .tuple #[.slice A2 l.length c2, .int .i64 0, .int .i64 0]) (by simp [results, Try.results12, go_sem]) rfl ⟨⟨_, rfl, by rw [hLl.out]; exact hOh.out⟩, hbrh.out⟩
end Go.Proofs.Ytkfdehkembcaoaa
