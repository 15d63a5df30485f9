/- Contract of the reference's extended, given those of Alt. -/
import Derived.Test.YtnfbgpjadnlgbaaGreatM45
set_option linter.unusedVariables false
set_option maxRecDepth 100000
namespace Go.Proofs.YtnfbgpjadnlgbaaGreat
open Go.RowKit

theorem nx_hd {l : List UInt8} {i : Nat} {x : UInt8} {r : List UInt8} (hx : l.drop i = x :: r) : nx l i = (x.toNat : Int) := by
  have := nx_drop l i 0
  rw [Nat.add_zero] at this
  rw [this, hx]; rfl
/-- What begins a piece. -/
def EKind (l : List UInt8) (i : Nat) (x : UInt8) (d : Int) : Prop :=
  (d = 40 ∧ nx l i = 40) ∨ (d = 92 ∧ x = 92) ∨ (d = 91 ∧ x = 91) ∨ (d = 46 ∧ pieE l i = .nod (i + 1) (setN allS)) ∨
  ((d == 40) = false ∧ (d == 92) = false ∧ (d == 91) = false ∧ (d == 46) = false ∧ pieE l i = .nod (i + 1) (setN (oneF x)))
theorem ekind_of {l : List UInt8} {i : Nat} {x : UInt8} {r : List UInt8} (hx : l.drop i = x :: r) (h0 : ¬ repB x) (h1 : x ≠ 41) (h2 : x ≠ 94) (h3 : x ≠ 36) : EKind l i x (x.toNat : Int) := by
  unfold EKind
  by_cases h4 : x = 40
  · subst h4; exact .inl ⟨rfl, nx_hd hx⟩
  by_cases h5 : x = 92
  · subst h5; exact .inr (.inl ⟨rfl, rfl⟩)
  by_cases h6 : x = 91
  · subst h6; exact .inr (.inr (.inl ⟨rfl, rfl⟩))
  by_cases h7 : x = 46
  · subst h7; exact .inr (.inr (.inr (.inl ⟨rfl, pie_dot hx⟩)))
  exact .inr (.inr (.inr (.inr ⟨u8_ne h4, u8_ne h5, u8_ne h6, u8_ne h7, pie_one hx h0 h1 h2 h3 h4 h5 h6 h7⟩)))
/-- It is none of those that are no piece. -/
structure NoEx (d : Int) : Prop where
  e1 : (d == 42) = false
  e2 : (d == 43) = false
  e3 : (d == 63) = false
  e4 : (d == 123) = false
  e5 : (d == 41) = false
  e6 : (d == 94) = false
  e7 : (d == 36) = false
theorem noex_of {x : UInt8} (h0 : ¬ repB x) (h1 : x ≠ 41) (h2 : x ≠ 94) (h3 : x ≠ 36) : NoEx (x.toNat : Int) := by
  have h8 : ¬ (x = 42 ∨ x = 43 ∨ x = 63 ∨ x = 123) := h0
  exact ⟨u8_ne fun e => h8 (.inl e), u8_ne fun e => h8 (.inr (.inl e)), u8_ne fun e => h8 (.inr (.inr (.inl e))), u8_ne fun e => h8 (.inr (.inr (.inr e))), u8_ne h1, u8_ne h2, u8_ne h3⟩
section
variable {w : World} {B T : Nat} {A : Option Addr} {n c : Nat} {l : List UInt8} {v : Value} {ns : List Nod} {g i : Nat} {cl : Nat → Bool} (h : Rdr w B T A n c l v ns g i cl 0) {inG : Bool}
include h
set_option maxHeartbeats 16000000 in
theorem eext_body {first : Bool} (hp : PieAt l i inG) (hsm : n ≤ 300) (hrm : ns.length ≤ 2 * i) (hB : ∀ k, k < n - i → EAltOK k) {x : UInt8} {r : List UInt8} (hx : l.drop i = x :: r) (x0 : ¬ repB x) (x1 : x ≠ 41) (x2 : x ≠ 94) (x3 : x ≠ 36) :
    Calls Tryz.prog 39 #[.pointer (some ⟨T, 0, none⟩), .bool first] w (ENode true w B T A n c l v ns g i cl inG) := by
  obtain ⟨hi, hx1, -⟩ := drop_at hx
  have hnl := h.hn
  have hi1 : i + 1 ≤ n := by omega
  have hi0 : (i : Int) ≤ 100000 := by omega
  have hl : ns.length < 1000 := by omega
  have hN0 := Lib.hid (next_at h 0 0 rfl (by decide))
  rw [show nx l (i + 0) = (x.toNat : Int) from nx_some hx1] at hN0
  have hR := Lib.hid (fun w3 (hb : Below w.heap.size w w3) => h.keep hb)
  have hxl : x.toNat < 256 := UInt8.toNat_lt x
  have hw8 : IntKind.u8.wrap (x.toNat : Int) = (x.toNat : Int) := IntWalk.u8_in _ (by omega)
  have hO := Lib.hid (fun w => refOne_any x w)
  have hAny := Lib.hid refAny_any
  rw [setC_all] at hAny
  have hGr := Lib.hid (fun (e : nx l i = 40) w3 (hb : Below w.heap.size w w3) => egroup_any (inG := inG) (h.keep hb) e hsm hrm hB)
  have hEs := Lib.hid (fun (e : x = 92) w3 (hb : Below w.heap.size w w3) => eescape_any (inG := inG) (h.keep hb) hp hl (r := r) (by rw [hx, e]))
  have hBk := Lib.hid (fun (e : x = 91) w3 (hb : Below w.heap.size w w3) => ebracket_any (inG := inG) (h.keep hb) hp hl (r := r) (by rw [hx, e]))
  have hU := Lib.hid (fun w1 (h1 : Rdr w1 B T A n c l v ns g (i + 1) cl 0) => rput_any h1 (setN (oneF x)) (fits_set _ _ _))
  have hUa := Lib.hid (fun w1 (h1 : Rdr w1 B T A n c l v ns g (i + 1) cl 0) => rput_any h1 (setN allS) (fits_set _ _ _))
  have hfin := Lib.hid (fun (nd : Nod) (ha : pieE l i = .nod (i + 1) nd) (w' : World) (z : Ending) (y : RPut w B T A n c l v ns g (i + 1) cl nd z w') => y.enode (inG := inG) hl hp ha (by omega))
  obtain ⟨s0, s1, s2, s3, es, en⟩ := set_lit (oneF x)
  rw [es] at hO
  rw [en] at hU
  rw [nodV_allE] at hUa
  have hk := Lib.hid (ekind_of hx x0 x1 x2 x3)
  obtain ⟨y1, y2, y3, y4, y5, y6, y7⟩ := noex_of x0 x1 x2 x3
  clear h hx hx1 hi es en hxl hB x0 x1 x2 x3 hl hp hnl
  generalize (x.toNat : Int) = d at *
  go_enter Tryz.func39, Tryz.ntmps39
  go_upto_if 61 with (go_at_call 32; refine (hN0.out).mono ?_; rintro e w1 ⟨rfl, hb1⟩; replace hb1 := Lib.hid hb1)
  clear hN0 y1 y2 y3 y4 y5 y6 y7
  go_cut [6, 8] from 61 to 90 (fun s6 s8 wx => ENode false w B T A n c l v ns g i cl inG (.returned s6) wx)
  case first =>
    rcases hk.out with ⟨rfl, ha⟩ | ⟨rfl, ha⟩ | ⟨rfl, ha⟩ | ⟨rfl, ha⟩ | ⟨y1, y2, y3, y4, ha⟩
    · replace hGr := Lib.hid (hGr.out ha _ hb1.out)
      go_wp2_with (go_at_call 49; refine (hGr.out).mono ?_; intro x w4 hy; obtain ⟨z, rfl, hy⟩ := hy.ret; replace hy := Lib.hid (hy.from (ChP.of_below hb1.out)))
      go_meet
      exact hy.out
    · replace hEs := Lib.hid (hEs.out ha _ hb1.out)
      go_wp2_with (go_at_call 50; refine (hEs.out).mono ?_; intro x w4 hy; obtain ⟨z, rfl, hy⟩ := hy.ret; replace hy := Lib.hid (hy.from (ChP.of_below hb1.out)))
      go_meet
      exact hy.out
    · replace hBk := Lib.hid (hBk.out ha _ hb1.out)
      go_wp2_with (go_at_call 51; refine (hBk.out).mono ?_; intro x w4 hy; obtain ⟨z, rfl, hy⟩ := hy.ret; replace hy := Lib.hid (hy.from (ChP.of_below hb1.out)))
      go_meet
      exact hy.out
    · replace hfin := Lib.hid (hfin.out _ ha)
      clear ha hU hBk hEs hGr
      go_wp2_with (first
        | (go_at_call 52; refine (hO.out _).mono ?_; rintro e w3 ⟨rfl, hb3⟩; replace hb3 := hb1.out.trans (hb3.mono hb1.out.size); have h3 := hR.out _ hb3; have c1 := h3.c1; have t1 := h3.thawed 1; have hT3 := h3.lt; have hTG : T ≠ w3.heap.size := Nat.ne_of_lt hT3; have hTG' : ¬ w3.heap.size = T := fun e => hTG e.symm; have hG3 := Lib.hid hb3.size; have hG := Lib.hid (held_new w3 39 #[.int .i64 1, .int .i64 0, .int .i64 0, .int .i64 0, .int .i64 0, .int .i64 0, .int .u64 (s0 : Int), .int .u64 (s1 : Int), .int .u64 (s2 : Int), .int .u64 (s3 : Int)]); have hbG := Lib.hid (hb3.alloc hb3.size (.cells #[.int .i64 1, .int .i64 0, .int .i64 0, .int .i64 0, .int .i64 0, .int .i64 0, .int .u64 (s0 : Int), .int .u64 (s1 : Int), .int .u64 (s2 : Int), .int .u64 (s3 : Int)] 39)); have hbw3 := Lib.hid hb3; clear h3 hb3)
        | (go_at_call 53; refine (hAny.out _).mono ?_; rintro e w5 ⟨rfl, hb5⟩; have hG5 := hG.out.keep hb5; replace hbG := Lib.hid (hbG.out.trans (hb5.mono hbG.out.size)); have c1b := (hR.out _ hbG.out).c1; have t1b := (hR.out _ hbG.out).thawed 1; have ⟨n0, n1, n2, n3, n4, n5, n6, n7, n8, n9⟩ := hG5.cells10; have f0 := hG5.thawed 0; have f1 := hG5.thawed 1; have f2 := hG5.thawed 2; have f3 := hG5.thawed 3; have f4 := hG5.thawed 4; have f5 := hG5.thawed 5; have f6 := hG5.thawed 6; have f7 := hG5.thawed 7; have f8 := hG5.thawed 8; have f9 := hG5.thawed 9; replace hG := Lib.hid hG5; clear hG5 hb5; have hb6 := Lib.hid ((((hbG.out.setCell (p := ⟨w3.heap.size, 6, none⟩) hG3.out (.int .u64 18446744073709551615)).setCell (p := ⟨w3.heap.size, 7, none⟩) hG3.out (.int .u64 18446744073709551615)).setCell (p := ⟨w3.heap.size, 8, none⟩) hG3.out (.int .u64 18446744073709551615)).setCell (p := ⟨w3.heap.size, 9, none⟩) hG3.out (.int .u64 18446744073709551615)))
        | (go_at_call 22; refine (hUa.out _ ((hR.out _ hb6.out).goto hi1 (z := (i : Int) + 1) (by omega))).mono ?_; intro y w8 hy; obtain ⟨z, rfl, hy⟩ := hy.ret; replace hy := Lib.hid (hfin.out _ _ (hy.from ((ChP.of_below hb6.out).trans (ChP.store _ T 1 (.int .i64 ((i : Int) + 1)) v))))))
      go_meet
      exact hy.out
    · replace hfin := Lib.hid (hfin.out _ ha)
      clear ha hUa hBk hEs hGr hAny
      go_wp2_with (first
        | (go_at_call 52; refine (hO.out _).mono ?_; rintro e w3 ⟨rfl, hb3⟩; replace hb3 := hb1.out.trans (hb3.mono hb1.out.size); have h3 := hR.out _ hb3; have c1 := h3.c1; have t1 := h3.thawed 1; have hT3 := h3.lt; have hTG : T ≠ w3.heap.size := Nat.ne_of_lt hT3; have hTG' : ¬ w3.heap.size = T := fun e => hTG e.symm; have hG3 := Lib.hid hb3.size; have hG := Lib.hid (held_new w3 39 #[.int .i64 1, .int .i64 0, .int .i64 0, .int .i64 0, .int .i64 0, .int .i64 0, .int .u64 (s0 : Int), .int .u64 (s1 : Int), .int .u64 (s2 : Int), .int .u64 (s3 : Int)]); have hbG := Lib.hid (hb3.alloc hb3.size (.cells #[.int .i64 1, .int .i64 0, .int .i64 0, .int .i64 0, .int .i64 0, .int .i64 0, .int .u64 (s0 : Int), .int .u64 (s1 : Int), .int .u64 (s2 : Int), .int .u64 (s3 : Int)] 39)); have hbw3 := Lib.hid hb3; clear h3 hb3)
        | (go_at_call 22; refine (hU.out _ (((hR.out _ hbw3.out).goto hi1 (z := (i : Int) + 1) (by omega)).keep ((Below.refl _ _).alloc (Nat.le_refl _) _))).mono ?_; intro y w8 hy; obtain ⟨z, rfl, hy⟩ := hy.ret; replace hy := Lib.hid (hfin.out _ _ (hy.from (((ChP.of_below hbw3.out).trans (ChP.store w3 T 1 (.int .i64 ((i : Int) + 1)) v)).trans (ChP.of_below ((Below.refl _ _).alloc (Nat.le_refl _) _)))))))
      go_meet
      exact hy.out
  case rest =>
    clear hk hfin hU hUa hO hAny hBk hEs hGr hR hw8
    replace hcut := Lib.hid hcut
    go_wp2
    go_loopw [6, 9, 5, 10, 11, 12, 13, 14] (fun a _ _ _ _ _ _ _ wr => ENode false w B T A n c l v ns g i cl inG (.returned a) wr) (fun _ _ _ _ _ _ _ _ wr => leftR n T wr)
    case atStart => exact hcut.out
    case round =>
      clear hcut
      rcases hrel with ⟨x, v2, ns2, g2, i2, cl2, ea, ok2, h2, k2, q1, q0, q2, q3, q4⟩ | ⟨x, v2, ns2, g2, i2, cl2, e2, he2, ea, h2, k2, q4⟩
      · obtain rfl := (Ending.returned.inj ea)
        clear ea
        have c2 := h2.c2
        have hle := h2.le
        have hi2 : (i2 : Int) ≤ 100000 := by omega
        have hnl := h2.hn
        have hl2 : ns2.length < 1000 := by omega
        have hP := Lib.hid (fun w3 (hb : Below wr.heap.size wr w3) => h2.keep hb)
        have hN0 := Lib.hid (fun w3 (hb : Below wr.heap.size wr w3) => next_at (h2.keep hb) 0 0 rfl (by decide))
        rw [Nat.add_zero] at hN0
        have hTr := h2.lt
        have hTG : T ≠ wr.heap.size := Nat.ne_of_lt hTr
        have hTG' : ¬ wr.heap.size = T := fun e => hTG e.symm
        have hG := Lib.hid (held_new wr 39 #[.int .i64 4, .int .i64 x, .int .i64 0, .int .i64 0, .int .i64 (-1), .int .i64 0, .int .u64 0, .int .u64 0, .int .u64 0, .int .u64 0])
        have hbG := Lib.hid ((Below.refl wr.heap.size wr).alloc (Nat.le_refl _) (.cells #[.int .i64 4, .int .i64 x, .int .i64 0, .int .i64 0, .int .i64 (-1), .int .i64 0, .int .u64 0, .int .u64 0, .int .u64 0, .int .u64 0] 39))
        have hlt2 : 0 ≤ nx l i2 → i2 < l.length := nx_lt
        by_cases e42 : nx l i2 = 42
        · have hi3 : i2 + 1 ≤ n := by omega
          rw [e42] at hN0
          have hU := Lib.hid (fun w3 (h3 : Rdr w3 B T A n c l v2 ns2 g2 (i2 + 1) cl2 0) => rput_any h3 (repN x 0 (-1)) (fits_rep ok2 (by decide)))
          rw [show nodV (repN x 0 (-1)) = _ from nodV_z 4 x 0 0 (-1) 0] at hU
          have hfin := Lib.hid (fun w' z (hy : RPut wr B T A n c l v2 ns2 g2 (i2 + 1) cl2 (repN x 0 (-1)) (.returned (.int .i64 z)) w') => erep_next h2 (fun _ => trivial) k2 q1 q0 q2 q3 hl2 q4 (show i2 < i2 + 1 by omega) (fun ps bs lv => stepE_star e42) hy)
          clear h2 k2 q0 q1 q2 q3 q4 ok2 hnl hl2 hlt2 hle
          go_wp2_with (first
            | (go_at_call 32; refine (hN0.out _ hbG.out).mono ?_; rintro y w5 ⟨rfl, hq⟩; have hG5 := hG.out.keep hq; replace hbG := Lib.hid (hbG.out.trans (hq.mono hbG.out.size)); have c1b := (hP.out _ hbG.out).c1; have t1b := (hP.out _ hbG.out).thawed 1; have ⟨n0, n1, n2, n3, n4, n5, n6, n7, n8, n9⟩ := hG5.cells10; have f0 := hG5.thawed 0; have f1 := hG5.thawed 1; have f2 := hG5.thawed 2; have f3 := hG5.thawed 3; have f4 := hG5.thawed 4; have f5 := hG5.thawed 5; have f6 := hG5.thawed 6; have f7 := hG5.thawed 7; have f8 := hG5.thawed 8; have f9 := hG5.thawed 9; clear hG5 hq)
            | (go_at_call 22; (refine (hU.out _ ((hP.out _ hbG.out).goto hi3 (z := (i2 : Int) + 1) (by omega))).mono ?_; intro y w6 hy; obtain ⟨z, rfl, hy⟩ := hy.ret; replace hy := Lib.hid (hfin.out _ _ (hy.from ((ChP.of_below hbG.out).trans (ChP.store _ T 1 (.int .i64 ((i2 : Int) + 1)) v2)))))))
          go_roundw
          case rel => exact hy.out.1
          case measure => exact hy.out.2
        by_cases e43 : nx l i2 = 43
        · have hi3 : i2 + 1 ≤ n := by omega
          rw [e43] at hN0
          have hU := Lib.hid (fun w3 (h3 : Rdr w3 B T A n c l v2 ns2 g2 (i2 + 1) cl2 0) => rput_any h3 (repN x 1 (-1)) (fits_rep ok2 (by decide)))
          rw [show nodV (repN x 1 (-1)) = _ from nodV_z 4 x 0 1 (-1) 0] at hU
          have hfin := Lib.hid (fun w' z (hy : RPut wr B T A n c l v2 ns2 g2 (i2 + 1) cl2 (repN x 1 (-1)) (.returned (.int .i64 z)) w') => erep_next h2 (fun _ => trivial) k2 q1 q0 q2 q3 hl2 q4 (show i2 < i2 + 1 by omega) (fun ps bs lv => stepE_plus e43) hy)
          clear h2 k2 q0 q1 q2 q3 q4 ok2 hnl hl2 hlt2 hle
          go_wp2_with (first
            | (go_at_call 32; refine (hN0.out _ hbG.out).mono ?_; rintro y w5 ⟨rfl, hq⟩; have hG5 := hG.out.keep hq; replace hbG := Lib.hid (hbG.out.trans (hq.mono hbG.out.size)); have c1b := (hP.out _ hbG.out).c1; have t1b := (hP.out _ hbG.out).thawed 1; have ⟨n0, n1, n2, n3, n4, n5, n6, n7, n8, n9⟩ := hG5.cells10; have f0 := hG5.thawed 0; have f1 := hG5.thawed 1; have f2 := hG5.thawed 2; have f3 := hG5.thawed 3; have f4 := hG5.thawed 4; have f5 := hG5.thawed 5; have f6 := hG5.thawed 6; have f7 := hG5.thawed 7; have f8 := hG5.thawed 8; have f9 := hG5.thawed 9; clear hG5 hq)
            | (go_at_call 22; (refine (hU.out _ ((hP.out _ (hbG.out.setCell (p := ⟨wr.heap.size, 3, none⟩) (Nat.le_refl _) (.int .i64 1))).goto hi3 (z := (i2 : Int) + 1) (by omega))).mono ?_; intro y w6 hy; obtain ⟨z, rfl, hy⟩ := hy.ret; replace hy := Lib.hid (hfin.out _ _ (hy.from ((ChP.of_below (hbG.out.setCell (p := ⟨wr.heap.size, 3, none⟩) (Nat.le_refl _) (.int .i64 1))).trans (ChP.store _ T 1 (.int .i64 ((i2 : Int) + 1)) v2)))))))
          go_roundw
          case rel => exact hy.out.1
          case measure => exact hy.out.2
        by_cases e63 : nx l i2 = 63
        · have hi3 : i2 + 1 ≤ n := by omega
          rw [e63] at hN0
          have hU := Lib.hid (fun w3 (h3 : Rdr w3 B T A n c l v2 ns2 g2 (i2 + 1) cl2 0) => rput_any h3 (repN x 0 1) (fits_rep ok2 (by decide)))
          rw [show nodV (repN x 0 1) = _ from nodV_z 4 x 0 0 1 0] at hU
          have hfin := Lib.hid (fun w' z (hy : RPut wr B T A n c l v2 ns2 g2 (i2 + 1) cl2 (repN x 0 1) (.returned (.int .i64 z)) w') => erep_next h2 (fun _ => trivial) k2 q1 q0 q2 q3 hl2 q4 (show i2 < i2 + 1 by omega) (fun ps bs lv => stepE_qm e63) hy)
          clear h2 k2 q0 q1 q2 q3 q4 ok2 hnl hl2 hlt2 hle
          go_wp2_with (first
            | (go_at_call 32; refine (hN0.out _ hbG.out).mono ?_; rintro y w5 ⟨rfl, hq⟩; have hG5 := hG.out.keep hq; replace hbG := Lib.hid (hbG.out.trans (hq.mono hbG.out.size)); have c1b := (hP.out _ hbG.out).c1; have t1b := (hP.out _ hbG.out).thawed 1; have ⟨n0, n1, n2, n3, n4, n5, n6, n7, n8, n9⟩ := hG5.cells10; have f0 := hG5.thawed 0; have f1 := hG5.thawed 1; have f2 := hG5.thawed 2; have f3 := hG5.thawed 3; have f4 := hG5.thawed 4; have f5 := hG5.thawed 5; have f6 := hG5.thawed 6; have f7 := hG5.thawed 7; have f8 := hG5.thawed 8; have f9 := hG5.thawed 9; clear hG5 hq)
            | (go_at_call 22; (refine (hU.out _ ((hP.out _ (hbG.out.setCell (p := ⟨wr.heap.size, 4, none⟩) (Nat.le_refl _) (.int .i64 1))).goto hi3 (z := (i2 : Int) + 1) (by omega))).mono ?_; intro y w6 hy; obtain ⟨z, rfl, hy⟩ := hy.ret; replace hy := Lib.hid (hfin.out _ _ (hy.from ((ChP.of_below (hbG.out.setCell (p := ⟨wr.heap.size, 4, none⟩) (Nat.le_refl _) (.int .i64 1))).trans (ChP.store _ T 1 (.int .i64 ((i2 : Int) + 1)) v2)))))))
          go_roundw
          case rel => exact hy.out.1
          case measure => exact hy.out.2
        by_cases e123 : nx l i2 = 123
        · rw [e123] at hN0
          have hi3 : i2 + 1 ≤ n := by omega
          obtain ⟨p, hp⟩ : ∃ p, p = i2 + 1 := ⟨_, rfl⟩
          have hwp : IntKind.i64.wrap ((i2 : Int) + 1) = (p : Int) := by rw [IntWalk.i64_in _ (by omega)]; omega
          have hIv := Lib.hid (fun w3 (hb : Below wr.heap.size wr w3) => rinterval_any (h2.keep hb) (a := p) (by omega))
          have hpl : p ≤ l.length := by omega
          have hBAD := Lib.hid (show ivE l i2 = none → ∀ w' v', Rdr w' B T A n c l v' ns2 g2 i2 cl2 13 → ChP wr w' T v2 v' → ENode true w B T A n c l v ns g i cl inG (.returned (.int .i64 x)) w' from fun hiv w' v' h3 k3 => .inr ⟨x, v', ns2, g2, i2, cl2, 13, by decide, rfl, h3, k2.trans k3, fun ct ps bs lv hct hlv => (q4 ct ps bs lv hct hlv).ends (.bad (stepE_ivl_bad e123 hiv))⟩)
          cases hv : rivI l p with
          | none =>
            have hiv : ivE l i2 = none := by unfold ivE; rw [← hp, hv]
            rw [hv] at hIv
            unfold rivR at hIv
            replace hBAD := Lib.hid (hBAD.out hiv)
            clear h2 k2 q0 q1 q2 q3 q4 ok2 hnl hl2 hlt2 hle hiv hv hp hpl e42 e43 e63 e123
            go_wp2_with (first
              | (go_at_call 32; refine (hN0.out _ hbG.out).mono ?_; rintro y w5 ⟨rfl, hq⟩; have hG5 := hG.out.keep hq; replace hbG := Lib.hid (hbG.out.trans (hq.mono hbG.out.size)); have c1b := (hP.out _ hbG.out).c1; have t1b := (hP.out _ hbG.out).thawed 1; have ⟨n0, n1, n2, n3, n4, n5, n6, n7, n8, n9⟩ := hG5.cells10; have f0 := hG5.thawed 0; have f1 := hG5.thawed 1; have f2 := hG5.thawed 2; have f3 := hG5.thawed 3; have f4 := hG5.thawed 4; have f5 := hG5.thawed 5; have f6 := hG5.thawed 6; have f7 := hG5.thawed 7; have f8 := hG5.thawed 8; have f9 := hG5.thawed 9; clear hG5 hq; have h4 := hP.out _ hbG.out; have c2b := h4.c2; have t2 := h4.thawed 2; have h5 := Lib.hid (h4.erred 13 (z := 13) rfl); have k5 := Lib.hid ((ChP.of_below (T := T) (v := v2) hbG.out).trans (ChP.store w5 T 2 (.int .i64 13) v2)))
              | (go_at_call 54; refine (hIv.out _ hbG.out).mono ?_; rintro y w6 ⟨rfl, rfl⟩))
            go_ret
            exact hBAD.out _ _ h5.out k5.out
          | some t3 =>
            obtain ⟨lo, hi, k⟩ := t3
            have hkin := riv_in hpl hv
            have hk0 : (k : Int) ≤ 100000 := by omega
            have hk00 : (0 : Int) ≤ (k : Int) := by omega
            have htm := riv_times hpl hv
            have hiv : ivE l i2 = if nx l k = 125 then some (lo, hi, k + 1) else none := by unfold ivE; rw [← hp, hv]
            rw [hv] at hIv
            unfold rivR at hIv
            by_cases hb3 : nx l k = 125
            · rw [if_pos hb3] at hiv
              have hkl : k < l.length := nx_lt (by omega)
              obtain ⟨ad, hA, hcell1⟩ := h2.byte (k := k) (x := 125) (by
                have hx1 : l[k]? = some (l[k]'(by omega)) := List.getElem?_eq_getElem _
                rw [nx_some hx1] at hb3
                rw [hx1, UInt8.toNat_inj.1 (show (l[k]'(by omega)).toNat = (125 : UInt8).toNat from by show _ = 125; omega)])
              subst hA
              have hmn : ¬ (n : Int) ≤ (k : Int) := by omega
              have hkn1 : (k : Int) < (n : Int) := by omega
              have hi4 : k + 1 ≤ n := by omega
              have hBy := Lib.hid (fun w3 (hb : Below wr.heap.size wr w3) => (show w3.cell? (ad.add k) = some (.int .u8 125) from by
                obtain ⟨a1, e1, f1⟩ := (h2.keep hb).byte (k := k) (x := 125) (by
                  have hx1 : l[k]? = some (l[k]'(by omega)) := List.getElem?_eq_getElem _
                  rw [nx_some hx1] at hb3
                  rw [hx1, UInt8.toNat_inj.1 (show (l[k]'(by omega)).toNat = (125 : UInt8).toNat from by show _ = 125; omega)])
                cases e1
                exact f1))
              have hU := Lib.hid (fun w3 (h3 : Rdr w3 B T (some ad) n c l v2 ns2 g2 (k + 1) cl2 0) => rput_any h3 (repN x lo hi) (fits_rep ok2 htm))
              rw [show nodV (repN x lo hi) = _ from nodV_z 4 x 0 lo hi 0] at hU
              have hfin := Lib.hid (fun w' z (hy : RPut wr B T (some ad) n c l v2 ns2 g2 (k + 1) cl2 (repN x lo hi) (.returned (.int .i64 z)) w') => erep_next h2 (fun _ => trivial) k2 q1 q0 q2 q3 hl2 q4 (show i2 < k + 1 by omega) (fun ps bs lv => stepE_ivl e123 hiv) hy)
              have hnc : n ≤ c := h2.inp.2.1
              clear h2 k2 q0 q1 q2 q3 q4 ok2 hnl hl2 hlt2 hle hiv hv hp hpl e42 e43 e63 e123 hBAD htm hb3 hcell1 hkl
              go_wp2_with (first
                | (go_at_call 32; refine (hN0.out _ hbG.out).mono ?_; rintro y w5 ⟨rfl, hq⟩; have hG5 := hG.out.keep hq; replace hbG := Lib.hid (hbG.out.trans (hq.mono hbG.out.size)); have c1b := (hP.out _ hbG.out).c1; have t1b := (hP.out _ hbG.out).thawed 1; have ⟨n0, n1, n2, n3, n4, n5, n6, n7, n8, n9⟩ := hG5.cells10; have f0 := hG5.thawed 0; have f1 := hG5.thawed 1; have f2 := hG5.thawed 2; have f3 := hG5.thawed 3; have f4 := hG5.thawed 4; have f5 := hG5.thawed 5; have f6 := hG5.thawed 6; have f7 := hG5.thawed 7; have f8 := hG5.thawed 8; have f9 := hG5.thawed 9; clear hG5 hq; have c0b := (hP.out _ hbG.out).c0; have by1 := hBy.out _ hbG.out)
                | (go_at_call 54; refine (hIv.out _ hbG.out).mono ?_; rintro y w6 ⟨rfl, rfl⟩)
                | (go_at_call 22; (refine (hU.out _ ((hP.out _ ((hbG.out.setCell (p := ⟨wr.heap.size, 3, none⟩) (Nat.le_refl _) (.int .i64 lo)).setCell (p := ⟨wr.heap.size, 4, none⟩) (Nat.le_refl _) (.int .i64 hi))).goto hi4 (z := (k : Int) + 1) (by omega))).mono ?_; intro y w6 hy; obtain ⟨z, rfl, hy⟩ := hy.ret; replace hy := Lib.hid (hfin.out _ _ (hy.from ((ChP.of_below ((hbG.out.setCell (p := ⟨wr.heap.size, 3, none⟩) (Nat.le_refl _) (.int .i64 lo)).setCell (p := ⟨wr.heap.size, 4, none⟩) (Nat.le_refl _) (.int .i64 hi))).trans (ChP.store _ T 1 (.int .i64 ((k : Int) + 1)) v2)))))))
              go_roundw
              case rel => exact hy.out.1
              case measure => exact hy.out.2
            · rw [if_neg hb3] at hiv
              replace hBAD := Lib.hid (hBAD.out hiv)
              by_cases hkn : k < n
              · have hx1 : l[k]? = some (l[k]'(by omega)) := List.getElem?_eq_getElem _
                rw [nx_some hx1] at hb3
                generalize l[k]'(by omega) = y1 at *
                obtain ⟨ad, hA, hcell1⟩ := h2.byte hx1
                subst hA
                have hmn : ¬ (n : Int) ≤ (k : Int) := by omega
                have hkn1 : (k : Int) < (n : Int) := by omega
                have hBy := Lib.hid (fun w3 (hb : Below wr.heap.size wr w3) => (show w3.cell? (ad.add k) = some (.int .u8 (y1.toNat : Int)) from by
                  obtain ⟨a1, e1, f1⟩ := (h2.keep hb).byte hx1
                  cases e1
                  exact f1))
                have hnc : n ≤ c := h2.inp.2.1
                have hne : ((y1.toNat : Int) != 125) = true := by rw [bne_iff_ne]; exact hb3
                clear h2 k2 q0 q1 q2 q3 q4 ok2 hnl hl2 hlt2 hle hiv hv hp hpl e42 e43 e63 e123 htm hb3 hcell1 hx1
                generalize (y1.toNat : Int) = d1 at *
                go_wp2_with (first
                  | (go_at_call 32; refine (hN0.out _ hbG.out).mono ?_; rintro y w5 ⟨rfl, hq⟩; have hG5 := hG.out.keep hq; replace hbG := Lib.hid (hbG.out.trans (hq.mono hbG.out.size)); have c1b := (hP.out _ hbG.out).c1; have t1b := (hP.out _ hbG.out).thawed 1; have ⟨n0, n1, n2, n3, n4, n5, n6, n7, n8, n9⟩ := hG5.cells10; have f0 := hG5.thawed 0; have f1 := hG5.thawed 1; have f2 := hG5.thawed 2; have f3 := hG5.thawed 3; have f4 := hG5.thawed 4; have f5 := hG5.thawed 5; have f6 := hG5.thawed 6; have f7 := hG5.thawed 7; have f8 := hG5.thawed 8; have f9 := hG5.thawed 9; clear hG5 hq; have h4 := hP.out _ hbG.out; have c2b := h4.c2; have t2 := h4.thawed 2; have h5 := Lib.hid (h4.erred 13 (z := 13) rfl); have k5 := Lib.hid ((ChP.of_below (T := T) (v := v2) hbG.out).trans (ChP.store w5 T 2 (.int .i64 13) v2)); have c0b := (hP.out _ hbG.out).c0; have by1 := hBy.out _ hbG.out)
                  | (go_at_call 54; refine (hIv.out _ hbG.out).mono ?_; rintro y w6 ⟨rfl, rfl⟩))
                go_ret
                exact hBAD.out _ _ h5.out k5.out
              · have hmn : (n : Int) ≤ (k : Int) := by omega
                clear h2 k2 q0 q1 q2 q3 q4 ok2 hnl hl2 hlt2 hle hiv hv hp hpl e42 e43 e63 e123 htm hb3
                go_wp2_with (first
                  | (go_at_call 32; refine (hN0.out _ hbG.out).mono ?_; rintro y w5 ⟨rfl, hq⟩; have hG5 := hG.out.keep hq; replace hbG := Lib.hid (hbG.out.trans (hq.mono hbG.out.size)); have c1b := (hP.out _ hbG.out).c1; have t1b := (hP.out _ hbG.out).thawed 1; have ⟨n0, n1, n2, n3, n4, n5, n6, n7, n8, n9⟩ := hG5.cells10; have f0 := hG5.thawed 0; have f1 := hG5.thawed 1; have f2 := hG5.thawed 2; have f3 := hG5.thawed 3; have f4 := hG5.thawed 4; have f5 := hG5.thawed 5; have f6 := hG5.thawed 6; have f7 := hG5.thawed 7; have f8 := hG5.thawed 8; have f9 := hG5.thawed 9; clear hG5 hq; have h4 := hP.out _ hbG.out; have c2b := h4.c2; have t2 := h4.thawed 2; have h5 := Lib.hid (h4.erred 13 (z := 13) rfl); have k5 := Lib.hid ((ChP.of_below (T := T) (v := v2) hbG.out).trans (ChP.store w5 T 2 (.int .i64 13) v2)); have c0b := (hP.out _ hbG.out).c0)
                  | (go_at_call 54; refine (hIv.out _ hbG.out).mono ?_; rintro y w6 ⟨rfl, rfl⟩))
                go_ret
                exact hBAD.out _ _ h5.out k5.out
        · have hfin := Lib.hid (show ∀ w', Below wr.heap.size wr w' → ENode true w B T A n c l v ns g i cl inG (.returned (.int .i64 x)) w' from fun w' hb => .inl ⟨x, v2, ns2, g2, i2, cl2, rfl, ok2, h2.keep hb, k2.trans (ChP.of_below hb), q1, q0, q2, q3, fun ct ps bs lv hct hlv => (q4 ct ps bs lv hct hlv).snoc (stepE_off e42 e43 e63 e123)⟩)
          have b43 : (nx l i2 == 43) = false := by rw [beq_eq_false_iff_ne]; exact e43
          have b63 : (nx l i2 == 63) = false := by rw [beq_eq_false_iff_ne]; exact e63
          have b123 : (nx l i2 == 123) = false := by rw [beq_eq_false_iff_ne]; exact e123
          have n42 : (nx l i2 != 42) = true := by rw [bne_iff_ne]; exact e42
          have n43 : (nx l i2 != 43) = true := by rw [bne_iff_ne]; exact e43
          have n63 : (nx l i2 != 63) = true := by rw [bne_iff_ne]; exact e63
          clear h2 k2 q0 q1 q2 q3 q4 ok2 hnl hl2 hlt2 hle e42 e43 e63 e123
          generalize nx l i2 = z0 at *
          go_wp2_with (go_at_call 32; refine (hN0.out _ hbG.out).mono ?_; rintro y w5 ⟨rfl, hq⟩; have hG5 := hG.out.keep hq; replace hbG := Lib.hid (hbG.out.trans (hq.mono hbG.out.size)); have c1b := (hP.out _ hbG.out).c1; have t1b := (hP.out _ hbG.out).thawed 1; have ⟨n0, n1, n2, n3, n4, n5, n6, n7, n8, n9⟩ := hG5.cells10; have f0 := hG5.thawed 0; have f1 := hG5.thawed 1; have f2 := hG5.thawed 2; have f3 := hG5.thawed 3; have f4 := hG5.thawed 4; have f5 := hG5.thawed 5; have f6 := hG5.thawed 6; have f7 := hG5.thawed 7; have f8 := hG5.thawed 8; have f9 := hG5.thawed 9; clear hG5 hq)
          go_ret
          exact hfin.out _ hbG.out
      · obtain rfl := (Ending.returned.inj ea)
        clear ea
        have c2 := h2.c2
        have he : ((e2 : Int) == 0) = false := by rw [beq_eq_false_iff_ne]; omega
        have hfin := Lib.hid (show ENode true w B T A n c l v ns g i cl inG (.returned (.int .i64 x)) wr from .inr ⟨x, v2, ns2, g2, i2, cl2, e2, he2, rfl, h2, k2, q4⟩)
        clear h2 k2 q4 he2
        go_wp2
        go_ret
        exact hfin.out
end
end Go.Proofs.YtnfbgpjadnlgbaaGreat
