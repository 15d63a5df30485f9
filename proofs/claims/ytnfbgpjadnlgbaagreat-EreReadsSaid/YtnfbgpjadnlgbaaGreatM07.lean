/- Contracts: Empty, Set, Bol, Eol, Rep, Group, Back; chain. Contracts: chain, Cat, Alt. Contract: allOnce. Rows of counts; what it is to be right. Contract: Right, of what is too small or too great. -/
import Derived.Test.YtnfbgpjadnlgbaaGreatM06
import Derived.Test.YtnfbgpjadnlgbaaGreatM05
import Derived.Shelf.Abstract
import Derived.Test.YtnfbgpjadnlgbaaGreatM03
import Derived.Laws.OwnMore
set_option linter.unusedVariables false
set_option maxRecDepth 100000
namespace Go.Proofs.YtnfbgpjadnlgbaaGreat
open Go.RowKit

theorem nodV_z (k a b lo hi g : Int) : nodV ⟨k, a, b, lo, hi, g, zset⟩ = .agg #[.int .i64 k, .int .i64 a, .int .i64 b, .int .i64 lo, .int .i64 hi, .int .i64 g, .int .u64 0, .int .u64 0, .int .u64 0, .int .u64 0] := by unfold nodV; rw [nodC_z]
def emptyN : Nod := ⟨0, 0, 0, 0, 0, 0, zset⟩
def setN (s : Nat → Bool) : Nod := ⟨1, 0, 0, 0, 0, 0, s⟩
def bolN : Nod := ⟨7, 0, 0, 0, 0, 0, zset⟩
def eolN : Nod := ⟨8, 0, 0, 0, 0, 0, zset⟩
def repN (a lo hi : Int) : Nod := ⟨4, a, 0, lo, hi, 0, zset⟩
def groupN (g a : Int) : Nod := ⟨5, a, 0, 0, 0, g, zset⟩
def backN (g : Int) : Nod := ⟨6, 0, 0, 0, 0, g, zset⟩
def twoN (k a b : Int) : Nod := ⟨k, a, b, 0, 0, 0, zset⟩

section
variable (B T o : Nat) (v : Value) (ns : List Nod) (g : Nat) (w : World) (h : Bldr w B T o v ns g)
include h
theorem empty_any : Calls Tryz.prog 20 #[.pointer (some ⟨T, o, none⟩)] w (BldRet w B T o v (putI ns g emptyN) (putL ns g emptyN) g) := by
  have hP := Lib.hid (put_any B T o v ns g emptyN w h)
  rw [show nodV emptyN = _ from nodV_z 0 0 0 0 0 0] at hP
  clear h
  go_enter Tryz.func20, Tryz.ntmps20
  go_wp2_with (go_at_call 35; refine (hP.out).mono ?_; rintro e w' ⟨v', rfl, h1, h2⟩)
  go_ret
  exact BldRet.mk rfl h1 h2
theorem bol_any : Calls Tryz.prog 28 #[.pointer (some ⟨T, o, none⟩)] w (BldRet w B T o v (putI ns g bolN) (putL ns g bolN) g) := by
  have hP := Lib.hid (put_any B T o v ns g bolN w h)
  rw [show nodV bolN = _ from nodV_z 7 0 0 0 0 0] at hP
  clear h
  go_enter Tryz.func28, Tryz.ntmps28
  go_wp2_with (go_at_call 35; refine (hP.out).mono ?_; rintro e w' ⟨v', rfl, h1, h2⟩)
  go_ret
  exact BldRet.mk rfl h1 h2
theorem eol_any : Calls Tryz.prog 72 #[.pointer (some ⟨T, o, none⟩)] w (BldRet w B T o v (putI ns g eolN) (putL ns g eolN) g) := by
  have hP := Lib.hid (put_any B T o v ns g eolN w h)
  rw [show nodV eolN = _ from nodV_z 8 0 0 0 0 0] at hP
  clear h
  go_enter Tryz.func72, Tryz.ntmps72
  go_wp2_with (go_at_call 35; refine (hP.out).mono ?_; rintro e w' ⟨v', rfl, h1, h2⟩)
  go_ret
  exact BldRet.mk rfl h1 h2
theorem rep_any (a lo hi : Int) : Calls Tryz.prog 46 #[.pointer (some ⟨T, o, none⟩), .int .i64 a, .int .i64 lo, .int .i64 hi] w (BldRet w B T o v (putI ns g (repN a lo hi)) (putL ns g (repN a lo hi)) g) := by
  have hP := Lib.hid (put_any B T o v ns g (repN a lo hi) w h)
  rw [show nodV (repN a lo hi) = _ from nodV_z 4 a 0 lo hi 0] at hP
  clear h
  go_enter Tryz.func46, Tryz.ntmps46
  go_wp2_with (go_at_call 35; refine (hP.out).mono ?_; rintro e w' ⟨v', rfl, h1, h2⟩)
  go_ret
  exact BldRet.mk rfl h1 h2
theorem group_any (q a : Int) : Calls Tryz.prog 79 #[.pointer (some ⟨T, o, none⟩), .int .i64 q, .int .i64 a] w (BldRet w B T o v (putI ns g (groupN q a)) (putL ns g (groupN q a)) g) := by
  have hP := Lib.hid (put_any B T o v ns g (groupN q a) w h)
  rw [show nodV (groupN q a) = _ from nodV_z 5 a 0 0 0 q] at hP
  clear h
  go_enter Tryz.func79, Tryz.ntmps79
  go_wp2_with (go_at_call 35; refine (hP.out).mono ?_; rintro e w' ⟨v', rfl, h1, h2⟩)
  go_ret
  exact BldRet.mk rfl h1 h2
theorem back_any (q : Int) : Calls Tryz.prog 103 #[.pointer (some ⟨T, o, none⟩), .int .i64 q] w (BldRet w B T o v (putI ns g (backN q)) (putL ns g (backN q)) g) := by
  have hP := Lib.hid (put_any B T o v ns g (backN q) w h)
  rw [show nodV (backN q) = _ from nodV_z 6 0 0 0 0 q] at hP
  clear h
  go_enter Tryz.func103, Tryz.ntmps103
  go_wp2_with (go_at_call 35; refine (hP.out).mono ?_; rintro e w' ⟨v', rfl, h1, h2⟩)
  go_ret
  exact BldRet.mk rfl h1 h2
theorem set_any (s : Nat → Bool) : Calls Tryz.prog 80 #[.pointer (some ⟨T, o, none⟩), setV s] w (BldRet w B T o v (putI ns g (setN s)) (putL ns g (setN s)) g) := by
  have hb : Below w.heap.size w (w.alloc (.cells (setC s) 37)) := (Below.refl _ _).alloc (Nat.le_refl _) _
  have hP := Lib.hid (put_any B T o v ns g (setN s) _ (h.keep hb))
  have hb' := Lib.hid hb
  clear hb
  unfold setV
  rw [show nodV (setN s) = _ from nodV_lit 1 0 0 0 0 0 s] at hP
  rw [show setC s = #[.int .u64 (wd s 0 : Nat), .int .u64 (wd s 1 : Nat), .int .u64 (wd s 2 : Nat), .int .u64 (wd s 3 : Nat)] from rfl] at hP hb' ⊢
  clear h
  go_enter Tryz.func80, Tryz.ntmps80
  go_wp2_with (go_at_call 35; refine (hP.out).mono ?_; rintro e w' ⟨v', rfl, h1, h2⟩)
  go_ret
  exact BldRet.mk rfl h1 ((Chg.of_below hb'.out).trans h2)
end
end Go.Proofs.YtnfbgpjadnlgbaaGreat

set_option linter.unusedVariables false
set_option maxRecDepth 100000
namespace Go.Proofs.YtnfbgpjadnlgbaaGreat
open Go.RowKit

/-- One for all that came and the next, and so on: what is answered, and the nodes. -/
noncomputable def chainGo (g : Nat) (kind : Int) : Int → List Nod → List Int → Int × List Nod
  | all, ns, [] => (all, ns)
  | all, ns, p :: r => if canPut ns g (twoN kind all p) = true then chainGo g kind (ns.length : Int) (ns ++ [twoN kind all p]) r else (-1, ns)
noncomputable def chainN (ns : List Nod) (g : Nat) (kind : Int) : List Int → Int × List Nod
  | [] => (-1, ns)
  | x :: r => if okP (ns.length : Int) x = true then chainGo g kind x ns r else (-1, ns)

/-- Nothing of the source turns. -/
def Apart (A : Option Addr) (T : Nat) (v : Value) : Prop := ∀ ad, A = some ad → ad.block ≠ T ∧ some ad.block ≠ v.ownBlock
theorem Vals.chg {w w' : World} {Bs T o : Nat} {A : Option Addr} {v v' : Value} {xs : List Value} (h : Vals w Bs A xs) (hc : Chg w w' T o v v') (hB : Bs ≤ w.heap.size) (ha : Apart A T v) : Vals w' Bs A xs := by
  intro k hk
  obtain ⟨ad, e, hb, hcell⟩ := h k hk
  obtain ⟨h1, h2⟩ := ha ad e
  refine ⟨ad, e, hb, ?_⟩
  rw [World.cell?_of_block (hc.far _ (by rw [block_add]; omega) (by rw [block_add]; exact h1) (by rw [block_add]; exact h2))]
  exact hcell

def RelCh (w : World) (B T o : Nat) (v : Value) (R : Int × List Nod) (g : Nat) (kind : Int) (rest : List Int) (n : Nat) (a i : Value) (wr : World) : Prop :=
  ∃ (k : Nat) (all : Int) (ns : List Nod) (v' : Value), k ≤ n ∧ i = .int .i64 (k : Nat) ∧ a = .int .i64 all ∧ chainGo g kind all ns (rest.drop k) = R ∧ Bldr wr B T o v' ns g ∧ Chg w wr T o v v'
theorem RelCh.mk {w : World} {B T o : Nat} {v : Value} {R : Int × List Nod} {g : Nat} {kind : Int} {rest : List Int} {n : Nat} {a i : Value} {wr : World} (h : ∃ (k : Nat) (all : Int) (ns : List Nod) (v' : Value), k ≤ n ∧ i = .int .i64 (k : Nat) ∧ a = .int .i64 all ∧ chainGo g kind all ns (rest.drop k) = R ∧ Bldr wr B T o v' ns g ∧ Chg w wr T o v v') : RelCh w B T o v R g kind rest n a i wr := h

set_option maxHeartbeats 4000000 in
theorem chain_any (B T o : Nat) (v : Value) (ns : List Nod) (g : Nat) (kind : Int) (ad : Addr) (n c Bs : Nat) (l : List Int) (w : World) (h : Bldr w B T o v ns g) (hn : n = l.length) (hnc : n ≤ c) (hm : c ≤ 9223372036854775807) (h0 : 0 < n)
    (hv : Vals w Bs (some ad) (l.map (Value.int .i64))) (hBs : Bs ≤ w.heap.size) (ha : Apart (some ad) T v) :
    Calls Tryz.prog 58 #[.pointer (some ⟨T, o, none⟩), .int .i64 kind, .slice (some ad) n c] w (BldRet w B T o v (chainN ns g kind l).1 (chainN ns g kind l).2 g) := by
  obtain ⟨x, r, rfl⟩ : ∃ x r, l = x :: r := by cases l with | nil => simp at hn; omega | cons x r => exact ⟨x, r, rfl⟩
  obtain ⟨m, rfl⟩ : ∃ m, n = m + 1 := ⟨n - 1, by omega⟩
  obtain ⟨d, rfl⟩ : ∃ d, c = d + 1 := ⟨c - 1, by omega⟩
  have hmr : m = r.length := by simpa using hn
  obtain ⟨ad0, e0, -, hx⟩ := hv.at_ (k := 0) (by simp)
  obtain rfl := Option.some.inj e0
  have hx' : w.cell? ad = some (.int .i64 x) := hx
  have hH := Lib.hid (has_any B T o v ns g x w h)
  have hvr : Vals w Bs (some (ad.add 1)) (r.map (Value.int .i64)) := by
    intro k hk
    obtain ⟨ad1, e1, hb1, hc1⟩ := hv (k + 1) (by simpa using hk)
    obtain rfl := Option.some.inj e1
    refine ⟨_, rfl, by rw [block_add]; exact hb1, ?_⟩
    rw [add_two, Nat.add_comm, hc1]; simp
  have har : Apart (some (ad.add 1)) T v := fun a2 e => by
    obtain rfl := Option.some.inj e
    rw [block_add]; exact ha ad rfl
  have hN : chainN ns g kind (x :: r) = if okP (ns.length : Int) x = true then chainGo g kind x ns r else (-1, ns) := rfl
  rw [hN]
  have hh := Lib.hid h
  rw [show ad.add 1 = ⟨ad.block, ad.off + 1, none⟩ from rfl] at hvr har
  have hvh := Lib.hid hvr
  have hah := Lib.hid har
  have hBh := Lib.hid hBs
  have hml := Lib.hid hmr
  clear hv hx e0 ha hn hN h hvr har hBs hmr
  cases hok : okP (ns.length : Int) x
  · rw [hok] at hH
    rw [if_neg (by decide)]
    clear hok
    go_enter Tryz.func58, Tryz.ntmps58
    go_wp2_with (go_at_call 40; refine (hH.out).mono ?_; rintro e w' ⟨rfl, rfl⟩)
    go_ret
    exact BldRet.mk rfl hh.out (Chg.of_below (Below.refl _ _))
  · rw [hok] at hH
    rw [if_pos rfl]
    clear hok
    generalize hR : chainGo g kind x ns r = R
    replace hR := Lib.hid hR
    by_cases hd : d = 0
    · obtain rfl : m = 0 := by omega
      subst hd
      go_enter Tryz.func58, Tryz.ntmps58
      go_wp2_with (go_at_call 40; refine (hH.out).mono ?_; rintro e w' ⟨rfl, rfl⟩)
      clear hH hx'
      go_loopw [7, 9, 20] (fun a _ i wr => RelCh w B T o v R g kind r 0 a i wr) (fun _ _ i _ => 0 - (intOf i).toNat)
      case atStart => exact RelCh.mk ⟨0, x, ns, v, by omega, rfl, rfl, hR.out, hh.out, Chg.of_below (Below.refl _ _)⟩
      case round =>
        obtain ⟨k, all, ns', v', hk, rfl, rfl, hcg, hBl, hCh⟩ := hrel
        by_cases hlt : k < 0
        · omega
        · obtain rfl : k = 0 := by omega
          rw [List.drop_eq_nil_of_le (by have := hml.out; omega)] at hcg
          have hcg' : (all, ns') = R := hcg
          replace hcg' := Lib.hid hcg'
          replace hBl := Lib.hid hBl
          replace hCh := Lib.hid hCh
          clear hcg
          go_wp2
          go_ret
          exact BldRet.mk (by rw [← hcg'.out]) (by rw [← hcg'.out]; exact hBl.out) hCh.out
    · have hd1 : ¬ d + 1 = 1 := by omega
      go_enter Tryz.func58, Tryz.ntmps58
      go_wp2_with (go_at_call 40; refine (hH.out).mono ?_; rintro e w' ⟨rfl, rfl⟩)
      clear hH hx'
      go_loopw [7, 9, 20] (fun a _ i wr => RelCh w B T o v R g kind r m a i wr) (fun _ _ i _ => m - (intOf i).toNat)
      case atStart => exact RelCh.mk ⟨0, x, ns, v, by omega, rfl, rfl, hR.out, hh.out, Chg.of_below (Below.refl _ _)⟩
      case round =>
        obtain ⟨k, all, ns', v', hk, rfl, rfl, hcg, hBl, hCh⟩ := hrel
        by_cases hlt : k < m
        · have hkr : k < r.length := by have := hml.out; omega
          obtain ⟨ad2, e2, -, hd2⟩ := (hvh.out.chg hCh hBh.out hah.out).at_ (k := k) (by rw [List.length_map]; exact hkr)
          obtain rfl := Option.some.inj e2
          rw [List.getElem_map, Addr.add_mid] at hd2
          rw [List.drop_eq_getElem_cons hkr] at hcg
          generalize r[k]'hkr = p at *
          have hP := Lib.hid (put_any B T o v' ns' g (twoN kind all p) wr hBl)
          rw [show nodV (twoN kind all p) = _ from nodV_z kind all p 0 0 0] at hP
          have hcg' : (if canPut ns' g (twoN kind all p) = true then chainGo g kind (ns'.length : Int) (ns' ++ [twoN kind all p]) (r.drop (k + 1)) else (-1, ns')) = R := hcg
          replace hCh := Lib.hid hCh
          clear hcg e2 hBl
          unfold putI putL at hP
          cases hcp : canPut ns' g (twoN kind all p)
          · rw [hcp, if_neg (by decide)] at hcg'
            rw [hcp, if_neg (by decide), if_neg (by decide)] at hP
            replace hcg' := Lib.hid hcg'
            clear hcp
            go_wp2_with (go_at_call 35; refine (hP.out).mono ?_; rintro e w' ⟨v2, rfl, h1, h2⟩; have hB2 := Lib.hid h1; have hC2 := Lib.hid h2; clear h1 h2)
            go_ret
            exact BldRet.mk (by rw [← hcg'.out]) (by rw [← hcg'.out]; exact hB2.out) (hCh.out.trans hC2.out)
          · rw [hcp, if_pos rfl] at hcg'
            rw [hcp, if_pos rfl, if_pos rfl] at hP
            replace hcg' := Lib.hid hcg'
            clear hcp
            generalize ns' ++ [twoN kind all p] = ns2 at *
            generalize ns'.length = L at *
            have hq : ((L : Int) == -1) = false := by rw [beq_eq_false_iff_ne]; omega
            go_wp2_with (go_at_call 35; refine (hP.out).mono ?_; rintro e w' ⟨v2, rfl, h1, h2⟩; have hB2 := Lib.hid h1; have hC2 := Lib.hid h2; clear h1 h2)
            go_roundw
            case rel => exact RelCh.mk ⟨k + 1, (L : Int), ns2, v2, by omega, by go_num, rfl, hcg'.out, hB2.out, hCh.out.trans hC2.out⟩
            case measure => simp [intOf]; omega
        · obtain rfl : k = m := by omega
          rw [List.drop_eq_nil_of_le (by have := hml.out; omega)] at hcg
          have hcg' : (all, ns') = R := hcg
          replace hcg' := Lib.hid hcg'
          replace hBl := Lib.hid hBl
          replace hCh := Lib.hid hCh
          clear hcg
          go_wp2
          go_ret
          exact BldRet.mk (by rw [← hcg'.out]) (by rw [← hcg'.out]; exact hBl.out) hCh.out

/-- What Cat and Alt answer. -/
noncomputable def catR (ns : List Nod) (g : Nat) (l : List Int) : Int × List Nod := if l = [] then (putI ns g emptyN, putL ns g emptyN) else chainN ns g 2 l
noncomputable def altR (ns : List Nod) (g : Nat) (l : List Int) : Int × List Nod := if l = [] then (-1, ns) else chainN ns g 3 l
section
variable (B T o : Nat) (v : Value) (ns : List Nod) (g : Nat) (A : Option Addr) (n c Bs : Nat) (l : List Int) (w : World) (h : Bldr w B T o v ns g) (hn : n = l.length) (hnc : n ≤ c) (hm : c ≤ 9223372036854775807) (hv : Vals w Bs A (l.map (Value.int .i64))) (hBs : Bs ≤ w.heap.size) (ha : Apart A T v)
include h hn hnc hm hv hBs ha
theorem cat_any : Calls Tryz.prog 48 #[.pointer (some ⟨T, o, none⟩), .slice A n c] w (BldRet w B T o v (catR ns g l).1 (catR ns g l).2 g) := by
  by_cases hl : l = []
  · subst hl
    obtain rfl : n = 0 := by simpa using hn
    rw [show catR ns g [] = (putI ns g emptyN, putL ns g emptyN) from rfl]
    have hE := Lib.hid (empty_any B T o v ns g w h)
    clear h hn hv ha
    go_enter Tryz.func48, Tryz.ntmps48
    go_wp2_with (go_at_call 20; refine (hE.out).mono ?_; rintro e w' ⟨v', rfl, h1, h2⟩)
    go_ret
    exact BldRet.mk rfl h1 h2
  · have hn0 : 0 < n := by
      have : l.length ≠ 0 := fun e => hl (List.length_eq_zero_iff.1 e)
      omega
    obtain ⟨ad, e, -, -⟩ := hv.at_ (k := 0) (by simpa using (by omega : 0 < l.length))
    subst e
    have hE := Lib.hid (chain_any B T o v ns g 2 ad n c Bs l w h hn hnc hm hn0 hv hBs ha)
    rw [show catR ns g l = chainN ns g 2 l by simp [catR, hl]]
    have hq : ((n : Int) == 0) = false := by rw [beq_eq_false_iff_ne]; omega
    clear h hn hv ha hl
    generalize chainN ns g 2 l = R at *
    go_enter Tryz.func48, Tryz.ntmps48
    go_wp2_with (go_at_call 58; refine (hE.out).mono ?_; rintro e w' ⟨v', rfl, h1, h2⟩)
    go_ret
    exact BldRet.mk rfl h1 h2
theorem alt_any : Calls Tryz.prog 37 #[.pointer (some ⟨T, o, none⟩), .slice A n c] w (BldRet w B T o v (altR ns g l).1 (altR ns g l).2 g) := by
  by_cases hl : l = []
  · subst hl
    obtain rfl : n = 0 := by simpa using hn
    rw [show altR ns g [] = (-1, ns) from rfl]
    have hE := Lib.hid h
    clear h hn hv ha
    go_enter Tryz.func37, Tryz.ntmps37
    go_wp2
    go_ret
    exact BldRet.mk rfl hE.out (Chg.of_below (Below.refl _ _))
  · have hn0 : 0 < n := by
      have : l.length ≠ 0 := fun e => hl (List.length_eq_zero_iff.1 e)
      omega
    obtain ⟨ad, e, -, -⟩ := hv.at_ (k := 0) (by simpa using (by omega : 0 < l.length))
    subst e
    have hE := Lib.hid (chain_any B T o v ns g 3 ad n c Bs l w h hn hnc hm hn0 hv hBs ha)
    rw [show altR ns g l = chainN ns g 3 l by simp [altR, hl]]
    have hq : ((n : Int) == 0) = false := by rw [beq_eq_false_iff_ne]; omega
    clear h hn hv ha hl
    generalize chainN ns g 3 l = R at *
    go_enter Tryz.func37, Tryz.ntmps37
    go_wp2_with (go_at_call 58; refine (hE.out).mono ?_; rintro e w' ⟨v', rfl, h1, h2⟩)
    go_ret
    exact BldRet.mk rfl h1 h2
end
end Go.Proofs.YtnfbgpjadnlgbaaGreat

set_option maxRecDepth 100000
namespace Go.Proofs.YtnfbgpjadnlgbaaGreat
open Go.RowKit

/-- All are 1. -/
def onceL (l : List Int) : Bool := l.all fun x => decide (x = 1)
theorem onceL_no {l : List Int} {k : Nat} (hk : k < l.length) (h : l[k]'hk ≠ 1) : onceL l = false := by
  unfold onceL
  rw [List.all_eq_false]
  exact ⟨_, List.getElem_mem hk, by simpa using h⟩
theorem onceL_yes {l : List Int} (h : ∀ k (hk : k < l.length), l[k]'hk = 1) : onceL l = true := by
  unfold onceL
  rw [List.all_eq_true]
  intro x hx
  obtain ⟨k, hk, rfl⟩ := List.getElem_of_mem hx
  simpa using h k hk
theorem notOne_any (x : Int) (w : World) : Calls Tryz.prog 76 #[.int .i64 x] w fun e w' => e = .returned (.bool (x != 1)) ∧ w = w' := by
  go_enter Tryz.func76, Tryz.ntmps76
  go_wp2
  go_ret
  exact ⟨rfl, rfl⟩
/-- A place is told just if not all are 1. -/
def IdxRet (l : List Int) (w : World) (e : Ending) (w' : World) : Prop := ∃ z : Int, e = .returned (.int .i64 z) ∧ decide (0 ≤ z) = !onceL l ∧ w = w'
theorem IdxRet.mk {l : List Int} {w w' : World} {z : Int} (h : decide (0 ≤ z) = !onceL l) (hw : w = w') : IdxRet l w (.returned (.int .i64 z)) w' := ⟨z, rfl, h, hw⟩

set_option maxHeartbeats 1000000 in
theorem indexNot_any (A : Option Addr) (n c : Nat) (l : List Int) (B : Nat) (w : World) (hn : n = l.length) (hnc : n ≤ c) (hm : c ≤ maxLen) (h : Vals w B A (l.map (Value.int .i64))) :
    Calls Tryz.prog 92 #[.slice A n c, .func (.func 76) #[] #[]] w (IdxRet l w) := by
  unfold maxLen at hm
  have eg : ∀ args w, (callFunc 76 args).run Tryz.prog w = .ok (.enter 76 args) w := enters_of Tryz.func76 (by kernel_rfl) rfl
  have hH := Lib.hid hn
  clear hn
  go_enter Tryz.func92, Tryz.ntmps92
  go_wp2
  go_loop [5, 8] (fun _ i => ∃ k : Nat, k ≤ n ∧ i = .int .i64 (k : Nat) ∧ Hid (∀ j (hj : j < l.length), j < k → l[j]'hj = 1)) (fun _ i => n - (intOf i).toNat)
  case atStart => exact ⟨0, by omega, rfl, Lib.hid fun j hj h => absurd h (by omega)⟩
  case round =>
    obtain ⟨k, hk, rfl, hr⟩ := hrel
    by_cases hlt : k < n
    · have hkl : k < l.length := by have := hH.out; omega
      obtain ⟨ad, hA, -, hd⟩ := h.at_ (k := k) (by rw [List.length_map]; exact hkl)
      subst hA
      rw [List.getElem_map] at hd
      by_cases he : l[k]'hkl = 1
      · have hN := Lib.hid (show ∀ j (hj : j < l.length), j < k + 1 → l[j]'hj = 1 from fun j hj hl => by
          rcases Nat.lt_or_ge j k with h1 | h1
          · exact hr.out j hj h1
          · obtain rfl : j = k := by omega
            exact he)
        rw [he] at hd
        clear he
        have hS := Lib.hid (notOne_any 1 w)
        go_wp2_with (go_at_fn 76; refine (hS.out).mono ?_; rintro e w' ⟨rfl, rfl⟩)
        go_round
        case rel => exact ⟨k + 1, by omega, by go_num, hN⟩
        case measure => simp [intOf]; omega
      · have hP := Lib.hid (onceL_no hkl he)
        have hS := Lib.hid (show Calls Tryz.prog 76 #[.int .i64 (l[k]'hkl)] w fun e w' => e = .returned (.bool true) ∧ w = w' by
          have := notOne_any (l[k]'hkl) w
          rw [show (l[k]'hkl != 1) = true by rw [bne_iff_ne]; exact he] at this; exact this)
        generalize l[k]'hkl = x at *
        clear he
        go_wp2_with (go_at_fn 76; refine (hS.out).mono ?_; rintro e w' ⟨rfl, rfl⟩)
        go_ret
        exact IdxRet.mk (by rw [hP.out]; simp) rfl
    · obtain rfl : k = n := by omega
      go_wp2
      go_ret
      exact IdxRet.mk (by rw [onceL_yes fun j hj => hr.out j hj (by have := hH.out; omega)]; decide) rfl

theorem containsNot_any (A : Option Addr) (n c : Nat) (l : List Int) (B : Nat) (w : World) (hn : n = l.length) (hnc : n ≤ c) (hm : c ≤ maxLen) (h : Vals w B A (l.map (Value.int .i64))) :
    Calls Tryz.prog 75 #[.slice A n c, .func (.func 76) #[] #[]] w fun e w' => e = .returned (.bool (!onceL l)) ∧ w = w' := by
  have hI := Lib.hid (indexNot_any A n c l B w hn hnc hm h)
  clear hn h hnc hm
  go_enter Tryz.func75, Tryz.ntmps75
  go_wp2_with (go_at_call 92; refine (hI.out).mono ?_; rintro e w' ⟨z, rfl, hz, rfl⟩; have hz' := Lib.hid hz; clear hz)
  go_ret
  exact ⟨ret_bool hz'.out, rfl⟩
theorem allOnce_any (A : Option Addr) (n c : Nat) (l : List Int) (B : Nat) (w : World) (hn : n = l.length) (hnc : n ≤ c) (hm : c ≤ maxLen) (h : Vals w B A (l.map (Value.int .i64))) :
    Calls Tryz.prog 60 #[.slice A n c] w fun e w' => e = .returned (.bool (onceL l)) ∧ w = w' := by
  have hI := Lib.hid (containsNot_any A n c l B w hn hnc hm h)
  clear hn h hnc hm
  generalize onceL l = b at *
  go_enter Tryz.func60, Tryz.ntmps60
  go_wp2_with (go_at_call 75; refine (hI.out).mono ?_; rintro e w' ⟨rfl, rfl⟩)
  go_ret
  exact ⟨ret_bool (by simp), rfl⟩
end Go.Proofs.YtnfbgpjadnlgbaaGreat

set_option maxRecDepth 100000
namespace Go.Proofs.YtnfbgpjadnlgbaaGreat
open Go.RowKit

/-! ### Rows of numbers, by a function -/
def rowC (m : Nat) (f : Nat → Int) : Array Value := ((List.range m).map fun i => Value.int .i64 (f i)).toArray
theorem rowC_get (m : Nat) (f : Nat → Int) (i : Nat) (h : i < m) : (rowC m f)[i]? = some (.int .i64 (f i)) := by
  unfold rowC
  rw [List.getElem?_toArray, List.getElem?_map, List.getElem?_range h]; rfl
theorem rowC_size (m : Nat) (f : Nat → Int) : (rowC m f).size = m := by simp [rowC]
theorem rowC_congr {m : Nat} {f g : Nat → Int} (h : ∀ i, i < m → f i = g i) : rowC m f = rowC m g := by
  unfold rowC
  congr 1
  exact List.map_congr_left fun i hi => by rw [h i (List.mem_range.1 hi)]
theorem rowC_set (m : Nat) (f : Nat → Int) (p : Nat) (x : Int) : (rowC m f).setIfInBounds p (.int .i64 x) = rowC m (fun i => if i = p then x else f i) := by
  apply Array.ext_getElem?
  intro i
  rw [Array.getElem?_setIfInBounds]
  by_cases hi : p = i
  · subst hi
    rw [if_pos rfl, rowC_size]
    by_cases hp : p < m
    · rw [if_pos hp, rowC_get _ _ _ hp]; simp
    · rw [if_neg hp, Array.getElem?_eq_none (by rw [rowC_size]; omega)]
  · rw [if_neg hi]
    by_cases hl : i < m
    · have : ¬ i = p := fun e => hi e.symm
      rw [rowC_get _ _ _ hl, rowC_get _ _ _ hl]; simp [this]
    · rw [Array.getElem?_eq_none (by rw [rowC_size]; omega), Array.getElem?_eq_none (by rw [rowC_size]; omega)]
theorem rowC_zero (m : Nat) : (madeCells #[.int .i64 0] m) = rowC m (fun _ => 0) := by
  apply Array.toList_inj.1
  rw [toList_madeCells_one]
  simp [rowC, List.map_const']
theorem int_info : (Tryz.prog.info? 3).map (fun i => (i.zero, i.size, i.bytes)) = some (some (.int .i64 0), 1, 8) := by kernel_rfl
/-- make([]int, m). -/
theorem make_ints (m : Nat) (h : m ≤ 1000000) (w : World) :
    (Instr.makeSlice 57 (.int .i64 (m : Int)) (.int .i64 (m : Int))).run Tryz.prog w = .ok (.slice (some ⟨w.heap.size, 0, none⟩) m m) (w.alloc (.cells (rowC m (fun _ => 0)) 3)) := by
  obtain ⟨i, hi, hh⟩ := Option.map_eq_some_iff.1 int_info
  simp only [Prod.mk.injEq] at hh
  obtain ⟨h1, h2, h3⟩ := hh
  have hr := run_make (P := Tryz.prog) w 57 3 i (.int .i64 0) Tryz.underlying57 hi h1 .i64 .i64 (m : Int) (m : Int) (by omega) (Int.le_refl _) (by rw [h3]; omega) (by omega)
  rw [hr, h2]
  simp only [Int.toNat_natCast, Nat.mul_one]
  rw [show (Value.int .i64 0).cells = #[.int .i64 0] from rfl, rowC_zero]
theorem Held.rowVals {w : World} {g m : Nat} {t : TypeId} {f : Nat → Int} (h : Held w g t (rowC m f)) (k : Nat) (hk : k ≤ m) : Vals w (g + 1) (some ⟨g, 0, none⟩) (((List.range k).map f).map (Value.int .i64)) := by
  intro j hj
  have hj' : j < k := by simpa using hj
  refine ⟨_, rfl, Nat.lt_succ_self _, ?_⟩
  rw [add_zero_off, h.at_ (rowC_get m f j (by omega))]
  simp
theorem Held.rowVals1 {w : World} {g m : Nat} {t : TypeId} {f : Nat → Int} (h : Held w g t (rowC (m + 1) f)) : Vals w (g + 1) (some ⟨g, 1, none⟩) (((List.range m).map fun i => f (i + 1)).map (Value.int .i64)) := by
  intro j hj
  have hj' : j < m := by simpa using hj
  refine ⟨_, rfl, Nat.lt_succ_self _, ?_⟩
  rw [Addr.add_mid, Nat.add_comm, h.at_ (rowC_get (m + 1) f (j + 1) (by omega))]
  simp

/-! ### Counts -/
def cntI (l : List Int) (i : Nat) : Int := (l.countP (fun x => decide (x = (i : Int))) : Nat)
theorem cntI_nil (i : Nat) : cntI [] i = 0 := rfl
theorem cntI_snoc (l : List Int) (p : Nat) (i : Nat) : cntI (l ++ [(p : Int)]) i = if i = p then cntI l p + 1 else cntI l i := by
  unfold cntI
  rw [List.countP_append]
  by_cases h : i = p
  · subst h; simp
  · have : ¬ (p : Int) = (i : Int) := by omega
    simp [h, this]
theorem cntI_le (l : List Int) (i : Nat) : 0 ≤ cntI l i ∧ cntI l i ≤ l.length := by
  unfold cntI
  have := List.countP_le_length (p := fun x => decide (x = (i : Int))) (l := l)
  omega
/-- How often each node is a part of one, and each group that of an NGroup. -/
def usesN (ns : List Nod) : Nat → Int := cntI (ns.flatMap partsN)
def grpsN (ns : List Nod) : Nat → Int := cntI ((ns.filter fun n => decide (n.kind = 5)).map Nod.grp)
theorem partsN_len (n : Nod) : (partsN n).length ≤ 2 := by unfold partsN; split <;> (try split) <;> simp
theorem flat_len (ns : List Nod) : (ns.flatMap partsN).length ≤ 2 * ns.length := by
  induction ns with
  | nil => simp
  | cons n ns ih => have := partsN_len n; simp only [List.flatMap_cons, List.length_append, List.length_cons]; omega
theorem grp_len (ns : List Nod) : ((ns.filter fun n => decide (n.kind = 5)).map Nod.grp).length ≤ ns.length := by
  rw [List.length_map]; exact List.length_filter_le _ _

/-- Is it right? -/
noncomputable def rightN (ns : List Nod) (g : Int) : Bool :=
  (decide (1 ≤ ns.length) && decide (ns.length ≤ 1000) && decide (0 ≤ g) && decide (g ≤ 9)) &&
    (@decide (∀ k (hk : k < ns.length), fitsN (ns[k]'hk) (k : Int) g = true) (Classical.propDecidable _) &&
    (onceL ((List.range (ns.length - 1)).map (usesN ns)) && onceL ((List.range g.toNat).map fun i => grpsN ns (i + 1))))
theorem rightN_size {ns : List Nod} {g : Int} (h : ¬ (1 ≤ ns.length ∧ ns.length ≤ 1000 ∧ 0 ≤ g ∧ g ≤ 9)) : rightN ns g = false := by
  unfold rightN
  have : (decide (1 ≤ ns.length) && decide (ns.length ≤ 1000) && decide (0 ≤ g) && decide (g ≤ 9)) = false := by
    rw [Bool.eq_false_iff]
    intro e
    simp only [Bool.and_eq_true, decide_eq_true_eq] at e
    exact h ⟨e.1.1.1, e.1.1.2, e.1.2, e.2⟩
  rw [this]; rfl
theorem rightN_fits {ns : List Nod} {g : Int} {k : Nat} (hk : k < ns.length) (h : fitsN (ns[k]'hk) (k : Int) g = false) : rightN ns g = false := by
  unfold rightN
  have : @decide (∀ k (hk : k < ns.length), fitsN (ns[k]'hk) (k : Int) g = true) (Classical.propDecidable _) = false := by
    refine @decide_eq_false _ (Classical.propDecidable _) fun e => ?_
    rw [e k hk] at h; cases h
  rw [this]; simp
theorem rightN_end {ns : List Nod} {g : Int} (h : 1 ≤ ns.length ∧ ns.length ≤ 1000 ∧ 0 ≤ g ∧ g ≤ 9) (hf : ∀ k (hk : k < ns.length), fitsN (ns[k]'hk) (k : Int) g = true) :
    rightN ns g = (onceL ((List.range (ns.length - 1)).map (usesN ns)) && onceL ((List.range g.toNat).map fun i => grpsN ns (i + 1))) := by
  unfold rightN
  rw [@decide_eq_true _ (Classical.propDecidable _) hf, decide_eq_true h.1, decide_eq_true h.2.1, decide_eq_true h.2.2.1, decide_eq_true h.2.2.2]; simp
theorem fits_part {n : Nod} {t g p : Int} (h : fitsN n t g = true) (hp : p ∈ partsN n) : 0 ≤ p ∧ p < t := by
  unfold fitsN at h
  rw [Bool.and_eq_true, List.all_eq_true] at h
  have := h.1 p hp
  simpa [okP] using this
theorem fits_grp {n : Nod} {t g : Int} (h : fitsN n t g = true) (hk : n.kind = 5) : 1 ≤ n.grp ∧ n.grp ≤ g := by
  unfold fitsN at h
  simp only [Bool.and_eq_true, Bool.or_eq_true, decide_eq_true_eq] at h
  rcases h.2.2.1 with h1 | h1
  · exact absurd hk h1.1
  · exact h1
end Go.Proofs.YtnfbgpjadnlgbaaGreat

set_option maxRecDepth 100000
namespace Go.Proofs.YtnfbgpjadnlgbaaGreat
open Go.RowKit

theorem no_pred {a b : Nat} : a ≤ b ∨ b < a := by omega
set_option maxHeartbeats 8000000 in
theorem right_small (A : Option Addr) (n c : Nat) (ns : List Nod) (g : Int) (w : World) (hn : n = ns.length) (hm : n ≤ maxLen) (h : ¬ (1 ≤ ns.length ∧ ns.length ≤ 1000 ∧ 0 ≤ g ∧ g ≤ 9)) :
    Calls Tryz.prog 42 #[.agg #[.slice A n c, .int .i64 g]] w fun e w' => e = .returned (.bool false) ∧ Below w.heap.size w w' := by
  unfold maxLen at hm
  have hb := Lib.hid ((Below.refl w.heap.size w).alloc (Nat.le_refl _) (.cells #[.slice A n c, .int .i64 g] 26))
  rw [← hn] at h
  clear hn
  by_cases h1 : n < 1
  · clear h
    go_enter Tryz.func42, Tryz.ntmps42
    go_wp2
    go_ret
    exact ⟨rfl, hb.out⟩
  by_cases h2 : 1000 < n
  · clear h
    go_enter Tryz.func42, Tryz.ntmps42
    go_wp2
    go_ret
    exact ⟨rfl, hb.out⟩
  by_cases h3 : g < 0
  · clear h
    go_enter Tryz.func42, Tryz.ntmps42
    go_wp2
    go_ret
    exact ⟨rfl, hb.out⟩
  by_cases h4 : 9 < g
  · clear h
    go_enter Tryz.func42, Tryz.ntmps42
    go_wp2
    go_ret
    exact ⟨rfl, hb.out⟩
  · exact absurd ⟨by omega, by omega, by omega, by omega⟩ h

end Go.Proofs.YtnfbgpjadnlgbaaGreat
